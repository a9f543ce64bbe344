
import PyProof.Rows.All
import HandS.ForMost
import HandS.Exc
import HandS.TryOnly
import HandS.ExcOwn
import HandS.ExcInit
import HandS.ExcField
import HandS.ExcIs
import HandS.WordsExc
import HandS.Wide
import KE.KExcIs
import PyProof.ReprRoads
import HandS.FStr
import HandS.StrMore
import HandS.Steps
import HandS.IsInst
import HandS.Text
import HandS.Dict
import HandS.Conv
import HandS.Gcd
import HandS.Style
import KE.KMathG
import KE.KMathGC
import HandS.Deep
import HandS.SetFor
import KE.SortData
import KE.DataCmp
import KE.DataMinMax
import HandS.SortInts
import HandS.Iter
import PyProof.ZipIter
import HandS.Zip
import KE.OsSetLaws
import KE.KDictZip
import PyProof.EnumFor
import HandS.SortKw
import HandS.ListItems
import KE.KItemsList
import Wide.All
import OpenK.AllK
import Wide.FinOn
import PySem.Challenge.RW_trunkweb_k69_quick_covers
set_option Elab.async false
set_option linter.all false
set_option maxRecDepth 100000
set_option maxHeartbeats 2000000
namespace Z
open PySem PySem.Spec PyProof.Rows L2

theorem perm_swap {α : Type} (a b c : List α) : (a ++ (b ++ c)).Perm (b ++ (a ++ c)) := by
  have h : ((a ++ b) ++ c).Perm ((b ++ a) ++ c) := (List.perm_append_comm).append_right c
  rw [List.append_assoc, List.append_assoc] at h
  exact h
abbrev Cell := Addr × HO
structure Lay (G : Hp) (L : List Cell) (H : Hp) : Prop where
  off : ∀ b, (∀ c ∈ L, c.1 ≠ b) → H b = G b
  on : ∀ c ∈ L, H c.1 = some c.2 ∧ G c.1 = none
  nd : (L.map (·.1)).Nodup
theorem Lay.same {G H : Hp} {L : List Cell} (l : Lay G L H) : Same G H := fun b o e => by
  rw [l.off b fun c hc z => ?_]
  · exact e
  · have := (l.on c hc).2
    rw [z, e] at this
    cases this
theorem Lay.fresh {G H : Hp} {L : List Cell} {p : Addr} (l : Lay G L H) (h : H p = none) : ∀ c ∈ L, c.1 ≠ p := fun c hc z => by
  have := (l.on c hc).1
  rw [z, h] at this
  cases this
theorem Lay.freshG {G H : Hp} {L : List Cell} {p : Addr} (l : Lay G L H) (h : H p = none) : G p = none := by
  rw [← l.off p (l.fresh h)]
  exact h
theorem Lay.perm {G H : Hp} {L L' : List Cell} (l : Lay G L H) (q : L.Perm L') : Lay G L' H :=
  ⟨fun b hb => l.off b fun c hc => hb c (q.mem_iff.mp hc), fun c hc => l.on c (q.mem_iff.mpr hc), (q.map _).nodup_iff.mp l.nd⟩
theorem Lay.nil {H : Hp} : Lay H [] H := ⟨fun _ _ => rfl, fun _ h => (by cases h), by simp⟩
theorem Lay.grow {G H : Hp} {L : List Cell} {p : Addr} {o : HO} (l : Lay G L H) (h : H p = none) : Lay (upd G p o) L (upd H p o) := by
  have f := l.fresh h
  refine ⟨fun b hb => ?_, fun c hc => ?_, l.nd⟩
  · by_cases e : b = p
    · rw [e, upd_same, upd_same]
    · rw [upd_ne e, upd_ne e]; exact l.off b hb
  · rw [upd_ne (f c hc), upd_ne (f c hc)]; exact l.on c hc
theorem Lay.cell {G H : Hp} {L : List Cell} {p : Addr} {o : HO} (l : Lay G L H) (h : H p = none) : Lay G ((p, o) :: L) (upd H p o) := by
  have f := l.fresh h
  refine ⟨fun b hb => ?_, fun c hc => ?_, ?_⟩
  · have e : b ≠ p := fun z => hb (p, o) (List.mem_cons_self ..) z.symm
    rw [upd_ne e]
    exact l.off b fun c hc => hb c (List.mem_cons_of_mem _ hc)
  · rcases List.mem_cons.mp hc with z | z
    · subst z; exact ⟨upd_same, l.freshG h⟩
    · rw [upd_ne (f c z)]; exact l.on c z
  · rw [List.map_cons, List.nodup_cons]
    refine ⟨fun z => ?_, l.nd⟩
    obtain ⟨c, hc, e⟩ := List.mem_map.mp z
    exact f c hc e
theorem Lay.ne {G H : Hp} {L : List Cell} {p : Addr} {o : HO} (l : Lay G ((p, o) :: L) H) : ∀ c ∈ L, c.1 ≠ p := fun c hc z => by
  have := l.nd
  rw [List.map_cons, List.nodup_cons] at this
  exact this.1 (List.mem_map.mpr ⟨c, hc, z⟩)
theorem Lay.store {G H : Hp} {L : List Cell} {p : Addr} {o u : HO} (l : Lay G ((p, o) :: L) H) : Lay G ((p, u) :: L) (upd H p u) := by
  have f := l.ne
  have l0 := l.on (p, o) (List.mem_cons_self ..)
  refine ⟨fun b hb => ?_, fun c hc => ?_, by have := l.nd; simpa using this⟩
  · have e : b ≠ p := fun z => hb (p, u) (List.mem_cons_self ..) z.symm
    rw [upd_ne e]
    refine l.off b fun c hc => ?_
    rcases List.mem_cons.mp hc with z | z
    · subst z; exact fun z => e z.symm
    · exact hb c (List.mem_cons_of_mem _ z)
  · rcases List.mem_cons.mp hc with z | z
    · subst z; exact ⟨upd_same, l0.2⟩
    · rw [upd_ne (f c z)]; exact l.on c (List.mem_cons_of_mem _ z)
theorem Lay.freeze {G H : Hp} {L : List Cell} {p : Addr} {o : HO} (l : Lay G ((p, o) :: L) H) : Lay (upd G p o) L H := by
  have f := l.ne
  have l0 := l.on (p, o) (List.mem_cons_self ..)
  refine ⟨fun b hb => ?_, fun c hc => ?_, ?_⟩
  · by_cases e : b = p
    · rw [e, upd_same]; exact l0.1
    · rw [upd_ne e]
      refine l.off b fun c hc => ?_
      rcases List.mem_cons.mp hc with z | z
      · subst z; exact fun z => e z.symm
      · exact hb c z
  · rw [upd_ne (f c hc)]; exact l.on c (List.mem_cons_of_mem _ hc)
  · have := l.nd
    rw [List.map_cons, List.nodup_cons] at this
    exact this.2
theorem same_upd {G : Hp} {p : Addr} {o : HO} (h : G p = none) : Same G (upd G p o) := fun b x e => by
  rw [upd_ne (ne_of_none e h)]; exact e
theorem Lay.freezeAll {G H : Hp} : ∀ {L M : List Cell}, Lay G (L ++ M) H → ∃ G', Same G G' ∧ Lay G' M H ∧ ∀ c ∈ L, G' c.1 = some c.2
  | [], M, l => ⟨G, Same.refl G, l, fun _ h => (by cases h)⟩
  | (p, o) :: L, M, l => by
    have hp := (l.on (p, o) (List.mem_cons_self ..)).2
    have l' : Lay (upd G p o) (L ++ M) H := Lay.freeze l
    obtain ⟨G', s, l'', k⟩ := Lay.freezeAll l'
    refine ⟨G', (same_upd hp).trans s, l'', fun c hc => ?_⟩
    rcases List.mem_cons.mp hc with z | z
    · subst z; exact s _ _ upd_same
    · exact k c z
theorem Lay.uncell {G H : Hp} {L : List Cell} {p : Addr} {o : HO} (l : Lay G ((p, o) :: L) H) : ∃ H', H' p = none ∧ H = upd H' p o ∧ Lay G L H' := by
  refine ⟨fun b => if b = p then none else H b, if_pos rfl, ?_, fun b hb => ?_, fun c hc => ?_, ?_⟩
  · funext b
    by_cases hb : b = p
    · rw [hb, upd_same]; exact (l.on _ (List.mem_cons_self ..)).1
    · rw [upd_ne hb, if_neg hb]
  · by_cases h : b = p
    · rw [h, if_pos rfl]; exact ((l.on _ (List.mem_cons_self ..)).2).symm
    · rw [if_neg h]
      refine l.off b fun c hc => ?_
      rcases List.mem_cons.mp hc with z | z
      · subst z; exact fun z => h z.symm
      · exact hb c z
  · rw [if_neg (l.ne c hc)]; exact l.on c (List.mem_cons_of_mem _ hc)
  · have := l.nd
    rw [List.map_cons, List.nodup_cons] at this
    exact this.2
structure Rp where
  p : Hp → V → Prop
  up : ∀ {H H' : Hp} {v : V}, Same H H' → p H v → p H' v
structure Op where
  p : Hp → Addr → List Cell → Prop
  up : ∀ {H H' : Hp} {a : Addr} {cs : List Cell}, Same H H' → p H a cs → p H' a cs
structure Bw where
  p : Hp → List Cell → V → Prop
  up : ∀ {H H' : Hp} {L L' : List Cell} {v : V}, Same H H' → (∀ c ∈ L, c ∈ L') → p H L v → p H' L' v
def pu (R : Rp) : Bw := ⟨fun G _ v => R.p G v, fun e _ h => R.up e h⟩
inductive Sl where
  | x | p (R : Rp) | o (O : Op) | b (B : Bw)
inductive Slots (G : Hp) (L0 : List Cell) : L2.St → List Sl → List Cell → Prop
  | nil : Slots G L0 [] [] []
  | x {v σ ρ L} : Slots G L0 σ ρ L → Slots G L0 (v :: σ) (.x :: ρ) L
  | p {R : Rp} {v σ ρ L} : R.p G v → Slots G L0 σ ρ L → Slots G L0 (some v :: σ) (.p R :: ρ) L
  | o {O : Op} {a cs σ ρ L} : O.p G a cs → Slots G L0 σ ρ L → Slots G L0 (some (.ref a) :: σ) (.o O :: ρ) (cs ++ L)
  | b {B : Bw} {v σ ρ L} : B.p G L0 v → Slots G L0 σ ρ L → Slots G L0 (some v :: σ) (.b B :: ρ) L
theorem Slots.up {G G' : Hp} {L0 : List Cell} (e : Same G G') : ∀ {σ ρ L}, Slots G L0 σ ρ L → Slots G' L0 σ ρ L
  | _, _, _, .nil => .nil
  | _, _, _, .x s => .x (s.up e)
  | _, _, _, .p h s => .p (Rp.up _ e h) (s.up e)
  | _, _, _, .o h s => .o (Op.up _ e h) (s.up e)
  | _, _, _, .b h s => .b (Bw.up _ e (fun _ z => z) h) (s.up e)
theorem Slots.get_p {G : Hp} {L0 : List Cell} {R : Rp} : ∀ {σ ρ L} {i : Nat}, Slots G L0 σ ρ L → ρ[i]? = some (.p R) → ∃ v, σ[i]? = some (some v) ∧ R.p G v
  | _, _, _, _, .nil, h => by simp at h
  | _, _, _, 0, .x _, h => by simp at h
  | _, _, _, 0, .p q _, h => by simp at h; subst h; exact ⟨_, rfl, q⟩
  | _, _, _, 0, .o _ _, h => by simp at h
  | _, _, _, 0, .b _ _, h => by simp at h
  | _, _, _, i + 1, .b _ s, h => s.get_p (i := i) (by simpa using h)
  | _, _, _, i + 1, .x s, h => s.get_p (i := i) (by simpa using h)
  | _, _, _, i + 1, .p _ s, h => s.get_p (i := i) (by simpa using h)
  | _, _, _, i + 1, .o _ s, h => s.get_p (i := i) (by simpa using h)
theorem Slots.set_p {G : Hp} {L0 : List Cell} {R : Rp} {v : V} (q : R.p G v) : ∀ {σ ρ L} (i : Nat), Slots G L0 σ ρ L → ∃ C L', L.Perm (C ++ L') ∧ Slots G L0 (σ.set i (some v)) (ρ.set i (.p R)) L'
  | _, _, _, _, .nil => ⟨[], [], by simp, .nil⟩
  | _, _, _, 0, .x s => ⟨[], _, by simp, .p q s⟩
  | _, _, _, 0, .p _ s => ⟨[], _, by simp, .p q s⟩
  | _, _, _, 0, .b _ s => ⟨[], _, by simp, .p q s⟩
  | _, _, _, i + 1, .b h s => by
    obtain ⟨C, L', e, s'⟩ := s.set_p q i
    exact ⟨C, L', e, .b h s'⟩
  | _, _, _, 0, .o (cs := cs) _ s => ⟨cs, _, by simp, .p q s⟩
  | _, _, _, i + 1, .x s => by
    obtain ⟨C, L', e, s'⟩ := s.set_p q i
    exact ⟨C, L', e, .x s'⟩
  | _, _, _, i + 1, .p h s => by
    obtain ⟨C, L', e, s'⟩ := s.set_p q i
    exact ⟨C, L', e, .p h s'⟩
  | _, _, _, i + 1, .o (cs := cs) h s => by
    obtain ⟨C, L', e, s'⟩ := s.set_p q i
    refine ⟨C, cs ++ L', ?_, .o h s'⟩
    refine (e.append_left cs).trans ?_
    rw [← List.append_assoc, ← List.append_assoc]
    exact (List.perm_append_comm).append_right L'
theorem Slots.set_o {G : Hp} {L0 : List Cell} {O : Op} {a : Addr} {cs : List Cell} (q : O.p G a cs) : ∀ {σ ρ L} (i : Nat), i < σ.length → Slots G L0 σ ρ L → ∃ C L', L.Perm (C ++ L') ∧ ∃ L'', Slots G L0 (σ.set i (some (.ref a))) (ρ.set i (.o O)) L'' ∧ L''.Perm (cs ++ L')
  | _, _, _, _, h, .nil => by simp at h
  | _, _, _, 0, _, .x s => ⟨[], _, by simp, _, .o q s, .refl _⟩
  | _, _, _, 0, _, .p _ s => ⟨[], _, by simp, _, .o q s, .refl _⟩
  | _, _, _, 0, _, .b _ s => ⟨[], _, by simp, _, .o q s, .refl _⟩
  | _, _, _, i + 1, h, .b h1 s => by
    obtain ⟨C, L', e, L'', s', e'⟩ := s.set_o q i (by simpa using h)
    exact ⟨C, L', e, L'', .b h1 s', e'⟩
  | _, _, _, 0, _, .o (cs := ds) _ s => ⟨ds, _, by simp, _, .o q s, .refl _⟩
  | _, _, _, i + 1, h, .x s => by
    obtain ⟨C, L', e, L'', s', e'⟩ := s.set_o q i (by simpa using h)
    exact ⟨C, L', e, L'', .x s', e'⟩
  | _, _, _, i + 1, h, .p h1 s => by
    obtain ⟨C, L', e, L'', s', e'⟩ := s.set_o q i (by simpa using h)
    exact ⟨C, L', e, L'', .p h1 s', e'⟩
  | _, _, _, i + 1, h, .o (cs := ds) h1 s => by
    obtain ⟨C, L', e, L'', s', e'⟩ := s.set_o q i (by simpa using h)
    refine ⟨C, ds ++ L', ?_, ds ++ L'', .o h1 s', ?_⟩
    · refine (e.append_left ds).trans ?_
      rw [← List.append_assoc, ← List.append_assoc]
      exact (List.perm_append_comm).append_right L'
    · refine (e'.append_left ds).trans ?_
      rw [← List.append_assoc, ← List.append_assoc]
      exact (List.perm_append_comm).append_right L'
theorem Slots.get_o {G : Hp} {L0 : List Cell} {O : Op} : ∀ {σ ρ L} {i : Nat}, Slots G L0 σ ρ L → ρ[i]? = some (.o O) → ∃ a cs M, σ[i]? = some (some (.ref a)) ∧ O.p G a cs ∧ L.Perm (cs ++ M) ∧
    (∀ (O' : Op) (cs' : List Cell), O'.p G a cs' → ∃ L', Slots G L0 σ (ρ.set i (.o O')) L' ∧ L'.Perm (cs' ++ M)) ∧ (∀ (G' : Hp) (R : Rp), Same G G' → R.p G' (.ref a) → Slots G' L0 σ (ρ.set i (.p R)) M)
  | _, _, _, _, .nil, h => by simp at h
  | _, _, _, 0, .x _, h => by simp at h
  | _, _, _, 0, .p _ _, h => by simp at h
  | _, _, _, 0, .b _ _, h => by simp at h
  | _, _, _, i + 1, .b q s, h => by
    obtain ⟨a, cs, M, h1, h2, h3, h4, h5⟩ := s.get_o (i := i) (by simpa using h)
    exact ⟨a, cs, M, by simpa using h1, h2, h3, fun O' cs' q' => by
      obtain ⟨L', s', e⟩ := h4 O' cs' q'
      exact ⟨L', .b q s', e⟩, fun G' R e r => .b (Bw.up _ e (fun _ z => z) q) (h5 G' R e r)⟩
  | _, _, _, 0, .o (a := a) (cs := cs) (L := M) q s, h => by
    simp at h; subst h
    exact ⟨a, cs, M, rfl, q, .refl _, fun O' cs' q' => ⟨_, .o q' s, .refl _⟩, fun G' R e r => .p r (s.up e)⟩
  | _, _, _, i + 1, .x s, h => by
    obtain ⟨a, cs, M, h1, h2, h3, h4, h5⟩ := s.get_o (i := i) (by simpa using h)
    exact ⟨a, cs, M, by simpa using h1, h2, h3, fun O' cs' q' => by
      obtain ⟨L', s', e⟩ := h4 O' cs' q'
      exact ⟨L', .x s', e⟩, fun G' R e r => .x (h5 G' R e r)⟩
  | _, _, _, i + 1, .p q s, h => by
    obtain ⟨a, cs, M, h1, h2, h3, h4, h5⟩ := s.get_o (i := i) (by simpa using h)
    exact ⟨a, cs, M, by simpa using h1, h2, h3, fun O' cs' q' => by
      obtain ⟨L', s', e⟩ := h4 O' cs' q'
      exact ⟨L', .p q s', e⟩, fun G' R e r => .p (Rp.up _ e q) (h5 G' R e r)⟩
  | _, _, _, i + 1, .o (cs := ds) q s, h => by
    obtain ⟨a, cs, M, h1, h2, h3, h4, h5⟩ := s.get_o (i := i) (by simpa using h)
    refine ⟨a, cs, ds ++ M, by simpa using h1, h2, ?_, fun O' cs' q' => ?_, fun G' R e r => .o (Op.up _ e q) (h5 G' R e r)⟩
    · refine (h3.append_left ds).trans ?_
      rw [← List.append_assoc, ← List.append_assoc]
      exact (List.perm_append_comm).append_right M
    · obtain ⟨L', s', e⟩ := h4 O' cs' q'
      refine ⟨ds ++ L', .o q s', ?_⟩
      refine (e.append_left ds).trans ?_
      rw [← List.append_assoc, ← List.append_assoc]
      exact (List.perm_append_comm).append_right M
theorem Slots.len {G : Hp} {L0 : List Cell} : ∀ {σ ρ L}, Slots G L0 σ ρ L → σ.length = ρ.length
  | _, _, _, .nil => rfl
  | _, _, _, .x s => by simp [s.len]
  | _, _, _, .p _ s => by simp [s.len]
  | _, _, _, .o _ s => by simp [s.len]
  | _, _, _, .b _ s => by simp [s.len]

theorem Slots.get_b {G : Hp} {L0 : List Cell} {B : Bw} : ∀ {σ ρ L} {i : Nat}, Slots G L0 σ ρ L → ρ[i]? = some (.b B) → ∃ v, σ[i]? = some (some v) ∧ B.p G L0 v
  | _, _, _, _, .nil, h => by simp at h
  | _, _, _, 0, .x _, h => by simp at h
  | _, _, _, 0, .p q _, h => by simp at h
  | _, _, _, 0, .o _ _, h => by simp at h
  | _, _, _, 0, .b q _, h => by simp at h; subst h; exact ⟨_, rfl, q⟩
  | _, _, _, i + 1, .b _ s, h => s.get_b (i := i) (by simpa using h)
  | _, _, _, i + 1, .x s, h => s.get_b (i := i) (by simpa using h)
  | _, _, _, i + 1, .p _ s, h => s.get_b (i := i) (by simpa using h)
  | _, _, _, i + 1, .o _ s, h => s.get_b (i := i) (by simpa using h)
inductive Wk : List Sl → List Sl → Prop
  | nil : Wk [] []
  | x {s ρ ρ'} : Wk ρ ρ' → Wk (s :: ρ) (.x :: ρ')
  | k {s ρ ρ'} : Wk ρ ρ' → Wk (s :: ρ) (s :: ρ')
theorem Wk.refl : ∀ ρ, Wk ρ ρ
  | [] => .nil
  | _ :: ρ => .k (Wk.refl ρ)
theorem Slots.weak {G : Hp} {L0 : List Cell} : ∀ {σ ρ ρ' L}, Slots G L0 σ ρ L → Wk ρ ρ' → ∃ C L', L.Perm (C ++ L') ∧ Slots G L0 σ ρ' L'
  | _, _, _, _, .nil, .nil => ⟨[], [], by simp, .nil⟩
  | _, _, _, _, .x s, .x w | _, _, _, _, .x s, .k w => by
    obtain ⟨C, L', e, s'⟩ := s.weak w
    exact ⟨C, L', e, .x s'⟩
  | _, _, _, _, .p h s, .x w | _, _, _, _, .b h s, .x w => by
    obtain ⟨C, L', e, s'⟩ := s.weak w
    exact ⟨C, L', e, .x s'⟩
  | _, _, _, _, .p h s, .k w => by
    obtain ⟨C, L', e, s'⟩ := s.weak w
    exact ⟨C, L', e, .p h s'⟩
  | _, _, _, _, .b h s, .k w => by
    obtain ⟨C, L', e, s'⟩ := s.weak w
    exact ⟨C, L', e, .b h s'⟩
  | _, _, _, _, .o (cs := cs) h s, .x w => by
    obtain ⟨C, L', e, s'⟩ := s.weak w
    refine ⟨cs ++ C, L', ?_, .x s'⟩
    rw [List.append_assoc]
    exact e.append_left cs
  | _, _, _, _, .o (cs := cs) h s, .k w => by
    obtain ⟨C, L', e, s'⟩ := s.weak w
    exact ⟨C, cs ++ L', (e.append_left cs).trans (perm_swap _ _ _), .o h s'⟩
def Stt (G : Hp) (ρ : List Sl) (σ : L2.St) (L0 : List Cell) (H : Hp) : Prop := ∃ L, Slots G L0 σ ρ L ∧ Lay G (L ++ L0) H
section
variable {G H : Hp} {ρ : List Sl} {σ : L2.St} {L0 : List Cell}
theorem Stt.same (s : Stt G ρ σ L0 H) : Same G H := by
  obtain ⟨L, _, l⟩ := s
  exact l.same
theorem Stt.len (s : Stt G ρ σ L0 H) : σ.length = ρ.length := by
  obtain ⟨L, h, _⟩ := s
  exact h.len
theorem Stt.get_p (s : Stt G ρ σ L0 H) {R : Rp} {i : Nat} (h : ρ[i]? = some (.p R)) : ∃ v, σ[i]? = some (some v) ∧ R.p G v := by
  obtain ⟨L, q, _⟩ := s
  exact q.get_p h
theorem Stt.get_b (s : Stt G ρ σ L0 H) {B : Bw} {i : Nat} (h : ρ[i]? = some (.b B)) : ∃ v, σ[i]? = some (some v) ∧ B.p G L0 v := by
  obtain ⟨L, q, _⟩ := s
  exact q.get_b h
theorem Stt.weak (s : Stt G ρ σ L0 H) {ρ' : List Sl} (w : Wk ρ ρ') : ∃ G', Same G G' ∧ Stt G' ρ' σ L0 H := by
  obtain ⟨L, q, l⟩ := s
  obtain ⟨C, L', e, q'⟩ := q.weak w
  have l' : Lay G (C ++ (L' ++ L0)) H := by
    rw [← List.append_assoc]
    exact l.perm (e.append_right L0)
  obtain ⟨G', e', l'', _⟩ := l'.freezeAll
  exact ⟨G', e', L', q'.up e', l''⟩
theorem Stt.fin (s : Stt G ρ σ L0 H) : ∃ G', Same G G' ∧ Lay G' L0 H := by
  obtain ⟨L, q, l⟩ := s
  obtain ⟨G', e', l'', _⟩ := l.freezeAll
  exact ⟨G', e', l''⟩
theorem Stt.grow (s : Stt G ρ σ L0 H) {p : Addr} {o : HO} (h : H p = none) : Same G (upd G p o) ∧ Stt (upd G p o) ρ σ L0 (upd H p o) := by
  obtain ⟨L, q, l⟩ := s
  have e := same_upd (o := o) (l.freshG h)
  exact ⟨e, L, q.up e, l.grow h⟩
theorem Stt.set_p (s : Stt G ρ σ L0 H) {R : Rp} {v : V} (r : R.p G v) (i : Nat) : ∃ G', Same G G' ∧ Stt G' (ρ.set i (.p R)) (σ.set i (some v)) L0 H := by
  obtain ⟨L, q, l⟩ := s
  obtain ⟨C, L', e, q'⟩ := q.set_p r i
  have l' : Lay G (C ++ (L' ++ L0)) H := by
    rw [← List.append_assoc]
    exact l.perm (e.append_right L0)
  obtain ⟨G', e', l'', _⟩ := l'.freezeAll
  exact ⟨G', e', L', q'.up e', l''⟩
theorem Stt.set_o (s : Stt G ρ σ L0 H) {O : Op} {a : Addr} {cs : List Cell} {H' : Hp} (r : O.p G a cs) (i : Nat) (hi : i < ρ.length) (hl : ∀ M, Lay G M H → Lay G (cs ++ M) H') : ∃ G', Same G G' ∧ Stt G' (ρ.set i (.o O)) (σ.set i (some (.ref a))) L0 H' := by
  obtain ⟨L, q, l⟩ := s
  obtain ⟨C, L', e, L'', q', e'⟩ := q.set_o r i (by rw [q.len]; exact hi)
  have l1 : Lay G (cs ++ (C ++ (L' ++ L0))) H' := hl _ (by
    rw [← List.append_assoc]
    exact l.perm (e.append_right L0))
  have l2 : Lay G (C ++ (L'' ++ L0)) H' := l1.perm (by
    refine (perm_swap _ _ _).trans (List.Perm.append_left C ?_)
    rw [← List.append_assoc]
    exact (e'.symm).append_right L0)
  obtain ⟨G', e3, l3, _⟩ := l2.freezeAll
  exact ⟨G', e3, L'', q'.up e3, l3⟩
theorem Stt.get_o (s : Stt G ρ σ L0 H) {O : Op} {i : Nat} (h : ρ[i]? = some (.o O)) : ∃ a cs, σ[i]? = some (some (.ref a)) ∧ O.p G a cs ∧ (∀ c ∈ cs, H c.1 = some c.2) ∧
    (∀ (O' : Op) (cs' : List Cell) (H' : Hp), O'.p G a cs' → (∀ M, Lay G (cs ++ M) H → Lay G (cs' ++ M) H') → Stt G (ρ.set i (.o O')) σ L0 H') ∧
    (∀ (R : Rp), (∀ G', Same G G' → (∀ c ∈ cs, G' c.1 = some c.2) → R.p G' (.ref a)) → ∃ G', Same G G' ∧ Stt G' (ρ.set i (.p R)) σ L0 H) := by
  obtain ⟨L, q, l⟩ := s
  obtain ⟨a, cs, M, h1, h2, h3, h4, h5⟩ := q.get_o h
  have l1 : Lay G (cs ++ (M ++ L0)) H := by
    rw [← List.append_assoc]
    exact l.perm (h3.append_right L0)
  refine ⟨a, cs, h1, h2, fun c hc => (l1.on c (List.mem_append_left _ hc)).1, fun O' cs' H' q' hl => ?_, fun R hR => ?_⟩
  · obtain ⟨L', s', e⟩ := h4 O' cs' q'
    refine ⟨L', s', (hl _ l1).perm ?_⟩
    rw [← List.append_assoc]
    exact (e.symm).append_right L0
  · obtain ⟨G', e', l'', k⟩ := l1.freezeAll
    exact ⟨G', e', M, h5 G' R e' (hR G' e' k), l''⟩
end
end Z

set_option Elab.async false
set_option linter.all false
set_option maxRecDepth 100000
set_option maxHeartbeats 2000000
namespace Z
open PySem PySem.Spec PyProof.Rows L2
section
variable {K : PySem.W.Frag}
mutual
inductive Dq (H : Hp) : V → PyData → Prop
  | non : Dq H .non .none
  | bl (b : Bool) : Dq H (.bl b) (.bool b)
  | int (i : Int) : Dq H (.int i) (.int i)
  | str (x : Str) : Dq H (.str x) (.str x)
  | lst {a : Addr} {xs : List V} {ds : List PyData} : H a = some (.lst xs) → DqAll H xs ds → Dq H (.ref a) (.list ds)
  | tup {a : Addr} {xs : List V} {ds : List PyData} : H a = some (.tup xs) → DqAll H xs ds → Dq H (.ref a) (.tuple ds)
inductive DqAll (H : Hp) : List V → List PyData → Prop
  | nil : DqAll H [] []
  | cons {v : V} {vs : List V} {d : PyData} {ds : List PyData} : Dq H v d → DqAll H vs ds → DqAll H (v :: vs) (d :: ds)
end
mutual
theorem dp_up {H H' : Hp} (e : Same H H') : ∀ {v : V} {d : PyData}, Dq H v d → Dq H' v d
  | _, _, .non => .non
  | _, _, .bl b => .bl b
  | _, _, .int i => .int i
  | _, _, .str x => .str x
  | _, _, .lst h a => .lst (e _ _ h) (dpAll_up e a)
  | _, _, .tup h a => .tup (e _ _ h) (dpAll_up e a)
theorem dpAll_up {H H' : Hp} (e : Same H H') : ∀ {vs : List V} {ds : List PyData}, DqAll H vs ds → DqAll H' vs ds
  | _, _, .nil => .nil
  | _, _, .cons h t => .cons (dp_up e h) (dpAll_up e t)
end
mutual
theorem dq_dp {H : Hp} : ∀ {v : V} {d : PyData}, Dq H v d → L2.Dp K H v d
  | _, _, .non => .non
  | _, _, .bl b => .bl b
  | _, _, .int i => .int i
  | _, _, .str x => .str x
  | _, _, .lst h a => .lst (.inl (.inl h)) (dqAll_dp a)
  | _, _, .tup h a => .tup (.inl (.inl h)) (dqAll_dp a)
theorem dqAll_dp {H : Hp} : ∀ {vs : List V} {ds : List PyData}, DqAll H vs ds → L2.DpAll K H vs ds
  | _, _, .nil => .nil
  | _, _, .cons h t => .cons (dq_dp h) (dqAll_dp t)
end
theorem dpAll_len {H : Hp} : ∀ {vs : List V} {ds : List PyData}, DqAll H vs ds → vs.length = ds.length
  | _, _, .nil => rfl
  | _, _, .cons _ t => by simp [dpAll_len t]
theorem dpAll_get {H : Hp} : ∀ {vs : List V} {ds : List PyData} {i : Nat} {d : PyData}, DqAll H vs ds → ds[i]? = some d → ∃ v, vs[i]? = some v ∧ Dq H v d
  | _, _, _, _, .nil, h => by simp at h
  | _, _, 0, _, .cons q _, h => by simp at h; subst h; exact ⟨_, rfl, q⟩
  | _, _, i + 1, _, .cons _ t, h => by simpa using dpAll_get (i := i) t (by simpa using h)
theorem dpAll_app {H : Hp} : ∀ {vs ws : List V} {ds es : List PyData}, DqAll H vs ds → DqAll H ws es → DqAll H (vs ++ ws) (ds ++ es)
  | _, _, _, _, .nil, s => s
  | _, _, _, _, .cons q t, s => .cons q (dpAll_app t s)
theorem dpAll_take {H : Hp} : ∀ {vs : List V} {ds : List PyData} (n : Nat), DqAll H vs ds → DqAll H (vs.take n) (ds.take n)
  | _, _, 0, _ => .nil
  | _, _, _ + 1, .nil => .nil
  | _, _, n + 1, .cons q t => .cons q (dpAll_take n t)
theorem dpAll_drop {H : Hp} : ∀ {vs : List V} {ds : List PyData} (n : Nat), DqAll H vs ds → DqAll H (vs.drop n) (ds.drop n)
  | _, _, 0, s => s
  | _, _, _ + 1, .nil => .nil
  | _, _, n + 1, .cons _ t => dpAll_drop n t
theorem dpAll_set {H : Hp} {v : V} {d : PyData} (r : Dq H v d) : ∀ {vs : List V} {ds : List PyData} (n : Nat), DqAll H vs ds → DqAll H (vs.set n v) (ds.set n d)
  | _, _, _, .nil => .nil
  | _, _, 0, .cons _ t => .cons r t
  | _, _, n + 1, .cons q t => .cons q (dpAll_set r n t)
theorem dpAll_rep {H : Hp} : ∀ {vs : List V} {ds : List PyData} (n : Nat), DqAll H vs ds → DqAll H (List.replicate n vs).flatten (List.replicate n ds).flatten
  | _, _, 0, _ => .nil
  | _, _, n + 1, s => by
    rw [List.replicate_succ, List.replicate_succ, List.flatten_cons, List.flatten_cons]
    exact dpAll_app s (dpAll_rep n s)
theorem dpAll_ints {H : Hp} : ∀ {vs : List V} {ns : List Int}, DqAll H vs (ns.map PyData.int) → vs = ns.map V.int
  | [], [], .nil => rfl
  | _ :: _, n :: ns, .cons q t => by
    cases q
    rw [dpAll_ints t]; rfl
theorem dpAll_bools {H : Hp} : ∀ {vs : List V} {ns : List Bool}, DqAll H vs (ns.map PyData.bool) → vs = ns.map V.bl
  | [], [], .nil => rfl
  | _ :: _, n :: ns, .cons q t => by
    cases q
    rw [dpAll_bools t]; rfl
theorem dpAll_of_ints {H : Hp} : ∀ (ns : List Int), DqAll H (ns.map V.int) (ns.map PyData.int)
  | [] => .nil
  | n :: ns => .cons (.int n) (dpAll_of_ints ns)
end
def dat (d : PyData) : Rp := ⟨fun H v => Dq H v d, fun e h => dp_up e h⟩
def bL (ds : List PyData) : Bw := ⟨fun G L v => ∃ a vs, v = .ref a ∧ (G a = some (.lst vs) ∨ (a, HO.lst vs) ∈ L) ∧ DqAll G vs ds, fun e l h => by
  obtain ⟨a, vs, r, q, d⟩ := h
  exact ⟨a, vs, r, q.elim (fun z => .inl (e _ _ z)) (fun z => .inr (l _ z)), dpAll_up e d⟩⟩
def oL (ds : List PyData) : Op := ⟨fun G a cs => ∃ vs, cs = [(a, HO.lst vs)] ∧ DqAll G vs ds, fun e h => by
  obtain ⟨vs, r, d⟩ := h
  exact ⟨vs, r, dpAll_up e d⟩⟩
abbrev dI (i : Int) : Rp := dat (.int i)
abbrev dB (b : Bool) : Rp := dat (.bool b)
structure Ev (te : TE) (ρ : List Sl) (B : Bw) : Prop where
  run : ∀ {G : Hp} {σ : L2.St} {L0 : List Cell} {H : Hp} (Q : VK), Stt G ρ σ L0 H →
    (∀ G' H' v, Same G G' → Stt G' ρ σ L0 H' → (∀ G'' L'' H'', Same G' G'' → Slots G'' L0 σ ρ L'' → Lay G'' (L'' ++ L0) H'' → B.p G'' (L'' ++ L0) v) → Q v H') → te σ H Q
structure EvN (te : TE) (ρ : List Sl) (ds : List PyData) : Prop where
  run : ∀ {G : Hp} {σ : L2.St} {L0 : List Cell} {H : Hp} (Q : VK), Stt G ρ σ L0 H →
    (∀ G' H' p vs, Same G G' → Stt G' ρ σ L0 H' → H' p = none → DqAll G' vs ds → Q (.ref p) (upd H' p (.lst vs))) → te σ H Q
structure EvT (tt : TT) (ρ : List Sl) (b : Bool) : Prop where
  run : ∀ {G : Hp} {σ : L2.St} {L0 : List Cell} {H : Hp} (Q : Bool → Hp → Prop), Stt G ρ σ L0 H →
    (∀ G' H', Same G G' → Stt G' ρ σ L0 H' → Q b H') → tt σ H Q
inductive AllB (G : Hp) (L : List Cell) : List V → List Bw → Prop
  | nil : AllB G L [] []
  | cons {v vs} {B : Bw} {Bs} : B.p G L v → AllB G L vs Bs → AllB G L (v :: vs) (B :: Bs)
structure EvA (ta : TA) (ρ : List Sl) (Bs : List Bw) : Prop where
  run : ∀ {G : Hp} {σ : L2.St} {L0 : List Cell} {H : Hp} (Q : List V → Hp → Prop), Stt G ρ σ L0 H →
    (∀ G' H' vs, Same G G' → Stt G' ρ σ L0 H' → (∀ G'' L'' H'', Same G' G'' → Slots G'' L0 σ ρ L'' → Lay G'' (L'' ++ L0) H'' → AllB G'' (L'' ++ L0) vs Bs) → Q vs H') → ta σ H Q
section
variable {K : PySem.W.Frag} {ρ : List Sl} {te ta tb : TE} {R : Rp} {B Ba Bb : Bw} {i j : Int}
theorem Ev.pure (h : ∀ {G : Hp} {σ : L2.St} {L0 : List Cell} {H : Hp} (Q : VK), Stt G ρ σ L0 H → (∀ G' H' v, Same G G' → Stt G' ρ σ L0 H' → R.p G' v → Q v H') → te σ H Q) : Ev te ρ (pu R) :=
  ⟨fun Q s q => h Q s fun G' H' v e s' r => q G' H' v e s' fun G'' L'' H'' e' _ _ => R.up e' r⟩
theorem Ev.at (h : Ev te ρ B) {G : Hp} {σ : L2.St} {L0 : List Cell} {H : Hp} {Q : VK} (s : Stt G ρ σ L0 H) (q : ∀ G' H' v L, Same G G' → Stt G' ρ σ L0 H' → Slots G' L0 σ ρ L → Lay G' (L ++ L0) H' → B.p G' (L ++ L0) v → Q v H') : te σ H Q :=
  h.run Q s fun G' H' v e s' r => by
    obtain ⟨L, a, b⟩ := id s'
    exact q G' H' v L e s' a b (r G' L H' (Same.refl _) a b)
theorem Ev.atp (h : Ev te ρ (pu R)) {G : Hp} {σ : L2.St} {L0 : List Cell} {H : Hp} {Q : VK} (s : Stt G ρ σ L0 H) (q : ∀ G' H' v, Same G G' → Stt G' ρ σ L0 H' → R.p G' v → Q v H') : te σ H Q :=
  h.at s fun G' H' v _ e s' _ _ r => q G' H' v e s' r
theorem Ev.imp {B' : Bw} (h : Ev te ρ B) (k : ∀ G L v, B.p G L v → B'.p G L v) : Ev te ρ B' := ⟨fun Q s q => h.run Q s fun G' H' v e s' r => q G' H' v e s' fun G'' L'' H'' e' a b => k _ _ _ (r G'' L'' H'' e' a b)⟩
theorem Ev.is {B' : Bw} (h : Ev te ρ B) (k : B = B') : Ev te ρ B' := by rw [← k]; exact h
theorem ev_var {i : Nat} (h : ρ[i]? = some (.p R)) : Ev (tVar i) ρ (pu R) := by
  refine Ev.pure fun Q s q => ?_
  obtain ⟨v, e, r⟩ := s.get_p h
  exact ⟨v, e, q _ _ v (Same.refl _) s r⟩
theorem ev_b {i : Nat} (h : ρ[i]? = some (.b B)) : Ev (tVar i) ρ B := by
  refine ⟨fun Q s q => ?_⟩
  obtain ⟨v, e, r⟩ := s.get_b h
  exact ⟨v, e, q _ _ v (Same.refl _) s fun G'' L'' H'' e' a b => B.up e' (fun c hc => List.mem_append_right _ hc) r⟩
theorem ev_o {ds : List PyData} {i : Nat} (h : ρ[i]? = some (.o (oL ds))) : Ev (tVar i) ρ (bL ds) := by
  refine ⟨fun Q s q => ?_⟩
  obtain ⟨a, cs, e, _⟩ := s.get_o h
  refine ⟨_, e, q _ _ _ (Same.refl _) s fun G'' L'' H'' e' sl la => ?_⟩
  obtain ⟨a', cs', M, e1, ⟨vs, e2, d⟩, pm, _⟩ := sl.get_o h
  rw [e] at e1
  injection e1 with e1; injection e1 with e1; injection e1 with e1
  subst e1 e2
  exact ⟨a, vs, rfl, .inr (List.mem_append_left _ (pm.mem_iff.mpr (List.mem_append_left _ (List.mem_cons_self ..)))), d⟩
theorem bl_of_dat {ds : List PyData} : ∀ G L v, (pu (dat (.list ds))).p G L v → (bL ds).p G L v := fun G L v h => by
  have h : Dq G v (.list ds) := h
  cases h with
  | lst a b => exact ⟨_, _, rfl, .inl a, b⟩
theorem Ev.bl {ds : List PyData} (h : Ev te ρ (pu (dat (.list ds)))) : Ev te ρ (bL ds) := h.imp bl_of_dat
theorem ev_int : Ev (tC (.int i)) ρ (pu (dI i)) := Ev.pure fun Q s q => q _ _ _ (Same.refl _) s (Dq.int i)
theorem ev_bl {b : Bool} : Ev (tC (.bl b)) ρ (pu (dB b)) := Ev.pure fun Q s q => q _ _ _ (Same.refl _) s (Dq.bl b)
theorem ev_non : Ev (tC .non) ρ (pu (dat .none)) := Ev.pure fun Q s q => q _ _ _ (Same.refl _) s Dq.non
theorem ev_str {x : Str} : Ev (tC (.str x)) ρ (pu (dat (.str x))) := Ev.pure fun Q s q => q _ _ _ (Same.refl _) s (Dq.str x)
theorem EvN.ev {ds : List PyData} (h : EvN te ρ ds) : Ev te ρ (pu (dat (.list ds))) := Ev.pure fun Q s q => h.run Q s fun G' H' p vs e s' hp d => by
  have g := s'.grow (o := .lst vs) hp
  exact q _ _ _ (e.trans g.1) g.2 (Dq.lst upd_same (dpAll_up g.1 d))
theorem EvN.is {ds ds' : List PyData} (h : EvN te ρ ds) (e : ds = ds') : EvN te ρ ds' := by rw [← e]; exact h
def Op2 (r : R2) (Ba Bb : Bw) (R : Rp) : Prop := ∀ (G H : Hp) (L : List Cell) (x y : V) (Q : VK), Lay G L H → Ba.p G L x → Bb.p G L y → (∀ v, R.p G v → Q v H) → r x y H Q
theorem ev_op {r : R2} (ha : Ev ta ρ Ba) (hb : Ev tb ρ Bb) (h : Op2 r Ba Bb R) : Ev (tOp r ta tb) ρ (pu R) := Ev.pure fun Q s q =>
  ha.run _ s fun G1 H1 x e1 s1 rx => hb.run _ s1 fun G2 H2 y e2 s2 ry => by
    obtain ⟨L, a, b⟩ := id s2
    exact h G2 H2 _ x y Q b (rx G2 L H2 e2 a b) (ry G2 L H2 (Same.refl _) a b) fun v rv => q G2 H2 v (e1.trans e2) s2 rv
def Op2N (r : R2) (Ba Bb : Bw) (ds : List PyData) : Prop := ∀ (G H : Hp) (L : List Cell) (x y : V) (Q : VK), Lay G L H → Ba.p G L x → Bb.p G L y → (∀ p vs, H p = none → DqAll G vs ds → Q (.ref p) (upd H p (.lst vs))) → r x y H Q
theorem ev_opN {r : R2} {ds : List PyData} (ha : Ev ta ρ Ba) (hb : Ev tb ρ Bb) (h : Op2N r Ba Bb ds) : EvN (tOp r ta tb) ρ ds := ⟨fun Q s q =>
  ha.run _ s fun G1 H1 x e1 s1 rx => hb.run _ s1 fun G2 H2 y e2 s2 ry => by
    obtain ⟨L, a, b⟩ := id s2
    exact h G2 H2 _ x y Q b (rx G2 L H2 e2 a b) (ry G2 L H2 (Same.refl _) a b) fun p vs hp d => q G2 H2 p vs (e1.trans e2) s2 hp d⟩
theorem o_int0 {g : Int → Int → Int} : Op2 (rI0 fun i j => .int (g i j)) (pu (dI i)) (pu (dI j)) (dI (g i j)) := fun G H L x y Q _ hx hy q => by
  cases hx; cases hy
  exact ⟨i, j, rfl, rfl, q _ (Dq.int _)⟩
theorem o_bool0 {g : Int → Int → Bool} : Op2 (rI0 fun i j => .bl (g i j)) (pu (dI i)) (pu (dI j)) (dB (g i j)) := fun G H L x y Q _ hx hy q => by
  cases hx; cases hy
  exact ⟨i, j, rfl, rfl, q _ (Dq.bl _)⟩
theorem o_intC {C : Int → Int → Prop} {g : Int → Int → Int} (hc : C i j) : Op2 (rI C fun i j => .int (g i j)) (pu (dI i)) (pu (dI j)) (dI (g i j)) := fun G H L x y Q _ hx hy q => by
  cases hx; cases hy
  exact ⟨i, j, rfl, rfl, hc, q _ (Dq.int _)⟩
theorem o_eqI : Op2 rEq (pu (dI i)) (pu (dI j)) (dB (decide (i = j))) := fun G H L x y Q _ hx hy q => by
  cases hx; cases hy
  refine ⟨rfl, q _ ?_⟩
  rw [show decide (V.int i = V.int j) = decide (i = j) by simp]
  exact Dq.bl _
theorem o_neI : Op2 rNe (pu (dI i)) (pu (dI j)) (dB (!decide (i = j))) := fun G H L x y Q _ hx hy q => by
  cases hx; cases hy
  refine ⟨rfl, q _ ?_⟩
  rw [show decide (V.int i = V.int j) = decide (i = j) by simp]
  exact Dq.bl _
theorem o_eqD {d e : PyData} (hd : SeqAt.shaped d = true) (he : SeqAt.shaped e = true) : Op2 (rEqD K) (pu (dat d)) (pu (dat e)) (dB (PyData.eqv d e)) := fun G H L x y Q l hx hy q =>
  ⟨d, e, dq_dp (dp_up l.same hx), dq_dp (dp_up l.same hy), hd, he, q _ (Dq.bl _)⟩
theorem o_neD {d e : PyData} (hd : SeqAt.shaped d = true) (he : SeqAt.shaped e = true) : Op2 (rNeD K) (pu (dat d)) (pu (dat e)) (dB (!PyData.eqv d e)) := fun G H L x y Q l hx hy q =>
  ⟨d, e, dq_dp (dp_up l.same hx), dq_dp (dp_up l.same hy), hd, he, q _ (Dq.bl _)⟩
theorem bl_sq {G H : Hp} {L : List Cell} {ds : List PyData} {v : V} (l : Lay G L H) (h : (bL ds).p G L v) : ∃ a vs, v = .ref a ∧ H a = some (.lst vs) ∧ DqAll G vs ds := by
  obtain ⟨a, vs, r, q, d⟩ := h
  exact ⟨a, vs, r, q.elim (fun z => l.same _ _ z) (fun z => (l.on _ z).1), d⟩
theorem atI_all {G : Hp} {vs : List V} {ds : List PyData} {d : PyData} (h : DqAll G vs ds) (e : atI ds i = some d) : ∃ v, atI vs i = some v ∧ Dq G v d := by
  unfold atI at e ⊢
  rw [dpAll_len h]
  cases q : ixN ds.length i with
  | none => rw [q] at e; cases e
  | some k =>
    rw [q] at e
    exact dpAll_get h e
theorem o_ixL {ds : List PyData} {d : PyData} (e : atI ds i = some d) : Op2 (rIxL K) (bL ds) (pu (dI i)) (dat d) := fun G H L x y Q l hx hy q => by
  obtain ⟨a, vs, r, h, dd⟩ := bl_sq l hx
  cases hy
  obtain ⟨v, hv, dv⟩ := atI_all dd e
  exact ⟨a, vs, i, v, r, rfl, .inl (.inl h), hv, q v dv⟩
theorem o_ixT {ds : List PyData} {d : PyData} (e : atI ds i = some d) : Op2 (rIxT K) (pu (dat (.tuple ds))) (pu (dI i)) (dat d) := fun G H L x y Q l hx hy q => by
  have hx : Dq G x (.tuple ds) := hx
  cases hx with
  | tup h dd =>
    cases hy
    obtain ⟨v, hv, dv⟩ := atI_all dd e
    exact ⟨_, _, i, v, rfl, rfl, .inl (.inl (l.same _ _ h)), hv, q v dv⟩
theorem ev_neg (ha : Ev ta ρ (pu (dI i))) : Ev (tUn (rU fun i => .int (-i)) ta) ρ (pu (dI (-i))) := Ev.pure fun Q s q =>
  ha.atp s fun G' H' v e s' r => by
    cases r
    exact ⟨i, rfl, q _ _ _ e s' (Dq.int _)⟩
theorem et_test {b : Bool} (h : Ev te ρ (pu (dB b))) : EvT (tTest te) ρ b := ⟨fun Q s q => h.atp s fun G' H' v e s' r => by
  cases r
  exact ⟨b, rfl, q _ _ e s'⟩⟩
theorem et_B {b : Bool} (h : Ev te ρ (pu (dB b))) : EvT (tB te) ρ b := ⟨fun Q s q => h.atp s fun G' H' v e s' r => by
  cases r
  exact ⟨b, rfl, q _ _ e s'⟩⟩
theorem et_and {t u : TT} {a b : Bool} (h1 : EvT t ρ a) (h2 : a = true → EvT u ρ b) : EvT (tAnd t u) ρ (a && b) := ⟨fun Q s q => h1.run _ s fun G1 H1 e1 s1 => by
  cases a with
  | true =>
    show u _ _ Q
    exact (h2 rfl).run Q s1 fun G2 H2 e2 s2 => q G2 H2 (e1.trans e2) s2
  | false => exact q G1 H1 e1 s1⟩
theorem et_or {t u : TT} {a b : Bool} (h1 : EvT t ρ a) (h2 : a = false → EvT u ρ b) : EvT (tOr t u) ρ (a || b) := ⟨fun Q s q => h1.run _ s fun G1 H1 e1 s1 => by
  cases a with
  | false =>
    show u _ _ Q
    exact (h2 rfl).run Q s1 fun G2 H2 e2 s2 => q G2 H2 (e1.trans e2) s2
  | true => exact q G1 H1 e1 s1⟩
theorem et_not {t : TT} {a : Bool} (h1 : EvT t ρ a) : EvT (tNot t) ρ (!a) := ⟨fun Q s q => h1.run _ s fun G1 H1 e1 s1 => q G1 H1 e1 s1⟩
theorem EvT.is {t : TT} {a b : Bool} (h : EvT t ρ a) (e : a = b) : EvT t ρ b := by rw [← e]; exact h
theorem ev_chain {r r' : R2} {tc : TE} {Bc : Bw} {a b : Bool} (ha : Ev ta ρ Ba) (hb : Ev tb ρ Bb) (hc : a = true → Ev tc ρ Bc) (h : Op2 r Ba Bb (dB a)) (h' : a = true → Op2 r' Bb Bc (dB b)) : Ev (tChain r r' ta tb tc) ρ (pu (dB (a && b))) := Ev.pure fun Q s q =>
  ha.run _ s fun G1 H1 x e1 s1 rx => hb.run _ s1 fun G2 H2 y e2 s2 ry => by
    obtain ⟨L, sa, sb⟩ := id s2
    refine h G2 H2 _ x y _ sb (rx G2 L H2 e2 sa sb) (ry G2 L H2 (Same.refl _) sa sb) fun z rz => ?_
    cases rz
    refine ⟨a, rfl, ?_⟩
    cases a with
    | false => exact q G2 H2 _ (e1.trans e2) s2 (Dq.bl _)
    | true =>
      show tc _ _ _
      refine (hc rfl).run _ s2 fun G3 H3 w e3 s3 rw => ?_
      obtain ⟨L3, sa3, sb3⟩ := id s3
      exact h' rfl G3 H3 _ y w Q sb3 (ry G3 L3 H3 e3 sa3 sb3) (rw G3 L3 H3 (Same.refl _) sa3 sb3) fun v rv => q G3 H3 v ((e1.trans e2).trans e3) s3 (by cases rv; exact Dq.bl _)
theorem ev_if {t : TT} {b : Bool} (h : EvT t ρ b) (h1 : b = true → Ev ta ρ B) (h2 : b = false → Ev tb ρ B) : Ev (tIf t ta tb) ρ B := ⟨fun Q s q => h.run _ s fun G1 H1 e1 s1 => by
  cases b with
  | true => exact (h1 rfl).run Q s1 fun G2 H2 v e2 s2 r2 => q G2 H2 v (e1.trans e2) s2 r2
  | false => exact (h2 rfl).run Q s1 fun G2 H2 v e2 s2 r2 => q G2 H2 v (e1.trans e2) s2 r2⟩
theorem ea_nil : EvA tNil ρ [] := ⟨fun Q s q => q _ _ _ (Same.refl _) s fun _ _ _ _ _ _ => .nil⟩
theorem ea_cons {tr : TA} {Bs : List Bw} (h : Ev te ρ B) (hr : EvA tr ρ Bs) : EvA (tCons te tr) ρ (B :: Bs) := ⟨fun Q s q =>
  h.run _ s fun G1 H1 v e1 s1 r1 => hr.run _ s1 fun G2 H2 vs e2 s2 r2 => q G2 H2 (v :: vs) (e1.trans e2) s2 fun G3 L3 H3 e3 a b => .cons (r1 G3 L3 H3 (e2.trans e3) a b) (r2 G3 L3 H3 e3 a b)⟩
theorem EvA.at {tr : TA} {Bs : List Bw} (h : EvA tr ρ Bs) {G : Hp} {σ : L2.St} {L0 : List Cell} {H : Hp} {Q : List V → Hp → Prop} (s : Stt G ρ σ L0 H)
    (q : ∀ G' H' vs L, Same G G' → Slots G' L0 σ ρ L → Lay G' (L ++ L0) H' → AllB G' (L ++ L0) vs Bs → Q vs H') : tr σ H Q :=
  h.run _ s fun G' H' vs e s' r => by
    obtain ⟨L, a, b⟩ := id s'
    exact q G' H' vs L e a b (r G' L H' (Same.refl _) a b)
theorem allB_dat {G : Hp} {L : List Cell} : ∀ {vs : List V} {ds : List PyData}, AllB G L vs (ds.map fun d => pu (dat d)) → DqAll G vs ds
  | _, [], .nil => .nil
  | _, d :: ds, .cons h t => .cons h (allB_dat t)
theorem ev_tup {ta : TA} {ds : List PyData} (h : EvA ta ρ (ds.map fun d => pu (dat d))) (hl : ds.length ≤ 1000) : Ev (tTup ta) ρ (pu (dat (.tuple ds))) := Ev.pure fun Q s q =>
  h.at s fun G1 H1 vs L e1 a b r => by
    have d := allB_dat r
    refine ⟨by rw [dpAll_len d]; exact Nat.le_of_lt (small1000 hl), fun p hp => ?_⟩
    have g := Stt.grow ⟨L, a, b⟩ (o := .tup vs) hp
    exact q _ _ _ (e1.trans g.1) g.2 (Dq.tup upd_same (dpAll_up g.1 d))
theorem en_lst {ta : TA} {ds : List PyData} (h : EvA ta ρ (ds.map fun d => pu (dat d))) (hl : ds.length ≤ 1000) : EvN (tLst ta) ρ ds := ⟨fun Q s q =>
  h.at s fun G1 H1 vs L e1 a b r => by
    have d := allB_dat r
    exact ⟨by rw [dpAll_len d]; exact Nat.le_of_lt (small1000 hl), fun p hp => q G1 H1 p vs e1 ⟨L, a, b⟩ hp d⟩⟩
def Cl (r : List V → Hp → VK → Prop) (Bs : List Bw) (R : Rp) : Prop := ∀ (G H : Hp) (L : List Cell) (vs : List V) (Q : VK), Lay G L H → AllB G L vs Bs → (∀ v, R.p G v → Q v H) → r vs H Q
theorem ev_cb {r : List V → Hp → VK → Prop} {ta : TA} {Bs : List Bw} (h : EvA ta ρ Bs) (hr : Cl r Bs R) : Ev (tCB r ta) ρ (pu R) := Ev.pure fun Q s q =>
  h.at s fun G1 H1 vs L e1 a b rv => hr G1 H1 _ vs Q b rv fun v r => q G1 H1 v e1 ⟨L, a, b⟩ r
def ClN (r : List V → Hp → VK → Prop) (Bs : List Bw) (ds : List PyData) : Prop := ∀ (G H : Hp) (L : List Cell) (vs : List V) (Q : VK), Lay G L H → AllB G L vs Bs → (∀ p ws, H p = none → DqAll G ws ds → Q (.ref p) (upd H p (.lst ws))) → r vs H Q
theorem en_cb {r : List V → Hp → VK → Prop} {ta : TA} {Bs : List Bw} {ds : List PyData} (h : EvA ta ρ Bs) (hr : ClN r Bs ds) : EvN (tCB r ta) ρ ds := ⟨fun Q s q =>
  h.at s fun G1 H1 vs L e1 a b rv => hr G1 H1 _ vs Q b rv fun p ws hp d => q G1 H1 p ws e1 ⟨L, a, b⟩ hp d⟩
end
end Z

set_option Elab.async false
set_option linter.all false
set_option maxRecDepth 100000
set_option maxHeartbeats 2000000
namespace Z
open PySem PySem.Spec PyProof.Rows L2
inductive Out where
  | nx (ρ : List Sl) | rt (R : Rp) | rw (ρ : List Sl) (R : Rp) | ro (O : Op) | bk (ρ : List Sl) | ct (ρ : List Sl) | go (ρ : List Sl) | xc (ρ : List Sl) (C : Addr) (n : Int)
def Nx (N : L2.St → Hp → Prop) (G : Hp) (L0 : List Cell) (ρ : List Sl) : Prop := ∀ G' σ' H', Same G G' → Stt G' ρ σ' L0 H' → N σ' H'
def atF (n : Int) : HO := .xd [(("at" : Str), V.int n)]
def Post (W : WX) (D : Ends) (G : Hp) (L0 : List Cell) : Out → Prop
  | .nx ρ => Nx D.nx G L0 ρ
  | .bk ρ => Nx D.bk G L0 ρ
  | .ct ρ => Nx D.ct G L0 ρ
  | .go ρ => Nx D.nx G L0 ρ ∧ Nx D.ct G L0 ρ
  | .rt R => ∀ G' ρ' σ' H' v, Same G G' → Stt G' ρ' σ' L0 H' → R.p G' v → D.rt v H'
  | .rw ρ R => ∀ G' σ' H' v, Same G G' → Stt G' ρ σ' L0 H' → R.p G' v → D.rt v H'
  | .ro O => ∀ G' H' a cs, Same G G' → Lay G' (cs ++ L0) H' → O.p G' a cs → D.rt (.ref a) H'
  | .xc ρ C n => ∀ G' σ' H' d, Same G G' → Stt G' ρ σ' L0 H' → H' d = none → W (.ref C) (some d) σ' (upd H' d (atF n))
theorem Post.mono {W : WX} {D : Ends} {G G1 : Hp} {L0 : List Cell} {o : Out} (e : Same G G1) (h : Post W D G L0 o) : Post W D G1 L0 o := by
  cases o with
  | nx ρ => exact fun G' σ' H' e' s => h G' σ' H' (e.trans e') s
  | bk ρ => exact fun G' σ' H' e' s => h G' σ' H' (e.trans e') s
  | ct ρ => exact fun G' σ' H' e' s => h G' σ' H' (e.trans e') s
  | go ρ => exact ⟨fun G' σ' H' e' s => h.1 G' σ' H' (e.trans e') s, fun G' σ' H' e' s => h.2 G' σ' H' (e.trans e') s⟩
  | rt R => exact fun G' ρ' σ' H' v e' s r => h G' ρ' σ' H' v (e.trans e') s r
  | rw ρ R => exact fun G' σ' H' v e' s r => h G' σ' H' v (e.trans e') s r
  | ro O => exact fun G' H' a cs e' l r => h G' H' a cs (e.trans e') l r
  | xc ρ C n => exact fun G' σ' H' d e' s r => h G' σ' H' d (e.trans e') s r
structure Ex (W : WX) (ts : TS) (ρ : List Sl) (o : Out) : Prop where
  run : ∀ {G : Hp} {σ : L2.St} {L0 : List Cell} {H : Hp} (D : Ends), Stt G ρ σ L0 H → Post W D G L0 o → ts D σ H
structure EvG (g : TG) (T : List Nat) (ρ : List Sl) (R : Rp) (ρ' : List Sl) : Prop where
  run : ∀ {G : Hp} {σ : L2.St} {L0 : List Cell} {H : Hp} (v : V) (Q : L2.St → Hp → Prop), Stt G ρ σ L0 H → R.p G v →
    (∀ G' σ' H', Same G G' → Stt G' ρ' σ' L0 H' → (∀ vs, (∀ i ∈ T, i ∈ vs) → wipe σ' vs = wipe σ vs) → Q σ' H') → g v σ H Q
structure EvGs (g : TGs) (T : List Nat) (ρ : List Sl) (ds : List PyData) (ρ' : List Sl) : Prop where
  run : ∀ {G : Hp} {σ : L2.St} {L0 : List Cell} {H : Hp} (vs : List V) (Q : L2.St → Hp → Prop), Stt G ρ σ L0 H → DqAll G vs ds →
    (∀ G' σ' H', Same G G' → Stt G' ρ' σ' L0 H' → (∀ vs, (∀ i ∈ T, i ∈ vs) → wipe σ' vs = wipe σ vs) → Q σ' H') → g vs σ H Q
theorem wipe_get (σ : L2.St) (j : Nat) : ∀ vs : List Nat, (wipe σ vs)[j]? = if j ∈ vs then (σ[j]?).map (fun _ => none) else σ[j]?
  | [] => by simp [wipe]
  | v :: vs => by
    show ((wipe σ vs).set v none)[j]? = _
    rw [List.getElem?_set, wipe_length, wipe_get σ j vs]
    by_cases hv : v = j
    · subst hv
      rw [if_pos rfl, if_pos (List.mem_cons_self ..)]
      by_cases hl : v < σ.length
      · rw [if_pos hl, List.getElem?_eq_getElem hl]; rfl
      · rw [if_neg hl, List.getElem?_eq_none (by omega)]; rfl
    · rw [if_neg hv]
      have e : (j ∈ v :: vs) = (j ∈ vs) := by
        rw [List.mem_cons]
        exact propext ⟨fun z => z.elim (fun q => absurd q.symm hv) id, Or.inr⟩
      by_cases hj : j ∈ vs
      · rw [if_pos hj, if_pos (List.mem_cons_of_mem _ hj)]
      · rw [if_neg hj, if_neg (by rw [e]; exact hj)]
theorem wipe_set {σ : L2.St} {i : Nat} {x : Option V} {vs : List Nat} (h : i ∈ vs) : wipe (σ.set i x) vs = wipe σ vs := by
  apply List.ext_getElem?
  intro j
  rw [wipe_get, wipe_get]
  by_cases hj : i = j
  · subst hj
    rw [if_pos h, if_pos h, List.getElem?_set]
    by_cases hl : i < σ.length
    · rw [if_pos rfl, if_pos hl, List.getElem?_eq_getElem hl]; rfl
    · rw [if_pos rfl, if_neg hl, List.getElem?_eq_none (by omega)]
  · rw [List.getElem?_set_ne hj]
section
variable {K : PySem.W.Frag} {W : WX} {ρ ρ' ρ1 : List Sl} {te ta tb : TE} {t u : TS} {R : Rp} {B : Bw} {o : Out} {i : Nat}
theorem Ex.next : Ex W tNext ρ (.nx ρ) := ⟨fun D s q => q _ _ _ (Same.refl _) s⟩
theorem Ex.break_ : Ex W tBreak ρ (.bk ρ) := ⟨fun D s q => q _ _ _ (Same.refl _) s⟩
theorem Ex.cont : Ex W tCont ρ (.ct ρ) := ⟨fun D s q => q _ _ _ (Same.refl _) s⟩
theorem Ex.go (h : Ex W t ρ (.nx ρ')) : Ex W t ρ (.go ρ') := ⟨fun D s q => h.run D s q.1⟩
theorem Ex.goc (h : Ex W t ρ (.ct ρ')) : Ex W t ρ (.go ρ') := ⟨fun D s q => h.run D s q.2⟩
theorem Ex.is {o' : Out} (h : Ex W t ρ o) (e : o = o') : Ex W t ρ o' := by rw [← e]; exact h
theorem Ex.of {ρ'} (e : ρ' = ρ) (h : Ex W t ρ' o) : Ex W t ρ o := by rw [← e]; exact h
theorem Nx.weak {N : L2.St → Hp → Prop} {G : Hp} {L0 : List Cell} (w : Wk ρ ρ') (h : Nx N G L0 ρ') : Nx N G L0 ρ := fun G' σ' H' e s => by
  obtain ⟨G2, e2, s2⟩ := s.weak w
  exact h G2 σ' H' (e.trans e2) s2
theorem Ex.weak (w : Wk ρ ρ') (h : Ex W t ρ' o) : Ex W t ρ o := ⟨fun D s q => by
  obtain ⟨G2, e2, s2⟩ := s.weak w
  exact h.run D s2 (q.mono e2)⟩
theorem Ex.out (w : Wk ρ' ρ1) (h : Ex W t ρ (.nx ρ')) : Ex W t ρ (.nx ρ1) := ⟨fun D s q => h.run D s (Nx.weak w q)⟩
theorem Ex.seq (h : Ex W t ρ (.nx ρ1)) (k : Ex W u ρ1 o) : Ex W (tSeq t u) ρ o := ⟨fun D s q => h.run { D with nx := u D } s fun G' σ' H' e s' => k.run D s' (q.mono e)⟩
def Out.ends : Out → Bool
  | .nx _ => false
  | .go _ => false
  | _ => true
theorem Ex.seqE (h : Ex W t ρ o) (k : o.ends = true) : Ex W (tSeq t u) ρ o := ⟨fun D s q => h.run { D with nx := u D } s (by
  cases o with
  | nx _ => cases k
  | go _ => cases k
  | bk _ => exact q
  | ct _ => exact q
  | rt _ => exact q
  | rw _ _ => exact q
  | ro _ => exact q
  | xc _ _ _ => exact q)⟩
theorem Ex.ife {tc : TT} {b : Bool} (hc : EvT tc ρ b) (h1 : b = true → Ex W t ρ o) (h2 : b = false → Ex W u ρ o) : Ex W (tIfS tc t u) ρ o := ⟨fun D s q => hc.run _ s fun G1 H1 e1 s1 => by
  cases b with
  | true => exact (h1 rfl).run D s1 (q.mono e1)
  | false => exact (h2 rfl).run D s1 (q.mono e1)⟩
theorem Ex.ite {v : TS} {tc : TT} {b : Bool} (hc : EvT tc ρ b) (h1 : b = true → Ex W (tSeq t v) ρ o) (h2 : b = false → Ex W (tSeq u v) ρ o) : Ex W (tSeq (tIfS tc t u) v) ρ o := ⟨fun D s q => hc.run _ s fun G1 H1 e1 s1 => by
  cases b with
  | true => exact (h1 rfl).run D s1 (q.mono e1)
  | false => exact (h2 rfl).run D s1 (q.mono e1)⟩
theorem Ex.set (h : Ev te ρ (pu R)) (i : Nat := i) : Ex W (tAsg te (gName i)) ρ (.nx (ρ.set i (.p R))) := ⟨fun D s q => h.atp s fun G' H' v e s' r => by
  obtain ⟨G2, e2, s2⟩ := s'.set_p r i
  exact q G2 _ H' (e.trans e2) s2⟩
theorem Ex.setN {ds : List PyData} (h : EvN te ρ ds) (hi : i < ρ.length) : Ex W (tAsg te (gName i)) ρ (.nx (ρ.set i (.o (oL ds)))) := ⟨fun D s q => h.run _ s fun G' H' p vs e s' hp d => by
  obtain ⟨G2, e2, s2⟩ := s'.set_o (O := oL ds) (a := p) (cs := [(p, .lst vs)]) (H' := upd H' p (.lst vs)) ⟨vs, rfl, d⟩ i hi (fun M l => l.cell hp)
  exact q G2 _ _ (e.trans e2) s2⟩
theorem Ex.freeze {ds : List PyData} (i : Nat) (hi : ρ[i]? = some (.o (oL ds))) (h : Ex W t (ρ.set i (.p (dat (.list ds)))) o) : Ex W t ρ o := ⟨fun {G σ L0 H} D s q => by
  obtain ⟨a, cs, e, ⟨vs, hcs, d⟩, hh, k1, k2⟩ := s.get_o hi
  subst hcs
  obtain ⟨G2, e2, s2⟩ := k2 (dat (.list ds)) fun G' e' hc => Dq.lst (hc (a, .lst vs) (List.mem_cons_self ..)) (dpAll_up e' d)
  exact h.run D s2 (q.mono e2)⟩
theorem Ex.ret (h : Ev te ρ (pu R)) : Ex W (tRet te) ρ (.rt R) := ⟨fun D s q => h.atp s fun G' H' v e s' r => q G' _ _ H' v e s' r⟩
theorem Ex.drop (h : Ev te ρ B) : Ex W (tDrop te) ρ (.nx ρ) := ⟨fun D s q => h.at s fun G' H' v L e s' _ _ _ => q G' _ H' e s'⟩
theorem Ex.asg {g : TG} {T : List Nat} (h : Ev te ρ (pu R)) (hg : EvG g T ρ R ρ') : Ex W (tAsg te g) ρ (.nx ρ') := ⟨fun D s q => h.atp s fun G' H' v e s' r => hg.run v _ s' r fun G2 σ2 H2 e2 s2 _ => q G2 σ2 H2 (e.trans e2) s2⟩
theorem eg_name : EvG (gName i) [i] ρ R (ρ.set i (.p R)) := ⟨fun v Q s r q => by
  obtain ⟨G2, e2, s2⟩ := s.set_p r i
  exact q G2 _ _ e2 s2 fun vs h => wipe_set (h i (List.mem_cons_self ..))⟩
theorem egs_nil : EvGs gNil [] ρ [] ρ := ⟨fun vs Q s r q => by
  cases r
  exact ⟨rfl, q _ _ _ (Same.refl _) s fun _ _ => rfl⟩⟩
theorem egs_cons {g : TG} {gs : TGs} {T U : List Nat} {d : PyData} {ds : List PyData} (h1 : EvG g T ρ (dat d) ρ1) (h2 : EvGs gs U ρ1 ds ρ') : EvGs (gCons g gs) (T ++ U) ρ (d :: ds) ρ' := ⟨fun vs Q s r q => by
  cases r with
  | cons r1 r2 =>
    exact ⟨_, _, rfl, h1.run _ _ s r1 fun G1 σ1 H1 e1 s1 w1 => h2.run _ _ s1 (dpAll_up e1 r2) fun G2 σ2 H2 e2 s2 w2 => q G2 σ2 H2 (e1.trans e2) s2 fun vs h =>
      (w2 vs fun i hi => h i (List.mem_append_right _ hi)).trans (w1 vs fun i hi => h i (List.mem_append_left _ hi))⟩⟩
theorem eg_tup {n : Nat} {gs : TGs} {T : List Nat} {ds : List PyData} (h : EvGs gs T ρ ds ρ') (hn : ds.length = n) : EvG (gTup K n gs) T ρ (dat (.tuple ds)) ρ' := ⟨fun v Q s r q => by
  have r : Dq _ v (.tuple ds) := r
  cases r with
  | tup a b => exact ⟨_, _, rfl, .inl (.inl (s.same _ _ a)), by rw [dpAll_len b]; exact hn, h.run _ Q s b q⟩⟩
structure Gives (J : It) (G0 : Hp) (L0 : List Cell) (ds : List PyData) : Prop where
  go : ∀ i G L H, Same G0 G → Lay G (L ++ L0) H → (h : i < ds.length) → J.go i H ∧ ∀ x H', J.yld i H x H' → ∃ G', Same G G' ∧ (∀ L, Lay G (L ++ L0) H → Lay G' (L ++ L0) H') ∧ Dq G' x ds[i]
  stop : ∀ i G L H, Same G0 G → Lay G (L ++ L0) H → ds.length ≤ i → J.stop i H
structure EvI (K : PySem.W.Frag) (wi : TI) (ρ : List Sl) (ds : List PyData) : Prop where
  run : ∀ {G : Hp} {σ : L2.St} {L0 : List Cell} {H : Hp} (Q : It → Hp → Prop), Stt G ρ σ L0 H →
    (∀ G' H' J, Same G G' → Stt G' ρ σ L0 H' → Gives J G' L0 ds → Q J H') → wi σ H Q
structure EvS (K : PySem.W.Frag) (te : TE) (ρ : List Sl) (ds : List PyData) : Prop where
  run : ∀ {G : Hp} {σ : L2.St} {L0 : List Cell} {H : Hp} (Q : VK), Stt G ρ σ L0 H →
    (∀ G' H' a vs, Same G G' → Stt G' ρ σ L0 H' → (∀ G'' L'' H'', Same G' G'' → Lay G'' (L'' ++ L0) H'' → SqL K H'' a vs) → DqAll G' vs ds → Q (.ref a) H') → te σ H Q
theorem Ev.s {ds : List PyData} (h : Ev te ρ (pu (dat (.list ds)))) : EvS K te ρ ds := ⟨fun Q s q => h.atp s fun G' H' v e s' r => by
  have r : Dq G' v (.list ds) := r
  cases r with
  | lst a b => exact q G' H' _ _ e s' (fun G'' L'' H'' e2 l => .inl (.inl (l.same _ _ (e2 _ _ a)))) b⟩
theorem es_b {ds : List PyData} (h : ρ[i]? = some (.b (bL ds))) : EvS K (tVar i) ρ ds := ⟨fun Q s q => by
  obtain ⟨v, e, r⟩ := s.get_b h
  obtain ⟨a, vs, rfl, hc, d⟩ := r
  exact ⟨_, e, q _ _ a vs (Same.refl _) s (fun G'' L'' H'' e2 l => .inl (.inl (hc.elim (fun z => l.same _ _ (e2 _ _ z)) fun z => (l.on _ (List.mem_append_right _ z)).1))) d⟩⟩
theorem ei_list {ds : List PyData} (h : EvS K te ρ ds) : EvI K (iList K te) ρ ds := ⟨fun Q s q => h.run _ s fun G' H' a vs e s' hc d => by
  obtain ⟨L, sl, la⟩ := id s'
  refine ⟨a, rfl, ⟨vs, hc _ _ _ (Same.refl _) la⟩, q G' H' _ e s' ⟨fun i G L H e2 l hi => ?_, fun i G L H e2 l hi => ?_⟩⟩
  · have hq := hc _ _ _ e2 l
    obtain ⟨v, hv, dv⟩ := dpAll_get d (List.getElem?_eq_getElem hi)
    refine ⟨⟨vs, v, hq, hv⟩, fun x H' y => ?_⟩
    obtain ⟨rfl, y⟩ := y
    have ex : x = v := Option.some.inj ((y vs hq).symm.trans hv)
    subst ex
    exact ⟨G, Same.refl _, fun L l => l, dp_up e2 dv⟩
  · exact ⟨vs, hc _ _ _ e2 l, by rw [dpAll_len d]; exact hi⟩⟩
def irange (lo : Int) (n : Nat) : List PyData := (List.range n).map fun k => .int (lo + (k : Nat))
theorem irange_len (lo : Int) (n : Nat) : (irange lo n).length = n := by simp [irange]
theorem gives_range {G : Hp} {L0 : List Cell} {lo : Int} {n : Nat} : Gives (Itr lo n) G L0 (irange lo n) :=
  ⟨fun i G L H e l hi => ⟨by rw [irange_len] at hi; exact hi, fun x H' y => by
    obtain ⟨rfl, rfl⟩ := y
    refine ⟨G, Same.refl _, fun L l => l, ?_⟩
    have e : (irange lo n)[i] = .int (lo + (i : Nat)) := by simp [irange]
    rw [e]
    exact Dq.int _⟩, fun i G L H e l hi => by rw [irange_len] at hi; exact hi⟩
theorem ei_range1 {ta : TA} {n : Int} (h : EvA ta ρ [pu (dI n)]) (h1 : -(2 ^ 62) ≤ n) (h2 : n < 2 ^ 62) : EvI K (iRng1 ta) ρ (irange 0 n.toNat) := ⟨fun Q s q => h.at s fun G' H' vs L e a b r => by
  cases r with
  | cons r1 r2 =>
    cases r2; cases r1
    exact ⟨n, rfl, h1, h2, q G' H' _ e ⟨L, a, b⟩ gives_range⟩⟩
theorem ei_range2 {ta : TA} {m n : Int} (h : EvA ta ρ [pu (dI m), pu (dI n)]) (h1 : -(2 ^ 62) ≤ m) (h2 : m < 2 ^ 62) (h3 : -(2 ^ 62) ≤ n) (h4 : n < 2 ^ 62) : EvI K (iRng2 ta) ρ (irange m (n - m).toNat) := ⟨fun Q s q => h.at s fun G' H' vs L e a b r => by
  cases r with
  | cons r1 r2 =>
    cases r2 with
    | cons r2 r3 =>
      cases r3; cases r1; cases r2
      exact ⟨m, n, rfl, ⟨h1, h2, h3, h4⟩, q G' H' _ e ⟨L, a, b⟩ gives_range⟩⟩
theorem ei_enum {ds : List PyData} (h : EvS K te ρ ds) : EvI K (iEnum K (tCons te tNil)) ρ (ds.zipIdx.map fun p => .tuple [.int ((p.2 : Nat) : Int), p.1]) := ⟨fun Q s q => h.run _ s fun G' H' a vs e s' hc d => by
  obtain ⟨L, sl, la⟩ := id s'
  refine ⟨a, vs, rfl, hc _ _ _ (Same.refl _) la, q G' H' _ e s' ⟨fun i G L H e2 l hi => ?_, fun i G L H e2 l hi => ?_⟩⟩
  · have hi' : i < ds.length := by simpa using hi
    have hq := hc _ _ _ e2 l
    obtain ⟨v, hv, dv⟩ := dpAll_get d (List.getElem?_eq_getElem hi')
    refine ⟨⟨vs, v, hq, hv⟩, fun x H' y => ?_⟩
    obtain ⟨T, x2, rfl, hT, rfl, y⟩ := y
    have ex : x2 = v := Option.some.inj ((y vs hq).symm.trans hv)
    subst ex
    have g := same_upd (o := .tup [.int (i : Nat), x2]) (l.freshG hT)
    refine ⟨_, g, fun L l => l.grow hT, ?_⟩
    have e3 : (ds.zipIdx.map fun p => PyData.tuple [.int ((p.2 : Nat) : Int), p.1])[i] = .tuple [.int ((i : Nat) : Int), ds[i]] := by simp
    rw [e3]
    exact Dq.tup upd_same (.cons (.int _) (.cons (dp_up (e2.trans g) dv) .nil))
  · exact ⟨vs, hc _ _ _ e2 l, by rw [dpAll_len d]; simpa using hi⟩⟩
def runF {α S : Type} (f : S → α → Sum S Out) : S → List α → Sum S Out
  | s, [] => .inl s
  | s, x :: xs => match f s x with
    | .inl s' => runF f s' xs
    | .inr o => .inr o
theorem runF_app {α S : Type} {f : S → α → Sum S Out} : ∀ {xs ys : List α} {s s' : S}, runF f s xs = .inl s' → runF f s (xs ++ ys) = runF f s' ys
  | [], _, _, _, h => by
    cases h
    rfl
  | x :: xs, ys, s, s', h => by
    show (match f s x with | .inl s' => runF f s' (xs ++ ys) | .inr o => .inr o) = _
    unfold runF at h
    cases q : f s x with
    | inl s1 =>
      rw [q] at h
      exact runF_app h
    | inr o =>
      rw [q] at h
      cases h
def unbk : Out → Out
  | .bk ρ => .nx ρ
  | o => o
def loopOut {S : Type} (E : S → List Sl) : Sum S Out → Out
  | .inl s => .nx (E s)
  | .inr o => unbk o
def turnOut {S : Type} (E : S → List Sl) : Sum S Out → Out
  | .inl s => .go (E s)
  | .inr o => o
def Out.leaves : Out → Bool
  | .rt _ => true
  | .rw _ _ => true
  | .ro _ => true
  | .bk _ => true
  | .xc _ _ _ => true
  | _ => false
theorem Ex.forF {α S : Type} {wi : TI} {g : TG} {tb : TS} {xs : List α} {en : α → PyData} {T : List Nat} {s0 : S} (E : S → List Sl) (f : S → α → Sum S Out) (hi : EvI K wi ρ (xs.map en)) (h0 : Wk ρ (E s0))
    (hb : ∀ pre x post s, xs = pre ++ x :: post → runF f s0 pre = .inl s → (∀ o, f s x = .inr o → o.leaves = true) ∧ ∃ T ρ1, EvG g T (E s) (dat (en x)) ρ1 ∧ Ex W tb ρ1 (turnOut E (f s x))) :
    Ex W (tFor wi g tb) ρ (loopOut E (runF f s0 xs)) := ⟨fun {G σ L0 H} D s q => hi.run _ s fun G1 H1 J e1 s1 gv => by
  obtain ⟨G2, e2, s2⟩ := s1.weak h0
  refine ⟨fun i m σ H => m = xs.length - i ∧ i ≤ xs.length ∧ ∃ s G', runF f s0 (xs.take i) = .inl s ∧ Same G2 G' ∧ Stt G' (E s) σ L0 H, ⟨xs.length, by simp, Nat.zero_le _, s0, G2, rfl, Same.refl _, s2⟩, ?_⟩
  rintro i m σ' H' ⟨rfl, hi, s', G', hr, e3, s3⟩
  obtain ⟨L3, sl3, la3⟩ := id s3
  have e13 : Same G1 G' := e2.trans e3
  by_cases hlt : i < xs.length
  · right
    have hx : xs[i]? = some xs[i] := List.getElem?_eq_getElem hlt
    have hsplit : xs = xs.take i ++ xs[i] :: xs.drop (i + 1) := by
      rw [List.getElem_cons_drop, List.take_append_drop]
    obtain ⟨hlv, T, ρ1, hg, hbody⟩ := hb _ _ _ s' hsplit hr
    obtain ⟨g1, g2⟩ := gv.go i G' L3 H' e13 la3 (by simpa using hlt)
    refine ⟨g1, fun σ'' H'' => ∃ s G', runF f s0 (xs.take (i + 1)) = .inl s ∧ Same G2 G' ∧ Stt G' (E s) σ'' L0 H'', fun σ'' H'' ⟨s, G'', a, b, c⟩ => ⟨xs.length - (i + 1), by omega, rfl, hlt, s, G'', a, b, c⟩, fun x H4 y => ?_⟩
    obtain ⟨G4, e4, l4, d4⟩ := g2 x H4 y
    have d4 : Dq G4 x (en xs[i]) := by simpa using d4
    have s4 : Stt G4 (E s') σ' L0 H4 := ⟨L3, sl3.up e4, l4 _ la3⟩
    refine hg.run x _ s4 d4 fun G5 σ5 H5 e5 s5 _ => ?_
    have e25 : Same G2 G5 := (e3.trans e4).trans e5
    refine hbody.run _ s5 ?_
    have htake : runF f s0 (xs.take (i + 1)) = runF f s' [xs[i]] := by
      rw [List.take_add_one, hx]
      exact runF_app hr
    cases hf : f s' xs[i] with
    | inl s6 =>
      have z : runF f s0 (xs.take (i + 1)) = .inl s6 := by
        rw [htake]
        show (match f s' xs[i] with | .inl s' => runF f s' [] | .inr o => .inr o) = _
        rw [hf]
        rfl
      have k : ∀ G6 σ6 H6, Same G5 G6 → Stt G6 (E s6) σ6 L0 H6 → ∃ s G', runF f s0 (xs.take (i + 1)) = .inl s ∧ Same G2 G' ∧ Stt G' (E s) σ6 L0 H6 := fun G6 σ6 H6 e6 st => ⟨s6, G6, z, e25.trans e6, st⟩
      exact ⟨k, k⟩
    | inr o =>
      have z : runF f s0 xs = .inr o := by
        rw [hsplit, runF_app hr]
        show (match f s' xs[i] with | .inl s' => runF f s' _ | .inr o => .inr o) = _
        rw [hf]
      rw [z] at q
      have q : Post W D G L0 (unbk o) := q
      have q := q.mono (e1.trans (e2.trans e25))
      have hl := hlv o hf
      cases o with
      | nx _ => cases hl
      | go _ => cases hl
      | ct _ => cases hl
      | bk _ => exact q
      | rt _ => exact q
      | rw _ _ => exact q
      | ro _ => exact q
      | xc _ _ _ => exact q
  · left
    have e : i = xs.length := by omega
    subst e
    rw [List.take_length] at hr
    rw [hr] at q
    exact ⟨gv.stop _ G' L3 H' e13 la3 (by simp), q G' σ' H' (e1.trans e13) s3⟩⟩
theorem Ex.for_ {α : Type} {wi : TI} {g : TG} {tb : TS} {xs : List α} {en : α → PyData} (E : List α → List Sl) (hi : EvI K wi ρ (xs.map en)) (h0 : Wk ρ (E []))
    (hb : ∀ pre x post, xs = pre ++ x :: post → ∃ T ρ1, EvG g T (E pre) (dat (en x)) ρ1 ∧ Ex W tb ρ1 (.go (E (pre ++ [x])))) :
    Ex W (tFor wi g tb) ρ (.nx (E xs)) := by
  have key : ∀ ys zs : List α, runF (fun (s : List α) x => (.inl (s ++ [x]) : Sum (List α) Out)) ys zs = .inl (ys ++ zs) := by
    intro ys zs
    induction zs generalizing ys with
    | nil => simp [runF]
    | cons z zs ih =>
      show runF _ (ys ++ [z]) zs = _
      rw [ih]
      simp
  have h := Ex.forF (W := W) (T := []) (s0 := ([] : List α)) (wi := wi) (g := g) (tb := tb) (xs := xs) (en := en) (ρ := ρ) E (fun s x => .inl (s ++ [x])) hi h0 (fun pre x post s e r => by
    rw [key] at r
    have r : [] ++ pre = s := Sum.inl.inj r
    rw [List.nil_append] at r
    subst r
    exact ⟨fun o z => (by cases z), hb pre x post e⟩)
  rw [key] at h
  exact h
end
end Z

set_option Elab.async false
set_option linter.all false
set_option maxRecDepth 100000
set_option maxHeartbeats 2000000
namespace Z
open PySem PySem.Spec PyProof.Rows L2
theorem Slots.mono {G : Hp} {L0 L1 : List Cell} (h : ∀ c ∈ L0, c ∈ L1) : ∀ {σ ρ L}, Slots G L0 σ ρ L → Slots G L1 σ ρ L
  | _, _, _, .nil => .nil
  | _, _, _, .x s => .x (s.mono h)
  | _, _, _, .p q s => .p q (s.mono h)
  | _, _, _, .o q s => .o q (s.mono h)
  | _, _, _, .b q s => .b (Bw.up _ (Same.refl _) h q) (s.mono h)
theorem Slots.mix {G G' : Hp} {L0 L1 : List Cell} (e : Same G G') : ∀ {σ ρ L L'}, Slots G L0 σ ρ L → Slots G' L1 σ ρ L' → Slots G' L0 σ ρ L'
  | _, _, _, _, .nil, .nil => .nil
  | _, _, _, _, .x s, .x s' => .x (s.mix e s')
  | _, _, _, _, .p _ s, .p q s' => .p q (s.mix e s')
  | _, _, _, _, .o _ s, .o q s' => .o q (s.mix e s')
  | _, _, _, _, .b q s, .b _ s' => .b (Bw.up _ e (fun _ z => z) q) (s.mix e s')
theorem Slots.agree {G : Hp} {L0 : List Cell} : ∀ {σ : L2.St} {ρ : List Sl} {L} {σ' : L2.St}, Slots G L0 σ ρ L → σ'.length = σ.length → (∀ j : Nat, ρ[j]? ≠ some Sl.x → σ'[j]? = σ[j]?) → Slots G L0 σ' ρ L
  | _, _, _, [], .nil, _, _ => .nil
  | _, _, _, [], .x _, h, _ | _, _, _, [], .p _ _, h, _ | _, _, _, [], .o _ _, h, _ | _, _, _, [], .b _ _, h, _ => by simp at h
  | _, _, _, _ :: _, .nil, h, _ => by simp at h
  | _, _, _, v :: σ', .x s, h, k => .x (s.agree (by simpa using h) fun j hj => by simpa using k (j + 1) (by simpa using hj))
  | _, _, _, v :: σ', .p q s, h, k => by
    have e := k 0 (by simp)
    simp at e
    subst e
    exact .p q (s.agree (by simpa using h) fun j hj => by simpa using k (j + 1) (by simpa using hj))
  | _, _, _, v :: σ', .b q s, h, k => by
    have e := k 0 (by simp)
    simp at e
    subst e
    exact .b q (s.agree (by simpa using h) fun j hj => by simpa using k (j + 1) (by simpa using hj))
  | _, _, _, v :: σ', .o q s, h, k => by
    have e := k 0 (by simp)
    simp at e
    subst e
    exact .o q (s.agree (by simpa using h) fun j hj => by simpa using k (j + 1) (by simpa using hj))
def AllX (ρ : List Sl) : List Nat → Prop
  | [] => True
  | v :: vs => ρ[v]? = some Sl.x ∧ AllX ρ vs
theorem AllX.at {ρ : List Sl} : ∀ {vs : List Nat} {v : Nat}, AllX ρ vs → v ∈ vs → ρ[v]? = some Sl.x
  | [], _, _, h => by simp at h
  | w :: vs, v, ⟨h1, h2⟩, h => by
    rcases List.mem_cons.mp h with z | z
    · rw [z]; exact h1
    · exact h2.at z
theorem wipe_agree {ρ : List Sl} {σ : L2.St} {vs : List Nat} (h : AllX ρ vs) : ∀ j : Nat, ρ[j]? ≠ some Sl.x → (wipe σ vs)[j]? = σ[j]? := fun j hj => by
  rw [wipe_get]
  by_cases hm : j ∈ vs
  · exact absurd (h.at hm) hj
  · rw [if_neg hm]
theorem wipe_two {ρ : List Sl} {σ σ' : L2.St} {vs : List Nat} (h : AllX ρ vs) (e : wipe σ' vs = wipe σ vs) : ∀ j : Nat, ρ[j]? ≠ some Sl.x → σ'[j]? = σ[j]? := fun j hj => by
  rw [← wipe_agree (σ := σ') h j hj, e, wipe_agree h j hj]
theorem len_two {σ σ' : L2.St} {vs : List Nat} (e : wipe σ' vs = wipe σ vs) : σ'.length = σ.length := by
  have := congrArg List.length e
  rwa [wipe_length, wipe_length] at this
section
variable {K : PySem.W.Frag} {W : WX} {ρ ρ' ρ1 : List Sl} {te ta tb : TE} {t u : TS} {R : Rp} {B : Bw} {o : Out} {i : Nat}
theorem filt_take {α : Type} (p : α → Bool) {xs : List α} {i : Nat} {x : α} (h : xs[i]? = some x) : (xs.take (i + 1)).filter p = (xs.take i).filter p ++ (if p x = true then [x] else []) := by
  rw [List.take_add_one, h, List.filter_append]
  congr 1
  by_cases hp : p x = true
  · rw [if_pos hp]; simp [hp]
  · rw [if_neg hp]; simp [hp]
theorem en_lc {α : Type} {wi : TI} {g : TG} {tt : TT} {vs : List Nat} {xs : List α} {en f : α → PyData} {p : α → Bool} (hi : EvI K wi ρ (xs.map en)) (hx : AllX ρ vs) (hz : xs.length ≤ 100000)
    (hb : ∀ x ∈ xs, ∃ T ρ1, EvG g T ρ (dat (en x)) ρ1 ∧ (∀ i ∈ T, i ∈ vs) ∧ Wk ρ1 ρ ∧ EvT tt ρ1 (p x) ∧ (p x = true → Ev te ρ1 (pu (dat (f x))))) : EvN (tLc wi g tt te vs) ρ ((xs.filter p).map f) := ⟨fun {G σ L0 H} Q s q => hi.run _ s fun G1 H1 J e1 s1 gv D hD => by
  obtain ⟨L1, sl1, la1⟩ := id s1
  refine ⟨fun i m H => m = xs.length - i ∧ i ≤ xs.length ∧ ∃ G' ws L', Same G1 G' ∧ Slots G' L0 σ ρ L' ∧ Lay G' (L' ++ ((D, HO.lst ws) :: L0)) H ∧ DqAll G' ws (((xs.take i).filter p).map f), ⟨xs.length, by simp, Nat.zero_le _, G1, [], L1, Same.refl _, sl1, ?_, .nil⟩, ?_⟩
  · exact (la1.cell hD).perm List.perm_middle.symm
  rintro i m H2 ⟨rfl, hi, G2, ws, L2', e2, sl2, la2, d2⟩
  have la2' : Lay G2 ((L2' ++ [(D, HO.lst ws)]) ++ L0) H2 := by
    rw [List.append_assoc]
    exact la2
  by_cases hlt : i < xs.length
  · right
    have hxe : xs[i]? = some xs[i] := List.getElem?_eq_getElem hlt
    obtain ⟨g1, g2⟩ := gv.go i G2 _ H2 e2 la2' (by simpa using hlt)
    refine ⟨g1, fun H => ∃ G' ws L', Same G1 G' ∧ Slots G' L0 σ ρ L' ∧ Lay G' (L' ++ ((D, HO.lst ws) :: L0)) H ∧ DqAll G' ws (((xs.take (i + 1)).filter p).map f), fun H' ⟨G', ws, L', a, b, c, d⟩ => ⟨xs.length - (i + 1), by omega, rfl, hlt, G', ws, L', a, b, c, d⟩, fun x H3 y => ?_⟩
    obtain ⟨G3, e3, l3, d3⟩ := g2 x H3 y
    have d3 : Dq G3 x (en xs[i]) := by simpa using d3
    have la3 : Lay G3 (L2' ++ ((D, HO.lst ws) :: L0)) H3 := by
      have := l3 _ la2'
      rw [List.append_assoc] at this
      exact this
    obtain ⟨T, ρ1, hg, hT, hwk, ht, hf⟩ := hb xs[i] (List.getElem_mem hlt)
    have sw : Stt G3 ρ (wipe σ vs) ((D, HO.lst ws) :: L0) H3 := ⟨L2', ((sl2.up e3).mono fun c hc => List.mem_cons_of_mem _ hc).agree (wipe_length σ vs) (wipe_agree hx), la3⟩
    refine hg.run x _ sw d3 fun G4 σ4 H4 e4 s4 w4 => ?_
    have hw4 : wipe σ4 vs = wipe σ vs := by
      rw [w4 vs hT]
      apply List.ext_getElem?
      intro j
      rw [wipe_get, wipe_get]
      by_cases hj : j ∈ vs
      · simp only [if_pos hj]
        cases σ[j]? <;> rfl
      · simp only [if_neg hj]
    refine ⟨hw4, ?_⟩
    -- back to the outer slots
    have back : ∀ {G5 H5}, Same G3 G5 → Stt G5 ρ1 σ4 ((D, HO.lst ws) :: L0) H5 → ∃ G6 L6, Same G5 G6 ∧ Slots G6 L0 σ ρ L6 ∧ Lay G6 (L6 ++ ((D, HO.lst ws) :: L0)) H5 := fun {G5 H5} e5 s5 => by
      obtain ⟨G6, e6, L6, sl6, la6⟩ := s5.weak hwk
      have sl6' := sl6.agree (σ' := σ) (len_two hw4).symm fun j hj => (wipe_two hx hw4 j hj).symm
      exact ⟨G6, L6, e6, (sl2.up e3).mix (e5.trans e6) sl6', la6⟩
    refine ht.run _ s4 fun G5 H5 e5 s5 => ?_
    cases hp : p xs[i] with
    | true =>
      show te _ _ _
      refine (hf hp).atp s5 fun G6 H6 y e6 s6 r6 => ?_
      obtain ⟨G7, L7, e7, sl7, la7⟩ := back ((e4.trans e5).trans e6) s6
      have hc : H6 D = some (HO.lst ws) := (la7.on (D, HO.lst ws) (List.mem_append_right _ (List.mem_cons_self ..))).1
      have e27 : Same G2 G7 := e3.trans (((e4.trans e5).trans e6).trans e7)
      refine ⟨ws, hc, ?_, G7, ws ++ [y], L7, e2.trans e27, sl7, ?_, ?_⟩
      · rw [dpAll_len d2, List.length_map]
        have h1 : ((xs.take i).filter p).length ≤ (xs.take i).length := List.length_filter_le ..
        have h2 : (xs.take i).length ≤ i := by rw [List.length_take]; exact Nat.min_le_left ..
        exact Nat.lt_of_lt_of_le (by omega : _ < 100001) (by decide)
      · exact ((la7.perm List.perm_middle).store).perm List.perm_middle.symm
      · rw [filt_take p hxe, hp, if_pos rfl, List.map_append]
        exact dpAll_app (dpAll_up e27 d2) (.cons (dp_up e7 r6) .nil)
    | false =>
      show ∃ G' ws L', _
      obtain ⟨G7, L7, e7, sl7, la7⟩ := back (e4.trans e5) s5
      have e27 : Same G2 G7 := e3.trans ((e4.trans e5).trans e7)
      refine ⟨G7, ws, L7, e2.trans e27, sl7, la7, ?_⟩
      rw [filt_take p hxe, hp, if_neg Bool.false_ne_true, List.append_nil]
      exact dpAll_up e27 d2
  · left
    have ei : i = xs.length := by omega
    subst ei
    refine ⟨gv.stop _ G2 _ H2 e2 la2' (by simp), ?_⟩
    rw [List.take_length] at d2
    -- the list taken out again
    have la4 : Lay G2 ((D, HO.lst ws) :: (L2' ++ L0)) H2 := la2.perm List.perm_middle
    have hne := la4.ne
    have eH : H2 = upd (fun b => if b = D then none else H2 b) D (.lst ws) := by
      funext b
      by_cases hb : b = D
      · rw [hb, upd_same]; exact (la4.on _ (List.mem_cons_self ..)).1
      · rw [upd_ne hb, if_neg hb]
    have la5 : Lay G2 (L2' ++ L0) (fun b => if b = D then none else H2 b) := by
      refine ⟨fun b hb => ?_, fun c hc => ?_, ?_⟩
      · by_cases h : b = D
        · rw [h, if_pos rfl]; exact ((la4.on _ (List.mem_cons_self ..)).2).symm
        · rw [if_neg h]
          refine la4.off b fun c hc => ?_
          rcases List.mem_cons.mp hc with z | z
          · subst z; exact fun z => h z.symm
          · exact hb c z
      · rw [if_neg (hne c hc)]; exact la4.on c (List.mem_cons_of_mem _ hc)
      · have := la4.nd
        rw [List.map_cons, List.nodup_cons] at this
        exact this.2
    rw [eH]
    exact q G2 _ D ws (e1.trans e2) ⟨L2', sl2, la5⟩ (if_pos rfl) d2⟩
theorem Ex.append {ds : List PyData} {d : PyData} {T : String} (hi : ρ[i]? = some (.o (oL ds))) (he : Ev te ρ (pu (dat d))) (hz : ds.length < 1000000) (hT : T = "list") : Ex W (tDrop (tBM K T rAppend (tVar i) (tCons te tNil))) ρ (.nx (ρ.set i (.o (oL (ds ++ [d]))))) := ⟨fun {G σ L0 H} D s q => by
  obtain ⟨a, cs, e, ⟨vs, hcs, hd⟩, hh, _⟩ := s.get_o hi
  subst hcs
  refine ⟨_, e, .inl ⟨hT, vs, .inl (.inl (hh _ (List.mem_cons_self ..)))⟩, ?_⟩
  refine he.atp s fun G1 H1 v e1 s1 r => ?_
  obtain ⟨a', cs', e', ⟨vs', hcs', hd'⟩, hh', k1, _⟩ := s1.get_o hi
  rw [e] at e'
  injection e' with e'; injection e' with e'; injection e' with e'
  subst e' hcs'
  refine ⟨a, vs', v, rfl, rfl, hh' _ (List.mem_cons_self ..), ?_, ?_⟩
  · rw [dpAll_len hd']; exact Nat.lt_trans hz (by decide)
  · exact q G1 _ _ e1 (k1 (oL (ds ++ [d])) [(a, .lst (vs' ++ [v]))] _ ⟨_, rfl, dpAll_app hd' (.cons r .nil)⟩ fun M l => l.store)⟩
theorem Ex.setitem {ds : List PyData} {d : PyData} {k : Int} {j : Nat} (hi : ρ[i]? = some (.o (oL ds))) (he : Ev te ρ (pu (dat d))) (hk : Ev ta ρ (pu (dI k))) (hj : ixN ds.length k = some j) : Ex W (tAsg te (gSub (tVar i) ta rSetL)) ρ (.nx (ρ.set i (.o (oL (ds.set j d))))) := ⟨fun {G σ L0 H} D s q => he.atp s fun G1 H1 v e1 s1 r => by
  obtain ⟨a, cs, e, _⟩ := s1.get_o hi
  refine ⟨_, e, ?_⟩
  refine hk.atp s1 fun G2 H2 w e2 s2 r2 => ?_
  cases r2
  obtain ⟨a', cs', e', ⟨vs', hcs', hd'⟩, hh', k1, _⟩ := s2.get_o hi
  rw [e] at e'
  injection e' with e'; injection e' with e'; injection e' with e'
  subst e' hcs'
  refine ⟨a, vs', k, j, rfl, rfl, hh' _ (List.mem_cons_self ..), by rw [dpAll_len hd']; exact hj, ?_⟩
  exact q G2 _ _ (e1.trans e2) (k1 (oL (ds.set j d)) [(a, .lst (vs'.set j v))] _ ⟨_, rfl, dpAll_set (dp_up e2 r) j hd'⟩ fun M l => l.store)⟩
structure EvO (to : TO) (ρ : List Sl) (k : Option Int) : Prop where
  run : ∀ {G : Hp} {σ : L2.St} {L0 : List Cell} {H : Hp} (Q : Option Int → Hp → Prop), Stt G ρ σ L0 H → (∀ G' H', Same G G' → Stt G' ρ σ L0 H' → Q k H') → to σ H Q
theorem eo_none : EvO tNoPart ρ none := ⟨fun Q s q => q _ _ (Same.refl _) s⟩
theorem eo_some {k : Int} (h : Ev te ρ (pu (dI k))) : EvO (tPart te) ρ (some k) := ⟨fun Q s q => h.atp s fun G' H' v e s' r => by
  cases r
  exact ⟨k, rfl, q _ _ e s'⟩⟩
def cutD (ds : List PyData) (lo hi : Option Int) : List PyData := (ds.drop (HT.sIx ds.length 0 lo)).take (HT.sIx ds.length ds.length hi - HT.sIx ds.length 0 lo)
theorem cut_all {G : Hp} {vs : List V} {ds : List PyData} (h : DqAll G vs ds) (lo hi : Option Int) : DqAll G (cutV vs lo hi) (cutD ds lo hi) := by
  unfold cutV cutD
  rw [dpAll_len h]
  exact dpAll_take _ (dpAll_drop _ h)
theorem en_sl {tl th : TO} {ds : List PyData} {lo hi : Option Int} (h : Ev te ρ (bL ds)) (h1 : EvO tl ρ lo) (h2 : EvO th ρ hi) : EvN (tSl (rSlL K) te tl th) ρ (cutD ds lo hi) := ⟨fun Q s q =>
  h.run _ s fun G1 H1 v e1 s1 r => h1.run _ s1 fun G2 H2 e2 s2 => h2.run _ s2 fun G3 H3 e3 s3 => by
    obtain ⟨L, a, b⟩ := id s3
    obtain ⟨p, vs, rfl, hv, d⟩ := bl_sq b (r G3 L H3 (e2.trans e3) a b)
    exact ⟨p, vs, rfl, .inl (.inl hv), fun n hn => q G3 H3 n _ ((e1.trans e2).trans e3) s3 hn (cut_all d lo hi)⟩⟩
theorem o_cat {ds es : List PyData} (hz : ds.length + es.length ≤ 1000000) : Op2N rCat (bL ds) (bL es) (ds ++ es) := fun G H L x y Q l hx hy q => by
  obtain ⟨a, vs, rfl, h, d⟩ := bl_sq l hx
  obtain ⟨b, ws, rfl, k, e⟩ := bl_sq l hy
  exact ⟨a, b, vs, ws, rfl, rfl, h, k, by rw [dpAll_len d, dpAll_len e]; exact Nat.le_trans hz (by decide), fun p hp => q p _ hp (dpAll_app d e)⟩
theorem o_rep {ds : List PyData} {k : Int} (hz : ds.length * k.toNat ≤ 1000000) (h1 : -(2 ^ 63) ≤ k) (h2 : k < 2 ^ 63) : Op2N rRep (bL ds) (pu (dI k)) (List.replicate k.toNat ds).flatten := fun G H L x y Q l hx hy q => by
  obtain ⟨a, vs, rfl, h, d⟩ := bl_sq l hx
  cases hy
  exact ⟨a, k, vs, rfl, rfl, h, h1, h2, by rw [dpAll_len d]; exact Nat.le_trans hz (by decide), fun p hp => q p _ hp (dpAll_rep _ d)⟩
abbrev cLen (K : PySem.W.Frag) : List V → Hp → VK → Prop := fun xs H Q => ∃ p ys, xs = [.ref p] ∧ (SqL K H p ys ∨ SqT K H p ys) ∧ Q (.int ys.length) H
theorem cl_len {ds : List PyData} : Cl (cLen K) [bL ds] (dI ds.length) := fun G H L vs Q l r q => by
  cases r with
  | cons h t =>
    cases t
    obtain ⟨a, ws, rfl, hv, d⟩ := bl_sq l h
    refine ⟨a, ws, rfl, .inl (.inl (.inl hv)), q _ ?_⟩
    rw [dpAll_len d]
    exact Dq.int _
abbrev cList (K : PySem.W.Frag) : List V → Hp → VK → Prop := fun xs H Q => ∃ p ys, xs = [.ref p] ∧ (SqL K H p ys ∨ SqT K H p ys) ∧ ∀ l, H l = none → Q (.ref l) (upd H l (.lst ys))
theorem cl_list {ds : List PyData} : ClN (cList K) [bL ds] ds := fun G H L vs Q l r q => by
  cases r with
  | cons h t =>
    cases t
    obtain ⟨a, ws, rfl, hv, d⟩ := bl_sq l h
    exact ⟨a, ws, rfl, .inl (.inl (.inl hv)), fun p hp => q p ws hp d⟩
abbrev cAbs : List V → Hp → VK → Prop := fun xs H Q => ∃ i, xs = [.int i] ∧ Q (.int (if i < 0 then -i else i)) H
theorem cl_abs {n : Int} : Cl cAbs [pu (dI n)] (dI (if n < 0 then -n else n)) := fun G H L vs Q l r q => by
  cases r with
  | cons h t =>
    cases t; cases h
    exact ⟨n, rfl, q _ (Dq.int _)⟩
abbrev cMin2 : List V → Hp → VK → Prop := fun xs H Q => ∃ i j, xs = [.int i, .int j] ∧ Q (.int (if j < i then j else i)) H
abbrev cMax2 : List V → Hp → VK → Prop := fun xs H Q => ∃ i j, xs = [.int i, .int j] ∧ Q (.int (if j > i then j else i)) H
abbrev cInt : List V → Hp → VK → Prop := fun xs H Q => (∃ i, xs = [.int i] ∧ Q (.int i) H) ∨ ∃ k, xs = [.bl k] ∧ Q (.int (if k then 1 else 0)) H
theorem cl_int {n : Int} : Cl cInt [pu (dI n)] (dI n) := fun G H L vs Q l r q => by
  cases r with
  | cons h t =>
    cases t; cases h
    exact .inl ⟨n, rfl, q _ (Dq.int _)⟩
theorem cl_intB {b : Bool} : Cl cInt [pu (dB b)] (dI (if b then 1 else 0)) := fun G H L vs Q l r q => by
  cases r with
  | cons h t =>
    cases t; cases h
    exact .inr ⟨b, rfl, q _ (Dq.int _)⟩
theorem cl_sum {ns : List Int} : Cl (rSum K) [bL (ns.map PyData.int)] (dI ns.sum) := fun G H L vs Q l r q => by
  cases r with
  | cons h t =>
    cases t
    obtain ⟨a, ws, rfl, hv, d⟩ := bl_sq l h
    rw [dpAll_ints d] at hv
    exact ⟨a, ns, rfl, .inl (.inl hv), q _ (Dq.int _)⟩
theorem cl_any {bs : List Bool} : Cl (rAny K) [bL (bs.map PyData.bool)] (dB (bs.any id)) := fun G H L vs Q l r q => by
  cases r with
  | cons h t =>
    cases t
    obtain ⟨a, ws, rfl, hv, d⟩ := bl_sq l h
    rw [dpAll_bools d] at hv
    exact ⟨a, bs, rfl, .inl (.inl hv), q _ (Dq.bl _)⟩
theorem cl_all {bs : List Bool} : Cl (rAll K) [bL (bs.map PyData.bool)] (dB (bs.all id)) := fun G H L vs Q l r q => by
  cases r with
  | cons h t =>
    cases t
    obtain ⟨a, ws, rfl, hv, d⟩ := bl_sq l h
    rw [dpAll_bools d] at hv
    exact ⟨a, bs, rfl, .inl (.inl hv), q _ (Dq.bl _)⟩
theorem flat_ints : ∀ ns : List Int, (ns.map V.int).all flatV = true
  | [] => rfl
  | n :: ns => by
    rw [List.map_cons, List.all_cons, flat_ints ns]; rfl
theorem inV_ints (n : Int) : ∀ ns : List Int, inV (.int n) (ns.map V.int) = decide (n ∈ ns)
  | [] => rfl
  | m :: ns => by
    show ((m :: ns).map V.int).any _ = _
    rw [List.map_cons, List.any_cons]
    have ih := inV_ints n ns
    unfold inV at ih
    rw [ih]
    have e : eqV (V.int m) (V.int n) = decide (n = m) := by
      show (m == n) = decide (n = m)
      by_cases h : m = n
      · subst h; simp
      · have h' : ¬ n = m := fun z => h z.symm
        simp [h, h']
    rw [e]
    by_cases h : n = m
    · simp [h]
    · simp [h]
theorem o_inL {n : Int} {ns : List Int} : Op2 (rIn K false) (pu (dI n)) (bL (ns.map PyData.int)) (dB (decide (n ∈ ns))) := fun G H L x y Q l hx hy q => by
  cases hx
  obtain ⟨a, ws, rfl, hv, d⟩ := bl_sq l hy
  rw [dpAll_ints d] at hv
  refine ⟨_, _, rfl, .inl (.inl (.inl hv)), rfl, flat_ints ns, q _ ?_⟩
  show Dq G (.bl (inV _ _)) _
  rw [inV_ints]
  exact Dq.bl _
def isNone : PyData → Bool
  | .none => true
  | _ => false
theorem o_isN {d : PyData} : Op2 (fun x y H Q => y = .non ∧ Q (.bl (decide (x = .non))) H) (pu (dat d)) (pu (dat .none)) (dB (isNone d)) := fun G H L x y Q l hx hy q => by
  have hx : Dq G x d := hx
  cases hy
  refine ⟨rfl, q _ ?_⟩
  cases hx <;> exact Dq.bl _
theorem o_notN {d : PyData} : Op2 (fun x y H Q => y = .non ∧ Q (.bl (!decide (x = .non))) H) (pu (dat d)) (pu (dat .none)) (dB (!isNone d)) := fun G H L x y Q l hx hy q => by
  have hx : Dq G x d := hx
  cases hy
  refine ⟨rfl, q _ ?_⟩
  cases hx <;> exact Dq.bl _
end
end Z

set_option Elab.async false
set_option linter.all false
set_option maxRecDepth 100000
set_option maxHeartbeats 2000000
namespace Z
open PySem PySem.Spec PyProof.Rows L2
inductive Res where
  | ok (R : Rp) | own (O : Op) | err (C : Addr) (n : Int)
def ResP (Q : VK) (E : XK) (G : Hp) (L : List Cell) : Res → Prop
  | .ok R => ∀ G' H' v, Same G G' → Lay G' L H' → R.p G' v → Q v H'
  | .own O => ∀ G' H' a cs, Same G G' → Lay G' (cs ++ L) H' → O.p G' a cs → Q (.ref a) H'
  | .err C n => ∀ G' H' d, Same G G' → Lay G' L H' → H' d = none → E (.ref C) (some d) (upd H' d (atF n))
def SpA {α : Type} (pre : α → Prop) (A : α → List Bw) (R : α → Res) : Sp := fun vs H Q E => ∃ x G L, pre x ∧ Lay G L H ∧ AllB G L vs (A x) ∧ ResP Q E G L (R x)
theorem allB_len {G : Hp} {L : List Cell} : ∀ {vs : List V} {Bs : List Bw}, AllB G L vs Bs → vs.length = Bs.length
  | _, _, .nil => rfl
  | _, _, .cons _ t => by simp [allB_len t]
theorem SpA.len {α : Type} {pre : α → Prop} {A : α → List Bw} {R : α → Res} {n : Nat} (h : ∀ x, (A x).length = n) : ∀ vs H Q E, SpA pre A R vs H Q E → vs.length = n := fun vs H Q E ⟨x, G, L, _, _, a, _⟩ => by
  rw [allB_len a, h]
def st0 (Bs : List Bw) (k : Nat) : List Sl := Bs.map Sl.b ++ List.replicate k Sl.x
def Res.out (ρ : List Sl) : Res → Out
  | .ok R => .rt R
  | .own O => .ro O
  | .err C n => .xc ρ C n
theorem slots_x {G : Hp} {L0 : List Cell} : ∀ k, Slots G L0 (List.replicate k none) (List.replicate k Sl.x) []
  | 0 => .nil
  | k + 1 => .x (slots_x k)
theorem slots_start {G : Hp} {L0 : List Cell} (k : Nat) : ∀ {vs : List V} {Bs : List Bw}, AllB G L0 vs Bs → Slots G L0 (vs.map some ++ List.replicate k none) (st0 Bs k) []
  | _, _, .nil => slots_x k
  | _, _, .cons h t => .b h (slots_start k t)
abbrev WofE (E : XK) : WX := fun cls d _ H => E cls d H
theorem SpA.run {α : Type} {pre : α → Prop} {A : α → List Bw} {R : α → Res} {vs : List V} {H : Hp} {Q : VK} {E : XK} {t : TS} {N : List Str} {m : Nat} (h : SpA pre A R vs H Q E) (hm : ∀ x, (A x).length = m)
    (hx : ∀ x, pre x → ∃ ρ, Ex (WofE E) t (st0 (A x) (N.length - m)) ((R x).out ρ)) : t { nx := fun _ H' => Q .non H', rt := Q } (L2.start N vs) H := by
  obtain ⟨x, G, L, hp, la, a, r⟩ := h
  obtain ⟨ρ, ex⟩ := hx x hp
  have hl : vs.length = m := by rw [allB_len a, hm]
  have sl := slots_start (N.length - m) a
  refine ex.run _ (show Stt G _ (L2.start N vs) L H from ⟨[], by unfold L2.start; rw [hl]; exact sl, la⟩) ?_
  cases hR : R x with
  | ok R' =>
    rw [hR] at r
    intro G' ρ' σ' H' v e s rv
    obtain ⟨G2, e2, l2⟩ := s.fin
    exact r G2 H' v (e.trans e2) l2 (R'.up e2 rv)
  | own O =>
    rw [hR] at r
    intro G' H' a cs e l ro
    exact r G' H' a cs e l ro
  | err C n =>
    rw [hR] at r
    intro G' σ' H' d e s hd
    obtain ⟨G2, e2, l2⟩ := s.fin
    exact r G2 H' d (e.trans e2) l2 hd
theorem SpA.runN {α : Type} {pre : α → Prop} {A : α → List Bw} {R : α → Res} {vs : List V} {H : Hp} {Q : VK} {E : XK} {t : TS} {N : List Str} {m : Nat} (h : SpA pre A R vs H Q E) (hm : ∀ x, (A x).length = m)
    (hx : ∀ x, pre x → ∃ ρ, (R x = .ok (dat .none) ∧ Ex (WofE E) t (st0 (A x) (N.length - m)) (.nx ρ)) ∨ Ex (WofE E) t (st0 (A x) (N.length - m)) ((R x).out ρ)) : t { nx := fun _ H' => Q .non H', rt := Q } (L2.start N vs) H := by
  obtain ⟨x, G, L, hp, la, a, r⟩ := h
  obtain ⟨ρ, ex⟩ := hx x hp
  rcases ex with ⟨hr, ex⟩ | ex
  · have hl : vs.length = m := by rw [allB_len a, hm]
    have sl := slots_start (N.length - m) a
    refine ex.run _ (show Stt G _ (L2.start N vs) L H from ⟨[], by unfold L2.start; rw [hl]; exact sl, la⟩) fun G' σ' H' e s => ?_
    rw [hr] at r
    obtain ⟨G2, e2, l2⟩ := s.fin
    exact r G2 H' .non (e.trans e2) l2 Dq.non
  · exact SpA.run (pre := fun y => y = x) (A := A) (R := R) (m := m) ⟨x, G, L, rfl, la, a, r⟩ hm fun y hy => ⟨ρ, by rw [hy]; exact ex⟩
section
variable {K : PySem.W.Frag} {W : WX} {ρ ρ' ρ1 : List Sl} {te ta tb : TE} {t u : TS} {tr : TA} {R : Rp} {B : Bw} {o : Out} {i : Nat} {α : Type} {pre : α → Prop} {A : α → List Bw} {F : α → Res} {E : XK} {C : Addr} {n : Int}
theorem ev_call (x : α) (ha : EvA tr ρ (A x)) (hp : pre x) (hR : F x = .ok R) : Ev (tCall (SpA pre A F) [] E tr) ρ (pu R) := Ev.pure fun {G σ L0 H} Q s q => ha.at s fun G1 H1 vs L e1 sl la r => by
  refine ⟨x, G1, L ++ L0, hp, la, by rw [List.append_nil]; exact r, ?_⟩
  rw [hR]
  exact fun G2 H2 v e2 l2 rv => q G2 H2 v (e1.trans e2) ⟨L, sl.up e2, l2⟩ rv
theorem en_call {ds : List PyData} (x : α) (ha : EvA tr ρ (A x)) (hp : pre x) (hR : F x = .own (oL ds)) : EvN (tCall (SpA pre A F) [] E tr) ρ ds := ⟨fun {G σ L0 H} Q s q => ha.at s fun G1 H1 vs L e1 sl la r => by
  refine ⟨x, G1, L ++ L0, hp, la, by rw [List.append_nil]; exact r, ?_⟩
  rw [hR]
  intro G2 H2 a cs e2 l2 ro
  obtain ⟨ws, hcs, d⟩ := ro
  subst hcs
  have hne := l2.ne
  have eH : H2 = upd (fun b => if b = a then none else H2 b) a (.lst ws) := by
    funext b
    by_cases hb : b = a
    · rw [hb, upd_same]; exact (l2.on _ (List.mem_cons_self ..)).1
    · rw [upd_ne hb, if_neg hb]
  have l3 : Lay G2 (L ++ L0) (fun b => if b = a then none else H2 b) := by
    refine ⟨fun b hb => ?_, fun c hc => ?_, ?_⟩
    · by_cases h : b = a
      · rw [h, if_pos rfl]; exact ((l2.on _ (List.mem_cons_self ..)).2).symm
      · rw [if_neg h]
        refine l2.off b fun c hc => ?_
        rcases List.mem_cons.mp hc with z | z
        · subst z; exact fun z => h z.symm
        · exact hb c z
    · rw [if_neg (hne c hc)]; exact l2.on c (List.mem_cons_of_mem _ hc)
    · have := l2.nd
      rw [List.singleton_append, List.map_cons, List.nodup_cons] at this
      exact this.2
  rw [eH]
  exact q G2 _ a ws (e1.trans e2) ⟨L, sl.up e2, l3⟩ (if_pos rfl) d⟩
structure EvX (W : WX) (te : TE) (ρ : List Sl) (C : Addr) (n : Int) : Prop where
  run : ∀ {G : Hp} {σ : L2.St} {L0 : List Cell} {H : Hp} (Q : VK), Stt G ρ σ L0 H → (∀ G' H' d, Same G G' → Stt G' ρ σ L0 H' → H' d = none → W (.ref C) (some d) σ (upd H' d (atF n))) → te σ H Q
theorem ex_call (x : α) (ha : EvA tr ρ (A x)) (hp : pre x) (hR : F x = .err C n) : EvX (WofE E) (tCall (SpA pre A F) [] E tr) ρ C n := ⟨fun {G σ L0 H} Q s q => ha.at s fun G1 H1 vs L e1 sl la r => by
  refine ⟨x, G1, L ++ L0, hp, la, by rw [List.append_nil]; exact r, ?_⟩
  rw [hR]
  exact fun G2 H2 d e2 l2 hd => q G2 H2 d (e1.trans e2) ⟨L, sl.up e2, l2⟩ hd⟩
theorem ev_callS {E : L2.St → XK} (x : α) (ha : EvA tr ρ (A x)) (hp : pre x) (hR : F x = .ok R) : Ev (tCallS (SpA pre A F) E tr) ρ (pu R) := Ev.pure fun {G σ L0 H} Q s q => ha.at s fun G1 H1 vs L e1 sl la r => by
  refine ⟨x, G1, L ++ L0, hp, la, r, ?_⟩
  rw [hR]
  exact fun G2 H2 v e2 l2 rv => q G2 H2 v (e1.trans e2) ⟨L, sl.up e2, l2⟩ rv
theorem ex_callS (x : α) (ha : EvA tr ρ (A x)) (hp : pre x) (hR : F x = .err C n) : EvX W (tCallS (SpA pre A F) (WE W) tr) ρ C n := ⟨fun {G σ L0 H} Q s q => ha.at s fun G1 H1 vs L e1 sl la r => by
  refine ⟨x, G1, L ++ L0, hp, la, r, ?_⟩
  rw [hR]
  exact fun G2 H2 d e2 l2 hd => q G2 H2 d (e1.trans e2) ⟨L, sl.up e2, l2⟩ hd⟩
theorem Ex.dropX (h : EvX W te ρ C n) : Ex W (tDrop te) ρ (.xc ρ C n) := ⟨fun D s q => h.run _ s fun G' H' d e s' hd => q G' _ H' d e s' hd⟩
theorem Ex.asgX {g : TG} (h : EvX W te ρ C n) : Ex W (tAsg te g) ρ (.xc ρ C n) := ⟨fun D s q => h.run _ s fun G' H' d e s' hd => q G' _ H' d e s' hd⟩
theorem Ex.retX (h : EvX W te ρ C n) : Ex W (tRet te) ρ (.xc ρ C n) := ⟨fun D s q => h.run _ s fun G' H' d e s' hd => q G' _ H' d e s' hd⟩
def spAt (K : PySem.W.Frag) : Sp := fun vs H Q _ => ∃ (a C : Addr) (n : Int), vs = [.ref a, .int n] ∧ OexC K C ∧ PySem.W.findIn K (.ref C) "at" = some none ∧ H a = some (exo a C none) ∧
  ∀ dx, H dx = none → dx ≠ a → Q .non (upd (upd H dx (exd dx [(("at" : Str), V.int n)])) a (exo a C (some dx)))
theorem pure_at (vs : List V) (H : Hp) (Q : VK) (E : XK) (h : spAt K vs H Q E) : tOst K "at" (tVar 0) (tVar 1) { nx := fun _ H' => Q .non H', rt := Q } (L2.start ["self", "at"] vs) H := by
  obtain ⟨a, C, n, rfl, hC, hn, ha, q⟩ := h
  exact ⟨_, rfl, _, rfl, a, C, rfl, hC, hn, .inl ⟨ha, fun dx hd hne => q dx hd hne⟩⟩
theorem Ex.raise_ {tr : TA} (ha : EvA tr ρ [pu (dI n)]) (hC : OexC K C) (hn : PySem.W.findIn K (.ref C) "at" = some none) : Ex W (fun _ σ H => tMkO C (spAt K) [] tr σ H fun cls d H' => W cls d σ H') ρ (.xc ρ C n) := ⟨fun {G σ L0 H} D s q => ha.at s fun G1 H1 vs L e1 sl la r => by
  cases r with
  | cons h1 h2 =>
    cases h2; cases h1
    refine ⟨(by show 1 ≤ 1000; decide), fun a hA => ⟨a, C, n, rfl, hC, hn, upd_same, fun dx hd hne => ⟨rfl, dx, [(("at" : Str), V.int n)], upd_same, ?_, ?_, ?_⟩⟩⟩
    · rw [upd_ne hne, upd_same]
    · rw [upd_ne hne] at hd
      exact hd
    · rw [upd_ne hne] at hd
      have e : upd (del (upd (upd (upd H1 a (exo a C none)) dx (exd dx [(("at" : Str), V.int n)])) a (exo a C (some dx))) a) dx (.xd [(("at" : Str), V.int n)]) = upd H1 dx (atF n) := by
        funext b
        by_cases hb : b = dx
        · rw [hb, upd_same, upd_same]; rfl
        · rw [upd_ne hb, upd_ne hb]
          by_cases hba : b = a
          · rw [hba, del_same]; exact hA.symm
          · rw [del_ne hba, upd_ne hba, upd_ne hb, upd_ne hba]
      rw [e]
      exact q G1 σ H1 dx e1 ⟨L, sl, la⟩ hd⟩
def errR (a d : Addr) (n : Int) : Rp := ⟨fun G v => v = .ref a ∧ G d = some (atF n), fun e h => ⟨h.1, e _ _ h.2⟩⟩
def noSlot (i : Nat) : Out → Out
  | .nx ρ => .nx (ρ.set i .x)
  | .bk ρ => .bk (ρ.set i .x)
  | .ct ρ => .ct (ρ.set i .x)
  | .go ρ => .go (ρ.set i .x)
  | o => o
theorem Stt.set_none {G H : Hp} {σ : L2.St} {L0 : List Cell} (s : Stt G ρ σ L0 H) (i : Nat) : ∃ G', Same G G' ∧ Stt G' (ρ.set i .x) (σ.set i none) L0 H := by
  have w : Wk ρ (ρ.set i .x) := by
    have : ∀ (ρ : List Sl) (i : Nat), Wk ρ (ρ.set i .x) := by
      intro ρ
      induction ρ with
      | nil => intro i; exact .nil
      | cons s ρ ih =>
        intro i
        cases i with
        | zero => exact .x (Wk.refl ρ)
        | succ i => exact .k (ih i)
    exact this ρ i
  obtain ⟨G', e, L, sl, la⟩ := s.weak w
  refine ⟨G', e, L, sl.agree (by simp) fun j hj => ?_, la⟩
  by_cases h : i = j
  · subst h
    by_cases hl : i < ρ.length
    · exact absurd (by simp [hl]) hj
    · have hlen : σ.length = ρ.length := s.len
      rw [List.getElem?_eq_none (by simp; omega), List.getElem?_eq_none (by omega)]
  · rw [List.getElem?_set_ne h]
end
end Z

set_option Elab.async false
set_option linter.all false
set_option maxRecDepth 100000
set_option maxHeartbeats 2000000
namespace Z
open PySem PySem.Spec PyProof.Rows L2
section
variable {K : PySem.W.Frag} {W : WX} {ρ ρ' ρ1 : List Sl} {te ta tb : TE} {t u : TS} {tr : TA} {R : Rp} {B : Bw} {o : Out} {i : Nat} {α : Type} {pre : α → Prop} {A : α → List Bw} {F : α → Res} {E : XK} {C : Addr} {n : Int}
def Out.quiet : Out → Bool
  | .xc _ _ _ => false
  | _ => true
theorem Post.anyW {W W' : WX} {D : Ends} {G : Hp} {L0 : List Cell} {o : Out} (h : o.quiet = true) (q : Post W D G L0 o) : Post W' D G L0 o := by
  cases o with
  | xc _ _ _ => cases h
  | nx _ => exact q
  | bk _ => exact q
  | ct _ => exact q
  | go _ => exact q
  | rt _ => exact q
  | rw _ _ => exact q
  | ro _ => exact q
theorem Post.slot {D : Ends} {G : Hp} {L0 : List Cell} (q : Post W D G L0 (noSlot i o)) : Post W { nx := fun σ' H' => D.nx (σ'.set i none) H', rt := D.rt, bk := fun σ' H' => D.bk (σ'.set i none) H', ct := fun σ' H' => D.ct (σ'.set i none) H' } G L0 o := by
  have key : ∀ {N : L2.St → Hp → Prop} {ρ : List Sl}, Nx N G L0 (ρ.set i .x) → Nx (fun σ' H' => N (σ'.set i none) H') G L0 ρ := fun {N ρ} k G' σ' H' e s => by
    obtain ⟨G2, e2, s2⟩ := s.set_none i
    exact k G2 _ H' (e.trans e2) s2
  cases o with
  | xc _ _ _ => exact q
  | nx _ => exact key q
  | bk _ => exact key q
  | ct _ => exact key q
  | go _ => exact ⟨key q.1, key q.2⟩
  | rt _ => exact q
  | rw _ _ => exact q
  | ro _ => exact q
def rIsX (K : PySem.W.Frag) (a : Addr) (cls : Value) (d : Option Addr) : List V → Hp → VK → Prop := fun xs H Q => ∃ (C dd : Addr) (fs : List (Str × V)) (D : Addr) (b : Bool), cls = .ref C ∧ d = some dd ∧ ExcC K C ∧ H dd = some (.xd fs) ∧ xs = [.ref a, .ref D] ∧
  PySem.W.kitOne K (.ref C) (.ref D) = some b ∧ Q (.bl b) H
theorem call_isX {X : Cx} {a : Addr} {oe : Obj} {cls : Value} {d : Option Addr} {pn : List (Addr × Obj)} (hz : Zc cls d oe) (hf : ∃ vs, oe.data = .fields vs) : CallR (X.suite a ((a, oe) :: pn)) (.builtin "isinstance") (rIsX X.K a cls d) := by
  intro pins s σ H xs us Q inv r h
  obtain ⟨C, dd, fs, D, b, rfl, rfl, hC, hdd, rfl, hk, q⟩ := h
  cases r with
  | cons r1 r2 =>
    cases r2 with
    | cons r2 r3 =>
      cases r3; cases r1; cases r2
      have ho := (inv.pin (a, oe) (List.mem_append_left _ (List.mem_cons_self ..))).1
      obtain ⟨vs, hv⟩ := hf
      obtain ⟨mA, hns, _⟩ := (show ObjOk X.prog X.w H s.heap dd (.xd fs) from inv.hok dd _ hdd)
      obtain ⟨od, hod, _⟩ := lookIn_ns hns
      have inst : PySem.W.InstAt s.heap a oe C (some od) := ⟨ho, hz.1, by unfold PySem.W.notCls; rw [hv] <;> rfl, by rw [hz.2]; exact hod⟩
      have hcl : (PySem.W.clsIn X.K C).isSome = true := by
        have z := hC.hd
        unfold PySem.W.hasDictIn at z
        cases e : PySem.W.clsIn X.K C with
        | none => rw [e] at z; cases z
        | some _ => rfl
      exact PySem.W.kia_one (PySem.W.kitx_exc hcl hC.hg hC.hk hC.hs hC.ha hC.hn hC.ht hC.hm) inv.kIn inst hk (fun z => nomatch z) fun tk => ⟨.bl b, H, inv.kept (t' := tk) fun _ _ z => z, rfl, q⟩
def tXg (K : PySem.W.Frag) (a : Addr) (cls : Value) (d : Option Addr) (f : Str) (i : Nat) : TE := fun σ H Q => ∃ (C dd : Addr) (fs : List (Str × V)) (v : V), σ[i]? = some (some (.ref a)) ∧ cls = .ref C ∧ d = some dd ∧ XfC K C ∧
  PySem.W.findIn K (.ref C) f = some none ∧ H dd = some (.xd fs) ∧ fs.lookup f = some v ∧ Q v H
theorem pe_xg {X : Cx} {a : Addr} {oe : Obj} {cls : Value} {d : Option Addr} {pn : List (Addr × Obj)} {x n : Str} {i : Nat} {pos pos' : Pos} (hz : Zc cls d oe) (hf : ∃ vs, oe.data = .fields vs) (he : PE (X.suite a ((a, oe) :: pn)) (.Name x pos') (tVar i))
    (hb : attributeBase (.Name x pos') n X.env (eval (.Name x pos') X.env) = eval (.Name x pos') X.env := by rfl) : PE (X.suite a ((a, oe) :: pn)) (.Attribute (.Name x pos') n pos) (tXg X.K a cls d n i) := by
  refine ⟨fun pins s σ H Q inv h => ?_⟩
  obtain ⟨C, dd, fs, v, hs, rfl, rfl, hC, hno, hdd, hl, q⟩ := h
  exact (pe_xf (C := C) (n := n) hC hno hz hf he hb).run pins s σ H Q inv ⟨_, hs, rfl, rfl, dd, fs, v, rfl, hdd, hl, q⟩
theorem ev_at {a d : Addr} (hi : ρ[i]? = some (.p (errR a d n))) (hC : XfC K C) (hn : PySem.W.findIn K (.ref C) "at" = some none) : Ev (tXg K a (.ref C) (some d) "at" i) ρ (pu (dI n)) := Ev.pure fun {G σ L0 H} Q s q => by
  obtain ⟨v, e, rfl, hd⟩ := s.get_p hi
  refine ⟨C, d, _, .int n, e, rfl, rfl, hC, hn, s.same _ _ hd, by rfl, q _ _ _ (Same.refl _) s (Dq.int n)⟩
theorem ev_isX {a d : Addr} {D : Addr} {b : Bool} (hi : ρ[i]? = some (.p (errR a d n))) (hC : ExcC K C) (hk : PySem.W.kitOne K (.ref C) (.ref D) = some b) : Ev (tCB (rIsX K a (.ref C) (some d)) (tCons (tVar i) (tCons (tC (.ref D)) tNil))) ρ (pu (dB b)) := Ev.pure fun {G σ L0 H} Q s q => by
  obtain ⟨v, e, rfl, hd⟩ := s.get_p hi
  exact ⟨_, e, C, d, _, D, b, rfl, rfl, hC, s.same _ _ hd, rfl, hk, q _ _ _ (Same.refl _) s (Dq.bl b)⟩
inductive Flds (G : Hp) : List (Str × V) → List (Str × Rp) → Prop
  | nil : Flds G [] []
  | cons {f : Str} {v : V} {R : Rp} {fv fs} : R.p G v → Flds G fv fs → Flds G ((f, v) :: fv) ((f, R) :: fs)
theorem Flds.up {G G' : Hp} (e : Same G G') : ∀ {fv fs}, Flds G fv fs → Flds G' fv fs
  | _, _, .nil => .nil
  | _, _, .cons h t => .cons (Rp.up _ e h) (t.up e)
theorem Flds.get {G : Hp} {f : Str} {R : Rp} : ∀ {fv fs}, Flds G fv fs → fs.lookup f = some R → ∃ v, fv.lookup f = some v ∧ R.p G v
  | _, _, .nil, h => by cases h
  | _, _, .cons (f := g) (v := v) (R := R') (fs := fs) q t, h => by
    unfold List.lookup at h ⊢
    cases e : f == g with
    | true =>
      rw [e] at h
      cases h
      exact ⟨v, rfl, q⟩
    | false =>
      rw [e] at h
      exact t.get h
theorem Flds.no {G : Hp} {f : Str} : ∀ {fv fs}, Flds G fv fs → fs.lookup f = none → fv.lookup f = none
  | _, _, .nil, _ => rfl
  | _, _, .cons (f := g) (fs := fs) q t, h => by
    unfold List.lookup at h ⊢
    cases e : f == g with
    | true => rw [e] at h; cases h
    | false =>
      rw [e] at h
      exact t.no h
def insR (C : Addr) (fs : List (Str × Rp)) : Rp := ⟨fun G v => ∃ a dx fv, v = .ref a ∧ G a = some (.ins C dx fv) ∧ Flds G fv fs, fun e h => by
  obtain ⟨a, dx, fv, h1, h2, h3⟩ := h
  exact ⟨a, dx, fv, h1, e _ _ h2, h3.up e⟩⟩
def oI (C a : Addr) (fs : List (Str × Rp)) : Op := ⟨fun G b cs => ∃ dx fv, b = a ∧ cs = [(a, HO.ins C dx fv)] ∧ Flds G fv fs, fun e h => by
  obtain ⟨dx, fv, h0, h1, h3⟩ := h
  exact ⟨dx, fv, h0, h1, h3.up e⟩⟩
theorem ev_fld {f : Str} {fs : List (Str × Rp)} (h : Ev te ρ (pu (insR C fs))) (hf : fs.lookup f = some R) (c : Cls K C) (hn : NoAttr K C f) : Ev (tFld K te f) ρ (pu R) := Ev.pure fun {G σ L0 H} Q s q => h.atp s fun G1 H1 v e1 s1 r => by
  obtain ⟨a, dx, fv, rfl, ha, hfl⟩ := r
  obtain ⟨w, hw, rw⟩ := hfl.get hf
  exact ⟨a, C, dx, fv, w, rfl, s1.same _ _ ha, c, hn, hw, q G1 H1 w e1 s1 rw⟩
theorem putF_new {f : Str} {v : V} : ∀ {fv : List (Str × V)}, fv.lookup f = none → putF f v fv = fv ++ [(f, v)]
  | [], _ => rfl
  | (g, w) :: fv, h => by
    unfold List.lookup at h
    cases e : f == g with
    | true => rw [e] at h; cases h
    | false =>
      rw [e] at h
      have hne : ¬ g = f := fun z => by rw [z] at e; simp at e
      show (if g = f then _ else _) = _
      rw [if_neg hne, putF_new h]
      rfl
theorem flds_app {G : Hp} {f : Str} {v : V} {R : Rp} (r : R.p G v) : ∀ {fv fs}, Flds G fv fs → Flds G (fv ++ [(f, v)]) (fs ++ [(f, R)])
  | _, _, .nil => .cons r .nil
  | _, _, .cons q t => .cons q (flds_app r t)
theorem flds_len {G : Hp} : ∀ {fv fs}, Flds G fv fs → fv.length = fs.length
  | _, _, .nil => rfl
  | _, _, .cons _ t => by simp [flds_len t]
theorem Ex.setfld {a : Addr} {f : Str} {fs : List (Str × Rp)} (hi : ρ[i]? = some (.o (oI C a fs))) (he : Ev te ρ (pu R)) (hf : fs.lookup f = none) (hz : fs.length < 1000) (c : Cls K C) (hn : NoAttr K C f) : Ex W (sFld K (tVar i) te f) ρ (.nx (ρ.set i (.o (oI C a (fs ++ [(f, R)]))))) := ⟨fun {G σ L0 H} D s q => he.atp s fun G1 H1 v e1 s1 r => by
  obtain ⟨a', cs, e, ⟨dx, fv, ha, hcs, hfl⟩, hh, k1, _⟩ := s1.get_o hi
  subst hcs ha
  refine ⟨_, e, _, C, dx, fv, rfl, hh _ (List.mem_cons_self ..), c, hn, by rw [flds_len hfl]; exact hz, ?_⟩
  rw [putF_new (hfl.no hf)]
  exact q G1 _ _ e1 (k1 (oI C _ (fs ++ [(f, R)])) [(_, .ins C dx (fv ++ [(f, v)]))] _ ⟨dx, _, rfl, rfl, flds_app r hfl⟩ fun M l => l.store)⟩
end
inductive IRes where
  | ok (fs : List (Str × Rp)) | err (C : Addr) (n : Int)
def SpI {α : Type} (C : Addr) (pre : α → Prop) (A : α → List Bw) (F : α → IRes) : Sp := fun vs H Q E => ∃ x G L a dx ws, pre x ∧ vs = V.ref a :: ws ∧ Lay G ((a, HO.ins C dx []) :: L) H ∧ AllB G L ws (A x) ∧
  match F x with
  | .ok fs => ∀ G' H' dx fv, Same G G' → Lay G' ((a, HO.ins C dx fv) :: L) H' → Flds G' fv fs → Q .non H'
  | .err D n => ∀ G' H' d, Same G G' → Lay G' L H' → H' d = none → E (.ref D) (some d) (upd H' d (atF n))
section
variable {K : PySem.W.Frag} {W : WX} {ρ ρ' ρ1 : List Sl} {te ta tb : TE} {t u : TS} {tr : TA} {R : Rp} {B : Bw} {o : Out} {i : Nat} {α : Type} {pre : α → Prop} {A : α → List Bw} {F : α → IRes} {E : XK} {C D : Addr} {n : Int}
theorem SpI.len {m : Nat} (h : ∀ x, (A x).length = m) : ∀ vs H Q E, SpI C pre A F vs H Q E → vs.length = m + 1 := fun vs H Q E ⟨x, G, L, a, dx, ws, _, e, _, al, _⟩ => by
  rw [e, List.length_cons, allB_len al, h]
def stI (C a : Addr) (Bs : List Bw) (k : Nat) : List Sl := .o (oI C a []) :: (Bs.map Sl.b ++ List.replicate k Sl.x)
theorem SpI.run {vs : List V} {H : Hp} {Q : VK} {t : TS} {N : List Str} {m : Nat} (h : SpI C pre A F vs H Q E) (hm : ∀ x, (A x).length = m)
    (hx : ∀ x a, pre x → (∃ fs ρ, F x = .ok fs ∧ ρ[0]? = some (.o (oI C a fs)) ∧ Ex (WofE E) t (stI C a (A x) (N.length - (m + 1))) (.nx ρ)) ∨
      ∃ D n ρ, F x = .err D n ∧ Ex (WofE E) t (stI C a (A x) (N.length - (m + 1))) (.xc ρ D n)) : t { nx := fun _ H' => Q .non H', rt := Q } (L2.start N vs) H := by
  obtain ⟨x, G, L, a, dx, ws, hp, rfl, la, al, r⟩ := h
  have hl : ws.length = m := by rw [allB_len al, hm]
  have sl : Slots G L (L2.start N (V.ref a :: ws)) (stI C a (A x) (N.length - (m + 1))) [(a, HO.ins C dx [])] := by
    unfold L2.start
    rw [List.length_cons, hl]
    exact .o (O := oI C a []) (cs := [(a, HO.ins C dx [])]) ⟨dx, [], rfl, rfl, .nil⟩ (slots_start _ al)
  have st : Stt G (stI C a (A x) (N.length - (m + 1))) (L2.start N (V.ref a :: ws)) L H := ⟨_, sl, la⟩
  rcases hx x a hp with ⟨fs, ρ, hF, h0, ex⟩ | ⟨D, n, ρ, hF, ex⟩
  · rw [hF] at r
    refine ex.run _ st fun G' σ' H' e s => ?_
    obtain ⟨L', sl', la'⟩ := id s
    obtain ⟨a', cs, M, e1, ⟨dx', fv, ha, hcs, hfl⟩, pm, _⟩ := sl'.get_o h0
    subst ha hcs
    have l2 : Lay G' (M ++ ([(_, HO.ins C dx' fv)] ++ L)) H' := la'.perm (by
      refine (pm.append_right L).trans ?_
      rw [List.append_assoc]
      exact perm_swap _ _ _)
    obtain ⟨G2, e2, l3, _⟩ := l2.freezeAll
    exact r G2 H' dx' fv (e.trans e2) l3 (hfl.up e2)
  · rw [hF] at r
    refine ex.run _ st fun G' σ' H' d e s hd => ?_
    obtain ⟨G2, e2, l2⟩ := s.fin
    exact r G2 H' d (e.trans e2) l2 hd
theorem ev_make {fs : List (Str × Rp)} (x : α) (ha : EvA tr ρ (A x)) (hp : pre x) (hF : F x = .ok fs) : Ev (tMake C (SpI C pre A F) [] E tr) ρ (pu (insR C fs)) := Ev.pure fun {G σ L0 H} Q s q => ha.at s fun G1 H1 vs L e1 sl la r => fun y dx hy hd hne => by
  have g := same_upd (o := .own y) (la.freshG hd)
  have l1 : Lay (upd G1 dx (.own y)) (L ++ L0) (upd H1 dx (.own y)) := la.grow hd
  have hy1 : upd H1 dx (.own y) y = none := by rw [upd_ne (fun z => hne z.symm)]; exact hy
  have ab : ∀ {vs : List V} {Bs : List Bw}, AllB G1 (L ++ L0) vs Bs → AllB (upd G1 dx (.own y)) (L ++ L0) vs Bs := fun {vs Bs} h => by
    induction h with
    | nil => exact .nil
    | cons h _ ih => exact .cons (Bw.up _ g (fun _ z => z) h) ih
  refine ⟨x, upd G1 dx (.own y), L ++ L0, y, dx, vs, hp, by rw [List.append_nil], l1.cell hy1, ab r, ?_⟩
  rw [hF]
  refine fun G' H' dx' fv e2 l2 hfl => ⟨rfl, ?_⟩
  have hG : G' y = none := (l2.on _ (List.mem_cons_self ..)).2
  have e3 := same_upd (o := HO.ins C dx' fv) hG
  exact q _ H' (.ref y) ((e1.trans (g.trans e2)).trans e3) ⟨L, sl.up ((g.trans e2).trans e3), l2.freeze⟩ ⟨y, dx', fv, rfl, upd_same, hfl.up e3⟩
theorem ex_make (x : α) (ha : EvA tr ρ (A x)) (hp : pre x) (hF : F x = .err D n) : EvX (WofE E) (tMake C (SpI C pre A F) [] E tr) ρ D n := ⟨fun {G σ L0 H} Q s q => ha.at s fun G1 H1 vs L e1 sl la r => fun y dx hy hd hne => by
  have g := same_upd (o := .own y) (la.freshG hd)
  have l1 : Lay (upd G1 dx (.own y)) (L ++ L0) (upd H1 dx (.own y)) := la.grow hd
  have hy1 : upd H1 dx (.own y) y = none := by rw [upd_ne (fun z => hne z.symm)]; exact hy
  have ab : ∀ {vs : List V} {Bs : List Bw}, AllB G1 (L ++ L0) vs Bs → AllB (upd G1 dx (.own y)) (L ++ L0) vs Bs := fun {vs Bs} h => by
    induction h with
    | nil => exact .nil
    | cons h _ ih => exact .cons (Bw.up _ g (fun _ z => z) h) ih
  refine ⟨x, upd G1 dx (.own y), L ++ L0, y, dx, vs, hp, by rw [List.append_nil], l1.cell hy1, ab r, ?_⟩
  rw [hF]
  exact fun G' H' d e2 l2 hd' => q G' H' d (e1.trans (g.trans e2)) ⟨L, sl.up (g.trans e2), l2⟩ hd'⟩
end
end Z

set_option Elab.async false
set_option linter.all false
set_option maxRecDepth 100000
set_option maxHeartbeats 2000000
namespace Z
open PySem PySem.Spec PyProof.Rows L2
theorem pass_no {X : Cx} : Passes (L2.CX X.prog X.w) X (fun _ _ _ => False) := fun pins σ H s e s' inv c => by
  obtain ⟨a, B, H', cls, d, _, _, _, _, _, _, _, z⟩ := c
  exact z.elim
section
variable {X : Cx} {CX : CXT} {k : Nat} {f C : Addr} {fd : FuncData} {ps : List Str} {sp : Sp} {E : L2.St → XK} {x m : Str} {p pos apos : Pos} {e o : Expr} {es : List Expr} {ta : TE} {t : TA}
def tMakeS (C : Addr) (sp : Sp) (E : L2.St → XK) (t : TA) : TE := fun σ H Q => t σ H fun vs H1 => ∀ y dy, H1 y = none → H1 dy = none → dy ≠ y → sp (.ref y :: vs) (upd (upd H1 dy (.own y)) y (.ins C dy [])) (fun v H2 => v = .non ∧ Q (.ref y) H2) (E σ)
def tMethSx (C : Addr) (m : Str) (sp : Sp) (E : L2.St → XK) (ta : TE) (t : TA) : TE := fun σ H Q => ta σ H fun x H1 => ∃ a dx fs, x = .ref a ∧ H1 a = some (.ins C dx fs) ∧ fs.lookup m = none ∧ t σ H1 fun vs H2 => sp (x :: vs) H2 Q (E σ)
abbrev cRepr : List V → Hp → VK → Prop := fun xs H Q => ∃ a d, xs = [.ref a] ∧ Dq H (.ref a) d ∧ d.showable = true ∧ d.hasDict = false ∧ d.depth ≤ 60 ∧ d.shown.length ≤ sizeLine ∧ Q (.str d.shown) H
theorem call_repr (hgd : X.A.guards = some []) (hu : X.A.units + 70 < cLine) : CallR X (.builtin "repr") cRepr := by
  intro pins s σ H xs us Q inv r h
  obtain ⟨a, d, rfl, hd, h1, h2, h3, h4, q⟩ := h
  cases r with
  | cons r1 r2 =>
    cases r2; cases r1
    obtain ⟨as, rd⟩ := L2.Dp.reads inv d _ _ (dq_dp (K := X.K) hd) rfl
    refine repr_of_reads' rd h1 (fun z => by rw [h2] at z; cases z) hgd (by omega) (fun _ _ e => e) (fun h' u tk hk => ?_) h4
    exact ⟨.str d.shown, H, inv.kept (t' := tk) hk, ⟨u, rfl⟩, q⟩
end
def RunAt (P : Program) (w : World) (K : PySem.W.Frag) (mg : Str → Option Value) (base : Heap) (CX : CXT) (k : Nat) (f : Addr) (fd : FuncData) (ps : List Str) (sp : Sp) : Prop :=
  ∀ (s : Shared) (H : Hp) (args : Args) (us : List Value) (vs : List V) (Q : VK) (E : XK), Room k callerA → Env0 P w K mg base callerA [] s H → BindsTo s fd args (ps.zip us) → Vals vs us → sp vs H Q E →
    codeAny (model P w) callerA (.call (.ref f) args) (CR CX [] P w H s Q E) s
def scriptH (K : PySem.W.Frag) (a : Addr) (o : Obj) (xs : List V) : Hp := fun b => if b = a ∧ K.lookup a = none then some (.frz o (.lst xs)) else none
theorem run_law {P : Program} {w : World} {K : PySem.W.Frag} {mg mb : Str → Option Value} {CX : CXT} {k : Nat} {f a : Addr} {fd : FuncData} {x : Str} {sp : Sp} {s : Shared} {us : List Value} {ns : List Int}
    (kin : K.In s.heap) (glob : s.heap.Ns mainGlobals mg) (blt : s.heap.Ns builtinsNs mb) (bltIs : ∀ x : Str, x ≠ "__name__" → mb x = bootBuiltins x) (lim : s.heap.NoLimit) (gens : s.gens = #[])
    (there : s.heap.get? a = some { cls := .type "list", data := .seq us.toArray }) (isInts : IntsAre us ns) (small : ns.length ≤ sizeLine) (hr : Room k callerA)
    (F : ∀ base : Heap, K.In base → base.Ns mainGlobals mg → RunAt P w K mg base CX k f fd [x] sp) (binds : ∀ (s : Shared) (u : Value), BindsTo s fd ⟨[u], []⟩ [(x, u)])
    (hsp : ∀ H : Hp, SqL K H a (ns.map V.int) → sp [.ref a] H (fun v _ => v = .bl true) fun _ _ _ => False) (hCX : ∀ H e s', CX [] H s (fun _ _ _ => False) e s' → False) :
    codeAny (model P w) callerA (.call (.ref f) ⟨[.ref a], []⟩) (fun r s' => r = .ok (.ret (.bool true)) ∧ OldK s.heap s'.heap ∧ s'.os = s.os ∧ AllBare s'.gens) s := by
  have rel : Vals (ns.map V.int) us := vals_ints isInts
  have lenU : us.length = ns.length := isInts.length
  let o : Obj := { cls := .type "list", data := .seq us.toArray }
  let H := scriptH K a o (ns.map V.int)
  have Hat : ∀ b u, H b = some u → b = a ∧ K.lookup a = none ∧ u = .frz o (.lst (ns.map V.int)) := fun b u e => by
    have e : (if b = a ∧ K.lookup a = none then some (HO.frz o (.lst (ns.map V.int))) else none) = some u := e
    by_cases h : b = a ∧ K.lookup a = none
    · rw [if_pos h] at e
      exact ⟨h.1, h.2, (Option.some.inj e).symm⟩
    · rw [if_neg h] at e
      cases e
  have sq : SqL K H a (ns.map V.int) := by
    cases e : K.lookup a with
    | none => exact .inl (.inr ⟨o, if_pos ⟨rfl, e⟩⟩)
    | some q =>
      have z := kin a q e
      rw [there] at z
      cases z
      exact .inr ⟨_, us.toArray, _, e, rfl, rfl, rfl, by rw [List.size_toArray, lenU]; exact small, by simpa using rel⟩
  have hok : HOk P w H s.heap := fun b u e => by
    obtain ⟨rfl, _, rfl⟩ := Hat b u e
    exact ⟨there, by rw [List.length_map]; exact small, us, _, rel, there⟩
  have away : ∀ {b : Addr} {q : Obj}, K.lookup b = some q → H b = none := fun {b q} e => by
    cases z : H b with
    | none => rfl
    | some u =>
      obtain ⟨rfl, h, _⟩ := Hat b u z
      rw [h] at e
      cases e
  have dict : ∀ {b : Addr} {m : Str → Option Value}, s.heap.Ns b m → (hidT s.heap H).Ns b m := fun {b m} ⟨q, es, ep, e, d, r⟩ => by
    refine ⟨q, es, ep, hidT_get e ?_, d, r⟩
    cases z : H b with
    | none => rfl
    | some u =>
      obtain ⟨rfl, _, _⟩ := Hat b u z
      rw [there] at e
      cases e
      have d : Data.seq us.toArray _ = Data.dict es ep := d
      cases d
  have kinB : K.In (hidT s.heap H) := fun b q e => hidT_get (kin b q e) (away e)
  obtain ⟨mc, c1, c2⟩ := lim
  have env : Env0 P w K mg (hidT s.heap H) callerA [] s H :=
    { frames := rfl, mod := ⟨kinB, dict glob, ⟨mb, dict blt, bltIs⟩, ⟨mc, dict c1, c2⟩⟩, bs := fun b q e => of_hidT e, bsz := Nat.le_of_eq (hidT_size _ _), funs := trivial, frf := fun b hb => (by cases (show b ∈ ([] : List Addr) from hb)), hok := hok, bare := .of_eq gens }
  refine codeAny_mono (F _ kinB (dict glob) s H ⟨[.ref a], []⟩ [.ref a] [.ref a] _ _ hr env (binds s (.ref a)) (.cons rfl .nil) (hsp H sq)) fun r s' h => ?_
  match r, h with
  | .error e, h => exact (hCX H e s' h).elim
  | .ok .next, h => exact h.elim
  | .ok .brk, h => exact h.elim
  | .ok .cont, h => exact h.elim
  | .ok (.ret u), h =>
    obtain ⟨v, H', os, bare, un, hok', rv, q⟩ := h
    have q : v = .bl true := q
    subst q
    cases rv
    refine ⟨rfl, OldK.of_keep fun b q e => ?_, os, bare⟩
    cases z : H b with
    | none => exact un.keep b q e z (fun m => by cases (show b ∈ ([] : List Addr) from m)) (by simp)
    | some u =>
      obtain ⟨rfl, _, rfl⟩ := Hat b u z
      obtain ⟨e2, _⟩ := hok' _ _ (un.frzs _ _ _ z)
      rw [e] at there
      cases there
      exact e2
theorem walk_at {l : PySem.W.OpenLaw} {n k : Nat} {q : Program} {loose : List Str} {XP : (Str → Option Value) → Heap → Prop} {YP : World → Heap → Prop} {d : DefRec} {K : Params → PySem.W.Frag} {CX : World → CXT} {sp : World → Sp} {x : Str}
    (hn : l.most = some n) (hn2 : n ≤ sizeLine) (hdf : d.params.defaults = []) (hr : Room k callerA) (hY : ∀ (w : World) (h : Heap), YP w h → (K w.params).In h)
    (F : ∀ (w : World) (mg : Str → Option Value) (fa : Addr) (h : Heap), (K w.params).In h → h.Ns mainGlobals mg → mg d.name = some (.ref fa) →
      ∃ fd : FuncData, (∀ (s : Shared) (u : Value), BindsTo s fd ⟨[u], []⟩ [(x, u)]) ∧ ∀ base : Heap, (K w.params).In base → base.Ns mainGlobals mg → RunAt l.prog w (K w.params) mg base (CX w) k fa fd [x] (sp w))
    (hsp : ∀ (w : World) (H : Hp) (a : Addr) (ns : List Int), ns.length ≤ n → SqL (K w.params) H a (ns.map V.int) → sp w [.ref a] H (fun v _ => v = .bl true) fun _ _ _ => False)
    (hCX : ∀ (w : World) (H : Hp) (s : Shared) (e : Value) (s' : Shared), CX w [] H s (fun _ _ _ => False) e s' → False) : PySem.W.WalkO q loose XP YP l.row.toRowW d [] (fun f vs => PySem.call f vs) := by
  refine Att.attach_call hn hdf fun w s₀ s₁ mg mb fa o pm cd doc a vs ns G Y ho hd hcd hmg hobj hints hlen hg => ?_
  have kin := hY w _ Y
  obtain ⟨fd, hb, hF⟩ := F w mg fa _ kin G.T.g hmg
  exact run_law kin G.T.g G.T.b G.T.builtins G.T.nolimit hg hobj hints (Nat.le_trans hlen hn2) hr hF hb (fun H hS => hsp w H a ns hlen hS) fun H e s' => hCX w H s₁ e s'
theorem fun_at {P : Program} {w : World} {K : PySem.W.Frag} {mg : Str → Option Value} {base : Heap} {x qual : Str} {st : Stmt} {f : Addr} {fd : FuncData} {N ps : List Str} {k : Nat} {sp : Sp} (F : Fun K x qual st f fd) (S : FnScope N ps (defScope st))
    (len : ∀ vs H Q E, sp vs H Q E → vs.length = ps.length)
    (body : ∀ (cdv : Value) (s : Shared) (H : Hp) (vs : List V) (Q : VK) (E : XK), Room k (callerA.deeper (envOfC qual (defScope st) s.heap.objs.size f cdv)) → (callerA.deeper (envOfC qual (defScope st) s.heap.objs.size f cdv)).guards = some [] → sp vs H Q E →
      ∃ t, PSs (cxOf (L2.CX P w) P w K mg base N qual (defScope st) f cdv callerA [] s H E) (defBody st) t ∧ t { nx := fun _ H' => Q .non H', rt := Q } (L2.start N vs) H) : RunAt P w K mg base (L2.CX P w) (k + 1) f fd ps sp := by
  obtain ⟨oc, od, kV, doc, pm, an, cdv, ct, osl, rfl, lk, hcd⟩ := F.ex
  intro s H args us vs Q E hr env bind rel hsp
  have lens := len _ _ _ _ hsp
  have kin : K.In s.heap := env.mod.kin.keeps fun b o e => (env.bs b o e).1
  have lim : s.heap.NoLimit := env.mod.nolimit.keeps fun b o e => (env.bs b o e).1
  have kinds : ∀ y ∈ ps.zip us, (defScope st).names.lookup y.1 = some .local ∨ ((defScope st).names.lookup y.1 = some .cell ∧ ((cellsFrom (s.heap.objs.size + 1) (defScope st).names []).lookup y.1).isSome = true) := by
    rintro ⟨n, v⟩ hy
    exact (S.par n (List.of_mem_zip hy).1).imp id fun z => ⟨z, PySem.W.cellsFrom_some _ _ _ (.inl z)⟩
  obtain ⟨t, ht, hq⟩ := body cdv s H vs Q E (hr.deeper _) rfl hsp
  refine codeAny_call_function hr.depth (kin _ _ lk) rfl S.co S.gen rfl (PySem.W.codeRec_of kin hcd) (bind _ _ _ _ ?_)
  refine wpAny_newFunctionEnv_cells S.kind kinds fun e he s1 new => ?_
  subst he
  refine ⟨lim.keeps new.toInCall.keep, codeAny_func ?_⟩
  have inv : Inv (cxOf (L2.CX P w) P w K mg base N qual (defScope st) f cdv callerA [] s H E) [] (L2.start N vs) H s1 := inv_start S hr.hd env lens rel new
  refine wpAny_mono (ht.run [] s1 _ H _ inv hq) (fun fl s' got => ?_) fun e s' got => got
  match fl, got with
  | .ret u, ⟨v, σ', H', J, rv, q⟩ => exact ⟨v, H', J.os, J.bare, J.base, J.hok, rv, q⟩
  | .next, ⟨σ', H', J, q⟩ => exact ⟨.non, H', J.os, J.bare, J.base, J.hok, rfl, q⟩
  | .brk, ⟨σ', H', J, q⟩ => exact q.elim
  | .cont, ⟨σ', H', J, q⟩ => exact q.elim
end Z

set_option Elab.async false
set_option linter.all false
set_option maxRecDepth 100000
set_option maxHeartbeats 2000000
namespace Z
open PySem PySem.Spec PyProof.Rows L2
section
variable {K : PySem.W.Frag} {W : WX} {ρ ρ' ρ1 : List Sl} {te ta tb : TE} {t u : TS} {tr : TA} {R : Rp} {B Ba Bb : Bw} {o : Out} {i j : Nat} {E : XK} {C : Addr} {n : Int}
structure EvD (ta : TA) (ρ : List Sl) (ds : List PyData) : Prop where
  all : EvA ta ρ (ds.map fun d => pu (dat d))
theorem Op2.l {r : R2} {ds : List PyData} (h : Op2 r (bL ds) Bb R) : Op2 r (pu (dat (.list ds))) Bb R := fun G H L x y Q l hx hy q => h G H L x y Q l (bl_of_dat _ _ _ hx) hy q
theorem Op2.r {r : R2} {ds : List PyData} (h : Op2 r Ba (bL ds) R) : Op2 r Ba (pu (dat (.list ds))) R := fun G H L x y Q l hx hy q => h G H L x y Q l hx (bl_of_dat _ _ _ hy) q
theorem Op2N.l {r : R2} {ds es : List PyData} (h : Op2N r (bL ds) Bb es) : Op2N r (pu (dat (.list ds))) Bb es := fun G H L x y Q l hx hy q => h G H L x y Q l (bl_of_dat _ _ _ hx) hy q
theorem Op2N.r {r : R2} {ds es : List PyData} (h : Op2N r Ba (bL ds) es) : Op2N r Ba (pu (dat (.list ds))) es := fun G H L x y Q l hx hy q => h G H L x y Q l hx (bl_of_dat _ _ _ hy) q
theorem Op2.is {r : R2} {R' : Rp} (h : Op2 r Ba Bb R) (e : R = R') : Op2 r Ba Bb R' := by rw [← e]; exact h
def exR {α : Type} (P : α → Prop) (F : α → Rp) : Rp := ⟨fun G v => ∃ x, P x ∧ (F x).p G v, fun e h => by
  obtain ⟨x, p, q⟩ := h
  exact ⟨x, p, (F x).up e q⟩⟩
theorem Ev.ex {α : Type} {P : α → Prop} {F : α → Rp} (x : α) (p : P x) (h : Ev te ρ (pu (F x))) : Ev te ρ (pu (exR P F)) := h.imp fun _ _ _ q => ⟨x, p, q⟩
theorem enum_map {α : Type} {en : α → PyData} : ∀ (xs : List α) (k : Nat), ((xs.map en).zipIdx k).map (fun p => PyData.tuple [.int ((p.2 : Nat) : Int), p.1]) = (xs.zipIdx k).map fun p => .tuple [.int ((p.2 : Nat) : Int), en p.1]
  | [], _ => rfl
  | x :: xs, k => by
    rw [List.map_cons, List.zipIdx_cons, List.map_cons, List.zipIdx_cons, List.map_cons, enum_map xs (k + 1)]
end
theorem SpA.go {α : Type} {pre : α → Prop} {A : α → List Bw} {F : α → Res} {vs : List V} {H : Hp} {Q : VK} {E : XK} {t : TS} (h : SpA pre A F vs H Q E) (N : List Str) (m : Nat) (hm : ∀ x, (A x).length = m)
    (hx : ∀ x, pre x → ∃ r ρ, F x = r ∧ Ex (WofE E) t (st0 (A x) (N.length - m)) (r.out ρ)) : t { nx := fun _ H' => Q .non H', rt := Q } (L2.start N vs) H :=
  h.run (N := N) hm fun x p => by
    obtain ⟨r, ρ, e, ex⟩ := hx x p
    exact ⟨ρ, by rw [e]; exact ex⟩
theorem SpA.goN {α : Type} {pre : α → Prop} {A : α → List Bw} {F : α → Res} {vs : List V} {H : Hp} {Q : VK} {E : XK} {t : TS} (h : SpA pre A F vs H Q E) (N : List Str) (m : Nat) (hm : ∀ x, (A x).length = m)
    (hx : ∀ x, pre x → (∃ ρ, F x = .ok (dat .none) ∧ Ex (WofE E) t (st0 (A x) (N.length - m)) (.nx ρ)) ∨ ∃ r ρ, F x = r ∧ Ex (WofE E) t (st0 (A x) (N.length - m)) (r.out ρ)) : t { nx := fun _ H' => Q .non H', rt := Q } (L2.start N vs) H :=
  h.runN (N := N) hm fun x p => by
    rcases hx x p with ⟨ρ, e, ex⟩ | ⟨r, ρ, e, ex⟩
    · exact ⟨ρ, .inl ⟨e, ex⟩⟩
    · exact ⟨ρ, .inr (by rw [e]; exact ex)⟩
end Z

set_option Elab.async false
set_option linter.all false
set_option maxRecDepth 100000
set_option maxHeartbeats 2000000
namespace Z
open PySem PySem.Spec PyProof.Rows L2
section
variable (K : PySem.W.Frag) {X : Cx}
theorem kix_list (h : X.K = K := by rfl) : IxR X (rIxL K) := by subst h; exact ix_list
theorem kix_tup (h : X.K = K := by rfl) : IxR X (rIxT K) := by subst h; exact ix_tup
theorem ksl_list (h : X.K = K := by rfl) : SlR X (rSlL K) := by subst h; exact sl_list
theorem kop_in (h : X.K = K := by rfl) : OpR X (compareOp .In) (rIn K false) := by subst h; exact op_in_seq
theorem kop_notIn (h : X.K = K := by rfl) : OpR X (compareOp .NotIn) (rIn K true) := by subst h; exact op_notIn_seq
theorem kop_eqD (hu : X.A.units + 64 < cLine) (h : X.K = K := by rfl) : OpR X (compareOp .Eq) (rEqD K) := by subst h; exact op_eqD hu
theorem kop_neD (hu : X.A.units + 64 < cLine) (h : X.K = K := by rfl) : OpR X (compareOp .NotEq) (rNeD K) := by subst h; exact op_neD hu
theorem kcall_len (h : X.K = K := by rfl) : CallR X (.builtin "len") (cLen K) := by subst h; exact call_len_seq
theorem kcall_list (h : X.K = K := by rfl) : CallR X (.type "list") (cList K) := by subst h; exact call_list_of
theorem kcall_sum (hc : X.calm = true) (h : X.K = K := by rfl) : CallR X (.builtin "sum") (rSum K) := by subst h; exact cr_sum hc
theorem kcall_all (hc : X.calm = true) (h : X.K = K := by rfl) : CallR X (.builtin "all") (rAll K) := by subst h; exact cr_all hc
variable {tg l e : Expr} {tl te : TE} {ta : TA} {es elts : List Expr} {k kk n : Nat} {t : TGs} {pos p tpos : Pos} {f : Str}
theorem kpi_list (hl : PE X l tl) (h : X.K = K := by rfl) : PI X tg l (iList K tl) := by subst h; exact pi_list hl
theorem kpi_enum (hg : Gl X "enumerate") (hm : X.mg "enumerate" = none) (ha : PA X [e] ta) (hs : starEach [e] X.env = [(false, eval e X.env)] := by rfl) (h : X.K = K := by rfl) : PI X (.Tuple elts kk tpos) (.Call (.Name "enumerate" p) [e] [] pos) (iEnum K ta) := by
  subst h; exact pi_enum hg hm ha hs
theorem kpg_tup (hc : X.calm = true) (hp : PGs X es t) (hn : (assignEach es X.env).length = n := by rfl) (hst : (assignEach es X.env).findIdx? (·.1) = none := by rfl) (h : X.K = K := by rfl) : PG X (.Tuple es k pos) (gTup K n t) := by
  subst h; exact pg_tup hc hp hn hst
theorem kps_fld {value o : Expr} {ta tv : TE} {pos' : Pos} (ho : PE X o ta) (hv : PE X value tv) (hs : swapsWith value (some (.Attribute o f pos')) pos.line X.env = pure false) (h : X.K = K := by rfl) : PS X (.Assign [.Attribute o f pos'] value pos) (sFld K ta tv f) := by subst h; exact ps_fld ho hv hs
theorem kpe_fld (he : PE X e te) (hb : attributeBase e f X.env (eval e X.env) = eval e X.env) (h : X.K = K := by rfl) : PE X (.Attribute e f pos) (tFld K te f) := by subst h; exact pe_fld he hb
end
end Z

set_option Elab.async false
set_option linter.all false
set_option maxRecDepth 100000
set_option maxHeartbeats 2000000
namespace Z
open PySem PySem.Spec PyProof.Rows L2
section
variable {K : PySem.W.Frag} {W : WX} {ρ ρ' ρ1 : List Sl} {te ta tb : TE} {t u : TS} {tr : TA} {R : Rp} {B : Bw} {o : Out} {i : Nat} {α : Type} {pre : α → Prop} {A : α → List Bw} {C D : Addr} {n : Int}
theorem ev_makeS {F : α → IRes} {E : L2.St → XK} {fs : List (Str × Rp)} (x : α) (ha : EvA tr ρ (A x)) (hp : pre x) (hF : F x = .ok fs) : Ev (tMakeS C (SpI C pre A F) E tr) ρ (pu (insR C fs)) := Ev.pure fun {G σ L0 H} Q s q => ha.at s fun G1 H1 vs L e1 sl la r => fun y dx hy hd hne => by
  have g := same_upd (o := .own y) (la.freshG hd)
  have l1 : Lay (upd G1 dx (.own y)) (L ++ L0) (upd H1 dx (.own y)) := la.grow hd
  have hy1 : upd H1 dx (.own y) y = none := by rw [upd_ne (fun z => hne z.symm)]; exact hy
  have ab : ∀ {vs : List V} {Bs : List Bw}, AllB G1 (L ++ L0) vs Bs → AllB (upd G1 dx (.own y)) (L ++ L0) vs Bs := fun {vs Bs} h => by
    induction h with
    | nil => exact .nil
    | cons h _ ih => exact .cons (Bw.up _ g (fun _ z => z) h) ih
  refine ⟨x, upd G1 dx (.own y), L ++ L0, y, dx, vs, hp, rfl, l1.cell hy1, ab r, ?_⟩
  rw [hF]
  refine fun G' H' dx' fv e2 l2 hfl => ⟨rfl, ?_⟩
  have hG : G' y = none := (l2.on _ (List.mem_cons_self ..)).2
  have e3 := same_upd (o := HO.ins C dx' fv) hG
  exact q _ H' (.ref y) ((e1.trans (g.trans e2)).trans e3) ⟨L, sl.up ((g.trans e2).trans e3), l2.freeze⟩ ⟨y, dx', fv, rfl, upd_same, hfl.up e3⟩
theorem ex_makeS {F : α → IRes} (x : α) (ha : EvA tr ρ (A x)) (hp : pre x) (hF : F x = .err D n) : EvX W (tMakeS C (SpI C pre A F) (WE W) tr) ρ D n := ⟨fun {G σ L0 H} Q s q => ha.at s fun G1 H1 vs L e1 sl la r => fun y dx hy hd hne => by
  have g := same_upd (o := .own y) (la.freshG hd)
  have l1 : Lay (upd G1 dx (.own y)) (L ++ L0) (upd H1 dx (.own y)) := la.grow hd
  have hy1 : upd H1 dx (.own y) y = none := by rw [upd_ne (fun z => hne z.symm)]; exact hy
  have ab : ∀ {vs : List V} {Bs : List Bw}, AllB G1 (L ++ L0) vs Bs → AllB (upd G1 dx (.own y)) (L ++ L0) vs Bs := fun {vs Bs} h => by
    induction h with
    | nil => exact .nil
    | cons h _ ih => exact .cons (Bw.up _ g (fun _ z => z) h) ih
  refine ⟨x, upd G1 dx (.own y), L ++ L0, y, dx, vs, hp, rfl, l1.cell hy1, ab r, ?_⟩
  rw [hF]
  exact fun G' H' d e2 l2 hd' => q G' H' d (e1.trans (g.trans e2)) ⟨L, sl.up (g.trans e2), l2⟩ hd'⟩
end
end Z

set_option Elab.async false
set_option linter.all false
set_option maxRecDepth 100000
set_option maxHeartbeats 2000000
set_option exponentiation.threshold 4000
namespace Z
open PySem PySem.Spec PyProof.Rows L2
structure Sh (k : Nat) (d : PyData) : Prop where
  lay : d.canLay0 = true
  deep : d.depth ≤ k
theorem sh_int {k : Nat} {i : Int} : Sh k (.int i) := ⟨rfl, Nat.zero_le _⟩
theorem sh_bool {k : Nat} {b : Bool} : Sh k (.bool b) := ⟨rfl, Nat.zero_le _⟩
theorem sh_none {k : Nat} : Sh k .none := ⟨rfl, Nat.zero_le _⟩
theorem canAll {xs : List PyData} (h : ∀ x ∈ xs, x.canLay0 = true) : PyData.canLayAll0 xs = true := by
  induction xs with
  | nil => rfl
  | cons x xs ih =>
    rw [PyData.canLayAll0, h x (List.mem_cons_self ..), ih fun y hy => h y (List.mem_cons_of_mem _ hy)]; rfl
theorem deepAll {k : Nat} {xs : List PyData} (h : ∀ x ∈ xs, x.depth ≤ k) : PyData.depthAll xs ≤ k := by
  induction xs with
  | nil => exact Nat.zero_le _
  | cons x xs ih =>
    rw [PyData.depthAll]
    exact Nat.max_le.mpr ⟨h x (List.mem_cons_self ..), ih fun y hy => h y (List.mem_cons_of_mem _ hy)⟩
theorem sh_list {k : Nat} {xs : List PyData} (h : ∀ x ∈ xs, Sh k x) : Sh (k + 1) (.list xs) := ⟨by rw [PyData.canLay0]; exact canAll fun x hx => (h x hx).lay, by rw [PyData.depth]; exact Nat.succ_le_succ (deepAll fun x hx => (h x hx).deep)⟩
theorem sh_tup {k : Nat} {xs : List PyData} (h : ∀ x ∈ xs, Sh k x) : Sh (k + 1) (.tuple xs) := ⟨by rw [PyData.canLay0]; exact canAll fun x hx => (h x hx).lay, by rw [PyData.depth]; exact Nat.succ_le_succ (deepAll fun x hx => (h x hx).deep)⟩
theorem sh_nil {k : Nat} : ∀ x ∈ ([] : List PyData), Sh k x := fun x h => nomatch h
theorem sh_cons {k : Nat} {d : PyData} {ds : List PyData} (h : Sh k d) (t : ∀ x ∈ ds, Sh k x) : ∀ x ∈ d :: ds, Sh k x := fun x hx => by
  rcases List.mem_cons.mp hx with rfl | hx
  · exact h
  · exact t x hx
theorem sh_map {α : Type} {k : Nat} {f : α → PyData} {xs : List α} (h : ∀ x ∈ xs, Sh k (f x)) : ∀ y ∈ xs.map f, Sh k y := fun y hy => by
  obtain ⟨x, hx, rfl⟩ := List.mem_map.mp hy
  exact h x hx
theorem Sh.shaped {k : Nat} {d : PyData} (h : Sh k d) (hk : k ≤ 64 := by decide) : SeqAt.shaped d = true := by
  unfold SeqAt.shaped
  rw [h.lay, decide_eq_true (Nat.le_trans h.deep hk)]; rfl
theorem Sh.refl {k : Nat} {d : PyData} (h : Sh k d) : PyData.eqv d d = true := SeqAt.eqv_refl d h.lay
structure Sm (k w : Nat) (d : PyData) : Prop where
  sh : Sh k d
  wt : d.weight ≤ w
  short : d.intsShort 13 = true
  show_ : d.showable = true
theorem sm_int {k : Nat} {i : Int} (h : i.natAbs < 10 ^ 12) : Sm k 40 (.int i) := by
  refine ⟨sh_int, ?_, ?_, ?_⟩
  · rw [PyData.weight]
    by_cases z : i = 0
    · rw [if_pos (by simpa using z)]; decide
    · rw [if_neg (by simpa using z)]
      have : i.natAbs.log2 < 40 := (Nat.log2_lt (by omega)).mpr (by omega)
      omega
  · rw [PyData.intsShort]; exact decide_eq_true (PyData.shown_int_le h)
  · rw [PyData.showable]
    refine decide_eq_true ?_
    by_cases z : i.natAbs = 0
    · rw [z]; decide
    · exact (Nat.log2_lt z).mpr (Nat.lt_trans h (Nat.lt_of_lt_of_le (show 10 ^ 12 < 2 ^ 40 by decide) (Nat.pow_le_pow_right (by decide) (by decide))))
theorem shortAll {xs : List PyData} (h : ∀ x ∈ xs, x.intsShort 13 = true) : PyData.intsShortAll 13 xs = true := by
  induction xs with
  | nil => rfl
  | cons x xs ih =>
    rw [PyData.intsShortAll, h x (List.mem_cons_self ..), ih fun y hy => h y (List.mem_cons_of_mem _ hy)]; rfl
theorem showAll {xs : List PyData} (h : ∀ x ∈ xs, x.showable = true) : PyData.showableAll xs = true := by
  induction xs with
  | nil => rfl
  | cons x xs ih =>
    rw [PyData.showableAll, h x (List.mem_cons_self ..), ih fun y hy => h y (List.mem_cons_of_mem _ hy)]; rfl
theorem wtAll {w : Nat} {xs : List PyData} (h : ∀ x ∈ xs, x.weight ≤ w) : PyData.weightAll xs ≤ xs.length * (w + 1) := by
  induction xs with
  | nil => exact Nat.zero_le _
  | cons x xs ih =>
    rw [PyData.weightAll, List.length_cons, Nat.succ_mul]
    have := h x (List.mem_cons_self ..)
    have := ih fun y hy => h y (List.mem_cons_of_mem _ hy)
    omega
theorem sm_list {k w W : Nat} {xs : List PyData} (h : ∀ x ∈ xs, Sm k w x) (hw : xs.length * (w + 1) ≤ W) : Sm (k + 1) W (.list xs) :=
  ⟨sh_list fun x hx => (h x hx).sh, by rw [PyData.weight]; exact Nat.le_trans (wtAll fun x hx => (h x hx).wt) hw, by rw [PyData.intsShort]; exact shortAll fun x hx => (h x hx).short, by rw [PyData.showable]; exact showAll fun x hx => (h x hx).show_⟩
theorem sm_tup {k w W : Nat} {xs : List PyData} (h : ∀ x ∈ xs, Sm k w x) (hw : xs.length * (w + 1) ≤ W) : Sm (k + 1) W (.tuple xs) :=
  ⟨sh_tup fun x hx => (h x hx).sh, by rw [PyData.weight]; exact Nat.le_trans (wtAll fun x hx => (h x hx).wt) hw, by rw [PyData.intsShort]; exact shortAll fun x hx => (h x hx).short, by rw [PyData.showable]; exact showAll fun x hx => (h x hx).show_⟩
theorem Sm.mono {k w k' w' : Nat} {d : PyData} (h : Sm k w d) (hk : k ≤ k') (hw : w ≤ w') : Sm k' w' d := ⟨⟨h.sh.lay, Nat.le_trans h.sh.deep hk⟩, Nat.le_trans h.wt hw, h.short, h.show_⟩
theorem sm_nil {k w : Nat} : ∀ x ∈ ([] : List PyData), Sm k w x := fun x h => nomatch h
theorem sm_cons {k w : Nat} {d : PyData} {ds : List PyData} (h : Sm k w d) (t : ∀ x ∈ ds, Sm k w x) : ∀ x ∈ d :: ds, Sm k w x := fun x hx => by
  rcases List.mem_cons.mp hx with rfl | hx
  · exact h
  · exact t x hx
theorem sm_map {α : Type} {k w : Nat} {f : α → PyData} {xs : List α} (h : ∀ x ∈ xs, Sm k w (f x)) : ∀ y ∈ xs.map f, Sm k w y := fun y hy => by
  obtain ⟨x, hx, rfl⟩ := List.mem_map.mp hy
  exact h x hx
theorem Sm.len {k w : Nat} {d : PyData} (h : Sm k w d) (hk : k ≤ 60) (hw : w ≤ 2 ^ 20) : d.shown.length ≤ sizeLine := by
  refine Nat.le_trans (shown_le13 ?_ h.short) (by decide)
  unfold PyData.layable0
  rw [h.sh.lay, decide_eq_true (Nat.le_trans h.sh.deep (Nat.le_trans hk (by decide))), decide_eq_true (Nat.le_trans h.wt hw)]; rfl
end Z

set_option Elab.async false
set_option linter.all false
set_option maxRecDepth 100000
set_option maxHeartbeats 2000000
namespace Z
open PySem PySem.Spec PyProof.Rows L2
section
variable {K : PySem.W.Frag} {ρ : List Sl} {te : TE}
theorem sqL_up {H H' : Hp} {a : Addr} {xs : List V} (e : Same H H') (h : SqL K H a xs) : SqL K H' a xs := by
  rcases h with (h | ⟨o, h⟩) | h
  · exact .inl (.inl (e _ _ h))
  · exact .inl (.inr ⟨o, e _ _ h⟩)
  · exact .inr h
def scR (K : PySem.W.Frag) (xs : List Int) : Rp := ⟨fun G v => ∃ a, v = .ref a ∧ SqL K G a (xs.map V.int), fun e h => by
  obtain ⟨a, r, q⟩ := h
  exact ⟨a, r, sqL_up e q⟩⟩
theorem cl_lenS {xs : List Int} : Cl (cLen K) [pu (scR K xs)] (dI xs.length) := fun G H L vs Q l r q => by
  cases r with
  | cons h t =>
    cases t
    obtain ⟨a, rfl, hv⟩ := h
    refine ⟨a, _, rfl, .inl (sqL_up l.same hv), q _ ?_⟩
    rw [List.length_map]
    exact Dq.int _
theorem ev_sS {xs : List Int} (h : Ev te ρ (pu (scR K xs))) : EvS K te ρ (xs.map .int) := ⟨fun Q s q => h.atp s fun G' H' v e s' r => by
  obtain ⟨a, rfl, hv⟩ := r
  exact q G' H' a _ e s' (fun G'' L'' H'' e2 l => sqL_up l.same (sqL_up e2 hv)) (dpAll_of_ints xs)⟩
end
theorem o_eqS {a b : Str} : Op2 rEq (pu (dat (.str a))) (pu (dat (.str b))) (dB (decide (a = b))) := fun G H L x y Q _ hx hy q => by
  cases hx; cases hy
  refine ⟨rfl, q _ ?_⟩
  have e : decide (V.str a = V.str b) = decide (a = b) := by rw [Bool.eq_iff_iff]; simp
  rw [e]
  exact Dq.bl _
theorem o_neS {a b : Str} : Op2 rNe (pu (dat (.str a))) (pu (dat (.str b))) (dB (!decide (a = b))) := fun G H L x y Q _ hx hy q => by
  cases hx; cases hy
  refine ⟨rfl, q _ ?_⟩
  have e : decide (V.str a = V.str b) = decide (a = b) := by rw [Bool.eq_iff_iff]; simp
  rw [e]
  exact Dq.bl _
theorem exm_of {K : PySem.W.Frag} {C S : Addr} (h1 : PySem.W.subIn K (.ref S) (.type "BaseException") = some true) (h2 : PySem.W.isClsIn K S = true) (h3 : PySem.W.typeIn K (.ref S) = some (.type "type")) (h4 : PySem.W.subIn K (.ref C) (.ref S) = some true) :
    PySem.W.exmOne K (.ref C) (.ref S) = some true := by
  have e1 : (PySem.W.subIn K (.ref S) (.type "BaseException") == some true) = true := by rw [h1] <;> rfl
  have e2 : ((PySem.W.clsIn K S).isSome && PySem.W.typeIn K (.ref S) == some (.type "type")) = true := by
    have h2' : (PySem.W.clsIn K S).isSome = true := h2
    rw [h2', h3] <;> rfl
  show (if (PySem.W.subIn K (.ref S) (.type "BaseException") == some true) = true then (if ((PySem.W.clsIn K S).isSome && PySem.W.typeIn K (.ref S) == some (.type "type")) = true then PySem.W.subIn K (.ref C) (.ref S) else none) else none) = some true
  rw [if_pos e1, if_pos e2]
  exact h4
theorem room64 {k : Nat} {A : Around} (r : Room k A) : A.units + 64 < cLine := by have := r.un; omega
theorem room70 {k : Nat} {A : Around} (r : Room k A) : A.units + 70 < cLine := by have := r.un; omega
end Z

set_option Elab.async false
set_option linter.all false
set_option maxRecDepth 100000
set_option maxHeartbeats 2000000
namespace Z
open PySem PySem.Spec PyProof.Rows L2
structure ExS (W : WX) (ts : TS) (ρ : List Sl) (S : Out → Prop) : Prop where
  run : ∀ {G : Hp} {σ : L2.St} {L0 : List Cell} {H : Hp} (D : Ends), Stt G ρ σ L0 H → (∀ o, S o → Post W D G L0 o) → ts D σ H
section
variable {K : PySem.W.Frag} {W : WX} {ρ ρ' ρ1 : List Sl} {te ta tb : TE} {t u : TS} {tr : TA} {R : Rp} {B : Bw} {o : Out} {i : Nat} {S S' S1 : Out → Prop}
theorem ExS.of (h : Ex W t ρ o) (k : S o) : ExS W t ρ S := ⟨fun D s q => h.run D s (q o k)⟩
theorem ExS.ex (h : ExS W t ρ (fun o' => o' = o)) : Ex W t ρ o := ⟨fun D s q => h.run D s fun o' e => by rw [e]; exact q⟩
theorem ExS.imp (h : ExS W t ρ S) (k : ∀ o, S o → S' o) : ExS W t ρ S' := ⟨fun D s q => h.run D s fun o p => q o (k o p)⟩
theorem ExS.seq (h : Ex W t ρ (.nx ρ1)) (k : ExS W u ρ1 S) : ExS W (tSeq t u) ρ S := ⟨fun D s q => h.run { D with nx := u D } s fun G' σ' H' e s' => k.run D s' fun o p => (q o p).mono e⟩
theorem Post.seqE {D : Ends} {G : Hp} {L0 : List Cell} {N : L2.St → Hp → Prop} (k : o.ends = true) (q : Post W D G L0 o) : Post W { D with nx := N } G L0 o := by
  cases o with
  | nx _ => cases k
  | go _ => cases k
  | bk _ => exact q
  | ct _ => exact q
  | rt _ => exact q
  | rw _ _ => exact q
  | ro _ => exact q
  | xc _ _ _ => exact q
theorem ExS.ife {tc : TT} {b : Bool} (hc : EvT tc ρ b) (h1 : b = true → ExS W t ρ S) (h2 : b = false → ExS W u ρ S) : ExS W (tIfS tc t u) ρ S := ⟨fun D s q => hc.run _ s fun G1 H1 e1 s1 => by
  cases b with
  | true => exact (h1 rfl).run D s1 fun o p => (q o p).mono e1
  | false => exact (h2 rfl).run D s1 fun o p => (q o p).mono e1⟩
theorem ExS.ite {v : TS} {tc : TT} {b : Bool} (hc : EvT tc ρ b) (h1 : b = true → ExS W (tSeq t v) ρ S) (h2 : b = false → ExS W (tSeq u v) ρ S) : ExS W (tSeq (tIfS tc t u) v) ρ S := ⟨fun D s q => hc.run _ s fun G1 H1 e1 s1 => by
  cases b with
  | true => exact (h1 rfl).run D s1 fun o p => (q o p).mono e1
  | false => exact (h2 rfl).run D s1 fun o p => (q o p).mono e1⟩
theorem ExS.weak (w : Wk ρ ρ') (h : ExS W t ρ' S) : ExS W t ρ S := ⟨fun D s q => by
  obtain ⟨G2, e2, s2⟩ := s.weak w
  exact h.run D s2 fun o p => (q o p).mono e2⟩
theorem ExS.freeze {ds : List PyData} (i : Nat) (hi : ρ[i]? = some (.o (oL ds))) (h : ExS W t (ρ.set i (.p (dat (.list ds)))) S) : ExS W t ρ S := ⟨fun {G σ L0 H} D s q => by
  obtain ⟨a, cs, e, ⟨vs, hcs, d⟩, hh, k1, k2⟩ := s.get_o hi
  subst hcs
  obtain ⟨G2, e2, s2⟩ := k2 (dat (.list ds)) fun G' e' hc => Dq.lst (hc (a, .lst vs) (List.mem_cons_self ..)) (dpAll_up e' d)
  exact h.run D s2 fun o p => (q o p).mono e2⟩
theorem ExS.whileI {Sx : Type} {tc : TT} {tb : TS} (E : Sx → List Sl) (I : Sx → Prop) (μ : Sx → Nat) (b : Sx → Bool) {s0 : Sx} (h0 : Wk ρ (E s0)) (i0 : I s0)
    (ht : ∀ s, I s → EvT tc (E s) (b s))
    (hb : ∀ s, I s → b s = true → ExS W tb (E s) (fun o => (∃ s', I s' ∧ μ s' < μ s ∧ o = .go (E s')) ∨ (o.leaves = true ∧ S (unbk o))))
    (hf : ∀ s, I s → b s = false → S (.nx (E s))) : ExS W (tWhile tc tb) ρ S := ⟨fun {G σ L0 H} D s q => by
  obtain ⟨G2, e2, s2⟩ := s.weak h0
  refine ⟨fun m σ H => ∃ s G', I s ∧ μ s = m ∧ Same G2 G' ∧ Stt G' (E s) σ L0 H, ⟨_, s0, G2, i0, rfl, Same.refl _, s2⟩, ?_⟩
  rintro m σ' H' ⟨s', G', hi, rfl, e3, s3⟩
  refine (ht s' hi).run _ s3 fun G5 H5 e5 s5 => ?_
  have e25 : Same G2 G5 := e3.trans e5
  cases hbb : b s' with
  | true =>
    rw [if_pos rfl]
    refine ⟨fun σ'' H'' => ∃ s G', I s ∧ μ s < μ s' ∧ Same G2 G' ∧ Stt G' (E s) σ'' L0 H'', fun σ'' H'' ⟨s, G'', a, b, c, d⟩ => ⟨μ s, b, s, G'', a, rfl, c, d⟩, ?_⟩
    refine (hb s' hi hbb).run _ s5 fun o ho => ?_
    rcases ho with ⟨s6, i6, m6, rfl⟩ | ⟨hl, hs⟩
    · have k : ∀ G6 σ6 H6, Same G5 G6 → Stt G6 (E s6) σ6 L0 H6 → ∃ s G', I s ∧ μ s < μ s' ∧ Same G2 G' ∧ Stt G' (E s) σ6 L0 H6 := fun G6 σ6 H6 e6 st => ⟨s6, G6, i6, m6, e25.trans e6, st⟩
      exact ⟨k, k⟩
    · have q := (q _ hs).mono (e2.trans e25)
      cases o with
      | nx _ => cases hl
      | go _ => cases hl
      | ct _ => cases hl
      | bk _ => exact q
      | rt _ => exact q
      | rw _ _ => exact q
      | ro _ => exact q
      | xc _ _ _ => exact q
  | false =>
    rw [if_neg (by decide)]
    exact q _ (hf s' hi hbb) G5 _ H5 (e2.trans e25) s5⟩
end
end Z

set_option Elab.async false
set_option linter.all false
set_option maxRecDepth 100000
set_option maxHeartbeats 2000000
namespace Z
open PySem PySem.Spec PyProof.Rows L2
section
variable {K : PySem.W.Frag} {W : WX} {ρ ρ' : List Sl} {te ta tb to : TE} {R : Rp} {B : Bw} {i j : Nat}
abbrev rAddS : R2 := fun x y H Q => ∃ i j, x = .str i ∧ y = .str j ∧ i.length + j.length ≤ sizeLine ∧ Q (.str (i ++ j)) H
abbrev cStrI : List V → Hp → VK → Prop := fun xs H Q => ∃ i, xs = [.int i] ∧ i.natAbs.log2 < 1920 ∧ Q (.str (toString i)) H
abbrev cIntS : List V → Hp → VK → Prop := fun xs H Q => ∃ a n, xs = [.str a] ∧ PySem.intText? a = some n ∧ a.length ≤ 640 ∧ Q (.int n) H
abbrev cLenS : List V → Hp → VK → Prop := fun xs H Q => ∃ z, xs = [.str z] ∧ z.length ≤ sizeLine ∧ Q (.int z.length) H
abbrev rJoin (K : PySem.W.Frag) : V → List V → Hp → VK → Prop := fun x xs H Q => ∃ a p, ∃ ys : List Str, x = .str a ∧ xs = [.ref p] ∧ (SqL K H p (ys.map V.str) ∨ SqT K H p (ys.map V.str)) ∧ (ys.map (·.length)).sum + ys.length * a.length ≤ 16777216 ∧ Q (.str (Txt.join a ys)) H
abbrev rSplit : V → List V → Hp → VK → Prop := fun x xs H Q => ∃ a b, x = .str a ∧ xs = [.str b] ∧ (b.length == 0) = false ∧ a.length + 2 ≤ sizeLine ∧ rNewStrs (Txt.split a b) H Q
abbrev rIs0 (f : Str → Bool) : V → List V → Hp → VK → Prop := fun x xs H Q => ∃ a, x = .str a ∧ xs = [] ∧ True ∧ Q (.bl (f a)) H
inductive EvJ (ρ : List Sl) : List TE → List Str → Prop
  | nil : EvJ ρ [] []
  | cons {t : TE} {ts : List TE} {y : Str} {ys : List Str} (h : Ev t ρ (pu (dat (.str y)))) (r : EvJ ρ ts ys) : EvJ ρ (t :: ts) (y :: ys)
abbrev cTupOf (K : PySem.W.Frag) : List V → Hp → VK → Prop := fun xs H Q => ∃ p ys, xs = [.ref p] ∧ ((SqL K H p ys ∧ ∀ l, H l = none → Q (.ref l) (upd H l (.tup ys))) ∨ (SqT K H p ys ∧ Q (.ref p) H))
abbrev rMulS : R2 := fun x y H Q => ∃ a n, x = .str a ∧ y = .int n ∧ MulOk a n ∧ Q (.str (Txt.mul a n)) H
end
end Z

set_option Elab.async false
set_option linter.all false
set_option maxRecDepth 100000
set_option maxHeartbeats 2000000
namespace Z
open PySem PySem.Spec PyProof.Rows L2
section
variable {K : PySem.W.Frag} {W : WX} {ρ ρ' : List Sl} {te ta tb to : TE} {R : Rp} {B : Bw} {i j : Nat}
theorem eg_lst {n : Nat} {gs : TGs} {T : List Nat} {ds : List PyData} (h : EvGs gs T ρ ds ρ') (hn : ds.length = n) : EvG (gLst K n gs) T ρ (dat (.list ds)) ρ' := ⟨fun v Q s r q => by
  have r : Dq _ v (.list ds) := r
  cases r with
  | lst a b => exact ⟨_, _, rfl, .inl (.inl (s.same _ _ a)), by rw [dpAll_len b]; exact hn, h.run _ Q s b q⟩⟩
abbrev tTruth (K : PySem.W.Frag) (te : TE) : TT := fun σ H Q => te σ H fun x H' => ∃ k, TruV K x H' k ∧ Q k H'
theorem et_truthL {ds : List PyData} (h : Ev te ρ (bL ds)) : EvT (tTruth K te) ρ (!ds.isEmpty) := ⟨fun Q s q => h.run _ s fun G1 H1 v e1 s1 r => by
  obtain ⟨L, sl, la⟩ := id s1
  obtain ⟨p, vs, rfl, hv, d⟩ := bl_sq la (r G1 L H1 (Same.refl _) sl la)
  refine ⟨!ds.isEmpty, .inl ⟨vs, .inl (.inl hv), ?_⟩, q _ _ e1 s1⟩
  cases d <;> rfl⟩
theorem Ex.appendX {C : Addr} {n : Int} {ds : List PyData} {T : String} (hi : ρ[i]? = some (.o (oL ds))) (he : EvX W te ρ C n) (hT : T = "list") : Ex W (tDrop (tBM K T rAppend (tVar i) (tCons te tNil))) ρ (.xc ρ C n) := ⟨fun {G σ L0 H} D s q => by
  obtain ⟨a, cs, e, ⟨vs, hcs, hd⟩, hh, _⟩ := s.get_o hi
  subst hcs
  exact ⟨_, e, .inl ⟨hT, vs, .inl (.inl (hh _ (List.mem_cons_self ..)))⟩, he.run _ s fun G' H' d e s' hd => q G' _ H' d e s' hd⟩⟩
end
end Z

set_option Elab.async false
set_option linter.all false
set_option maxRecDepth 100000
set_option maxHeartbeats 2000000
namespace Z
open PySem PySem.Spec PyProof.Rows L2
theorem slots_out {G : Hp} {L0 : List Cell} {O : Op} : ∀ {σ : L2.St} {ρ : List Sl} {L : List Cell} {i : Nat}, Slots G L0 σ ρ L → ρ[i]? = some (.o O) → ∃ a cs M, σ[i]? = some (some (.ref a)) ∧ O.p G a cs ∧ L.Perm (cs ++ M) ∧ Slots G L0 σ (ρ.set i .x) M
  | _, _, _, _, .nil, h => by simp at h
  | _, _, _, 0, .x _, h => by simp at h
  | _, _, _, 0, .p _ _, h => by simp at h
  | _, _, _, 0, .b _ _, h => by simp at h
  | _, _, _, 0, .o (a := a) (cs := cs) (L := M) q s, h => by
    simp at h; subst h
    exact ⟨a, cs, M, rfl, q, .refl _, .x s⟩
  | _, _, _, i + 1, .x s, h => by
    obtain ⟨a, cs, M, h1, h2, h3, h4⟩ := slots_out (i := i) s (by simpa using h)
    exact ⟨a, cs, M, by simpa using h1, h2, h3, .x h4⟩
  | _, _, _, i + 1, .p q s, h => by
    obtain ⟨a, cs, M, h1, h2, h3, h4⟩ := slots_out (i := i) s (by simpa using h)
    exact ⟨a, cs, M, by simpa using h1, h2, h3, .p q h4⟩
  | _, _, _, i + 1, .b q s, h => by
    obtain ⟨a, cs, M, h1, h2, h3, h4⟩ := slots_out (i := i) s (by simpa using h)
    exact ⟨a, cs, M, by simpa using h1, h2, h3, .b q h4⟩
  | _, _, _, i + 1, .o (cs := ds) q s, h => by
    obtain ⟨a, cs, M, h1, h2, h3, h4⟩ := slots_out (i := i) s (by simpa using h)
    exact ⟨a, cs, ds ++ M, by simpa using h1, h2, (h3.append_left ds).trans (perm_swap _ _ _), .o q h4⟩
theorem slots_in {G : Hp} {L0 : List Cell} {O : Op} {a : Addr} {cs : List Cell} (q : O.p G a cs) : ∀ {σ : L2.St} {ρ : List Sl} {M : List Cell} {i : Nat}, Slots G L0 σ (ρ.set i .x) M → σ[i]? = some (some (.ref a)) → ρ[i]? = some (.o O) → ∃ L, Slots G L0 σ ρ L ∧ L.Perm (cs ++ M)
  | σ, [], M, i, h, h1, h2 => by simp at h2
  | σ, r :: ρ, M, 0, h, h1, h2 => by
    have h2 : r = .o O := by simpa using h2
    subst h2
    have h : Slots G L0 σ (.x :: ρ) M := h
    cases h with
    | @x v σ' _ _ s' =>
      have h1 : v = some (.ref a) := by simpa using h1
      subst h1
      exact ⟨_, .o q s', .refl _⟩
  | σ, r :: ρ, M, i + 1, h, h1, h2 => by
    have h : Slots G L0 σ (r :: ρ.set i .x) M := h
    cases h with
    | x s' =>
      obtain ⟨L, s2, p⟩ := slots_in q s' (by simpa using h1) (by simpa using h2)
      exact ⟨L, .x s2, p⟩
    | p q' s' =>
      obtain ⟨L, s2, p⟩ := slots_in q s' (by simpa using h1) (by simpa using h2)
      exact ⟨L, .p q' s2, p⟩
    | b q' s' =>
      obtain ⟨L, s2, p⟩ := slots_in q s' (by simpa using h1) (by simpa using h2)
      exact ⟨L, .b q' s2, p⟩
    | @o _ _ ds _ _ _ q' s' =>
      obtain ⟨L, s2, p⟩ := slots_in q s' (by simpa using h1) (by simpa using h2)
      exact ⟨ds ++ L, .o q' s2, (p.append_left ds).trans (perm_swap _ _ _)⟩
theorem slots_b_of {G : Hp} {L0 : List Cell} {B : Bw} {v : V} (q : B.p G L0 v) : ∀ {σ : L2.St} {ρ : List Sl} {M : List Cell} {i : Nat}, Slots G L0 σ (ρ.set i .x) M → σ[i]? = some (some v) → Slots G L0 σ (ρ.set i (.b B)) M
  | σ, [], M, i, h, h1 => h
  | σ, r :: ρ, M, 0, h, h1 => by
    have h : Slots G L0 σ (.x :: ρ) M := h
    cases h with
    | @x w σ' _ _ s' =>
      have h1 : w = some v := by simpa using h1
      subst h1
      exact .b q s'
  | σ, r :: ρ, M, i + 1, h, h1 => by
    have h : Slots G L0 σ (r :: ρ.set i .x) M := h
    show Slots G L0 σ (r :: ρ.set i (.b B)) M
    cases h with
    | x s' => exact .x (slots_b_of q s' (by simpa using h1))
    | p q' s' => exact .p q' (slots_b_of q s' (by simpa using h1))
    | b q' s' => exact .b q' (slots_b_of q s' (by simpa using h1))
    | o q' s' => exact .o q' (slots_b_of q s' (by simpa using h1))
theorem slots_x_of {G : Hp} {L0 : List Cell} {B : Bw} : ∀ {σ : L2.St} {ρ : List Sl} {M : List Cell} {i : Nat}, Slots G L0 σ (ρ.set i (.b B)) M → Slots G L0 σ (ρ.set i .x) M
  | σ, [], M, i, h => h
  | σ, r :: ρ, M, 0, h => by
    have h : Slots G L0 σ (.b B :: ρ) M := h
    cases h with
    | b q s' => exact .x s'
  | σ, r :: ρ, M, i + 1, h => by
    have h : Slots G L0 σ (r :: ρ.set i (.b B)) M := h
    show Slots G L0 σ (r :: ρ.set i .x) M
    cases h with
    | x s' => exact .x (slots_x_of s')
    | p q' s' => exact .p q' (slots_x_of s')
    | b q' s' => exact .b q' (slots_x_of s')
    | o q' s' => exact .o q' (slots_x_of s')
inductive NL (G : Hp) : List Addr → List Cell → List (List PyData) → Prop
  | nil : NL G [] [] []
  | cons {a vs ds as cs dss} : DqAll G vs ds → NL G as cs dss → NL G (a :: as) ((a, HO.lst vs) :: cs) (ds :: dss)
theorem NL.up {G G' : Hp} (e : Same G G') : ∀ {as cs dss}, NL G as cs dss → NL G' as cs dss
  | _, _, _, .nil => .nil
  | _, _, _, .cons h t => .cons (dpAll_up e h) (t.up e)
theorem NL.len {G : Hp} : ∀ {as cs dss}, NL G as cs dss → as.length = dss.length
  | _, _, _, .nil => rfl
  | _, _, _, .cons _ t => by rw [List.length_cons, List.length_cons, t.len]
theorem NL.at_ {G : Hp} {ds : List PyData} : ∀ {as cs dss} {j : Nat}, NL G as cs dss → dss[j]? = some ds → ∃ b vs A B, as[j]? = some b ∧ cs = A ++ (b, HO.lst vs) :: B ∧ DqAll G vs ds ∧ ∀ G' vs' ds', Same G G' → DqAll G' vs' ds' → NL G' as (A ++ (b, HO.lst vs') :: B) (dss.set j ds')
  | _, _, _, 0, .cons (a := a) (vs := vs) (cs := cs) h t, e => by
    have e := Option.some.inj (show some _ = some ds by simpa using e)
    subst e
    exact ⟨a, vs, [], cs, by simp, rfl, h, fun G' vs' ds' e k => .cons k (t.up e)⟩
  | _, _, _, j + 1, .cons (a := a) (vs := vs) h t, e => by
    obtain ⟨b, ws, A, B, h1, rfl, h3, h4⟩ := t.at_ (j := j) (by simpa using e)
    exact ⟨b, ws, (a, HO.lst vs) :: A, B, by simpa using h1, rfl, h3, fun G' vs' ds' e k => .cons (dpAll_up e h) (h4 G' vs' ds' e k)⟩
def oLL (dss : List (List PyData)) : Op := ⟨fun G a cs => ∃ as cs', cs = (a, HO.lst (as.map V.ref)) :: cs' ∧ NL G as cs' dss, fun e h => by
  obtain ⟨as, cs', h1, h2⟩ := h
  exact ⟨as, cs', h1, h2.up e⟩⟩
section
variable {K : PySem.W.Frag} {W : WX} {ρ : List Sl} {te tk : TE} {i : Nat}
theorem stt_out {G H : Hp} {σ : L2.St} {L0 : List Cell} {O : Op} (s : Stt G ρ σ L0 H) (hi : ρ[i]? = some (.o O)) :
    ∃ a cs, σ[i]? = some (some (.ref a)) ∧ O.p G a cs ∧ Stt G (ρ.set i .x) σ (cs ++ L0) H ∧ ∀ G' H' H2 (O' : Op) cs', Same G G' → Stt G' (ρ.set i .x) σ (cs ++ L0) H' → O'.p G' a cs' → (∀ M, Lay G' (cs ++ M) H' → Lay G' (cs' ++ M) H2) → Stt G' (ρ.set i (.o O')) σ L0 H2 := by
  obtain ⟨L, sl, la⟩ := s
  obtain ⟨a, cs, M, h1, h2, h3, h4⟩ := slots_out sl hi
  have la2 : Lay G (M ++ (cs ++ L0)) H := by
    refine la.perm ?_
    refine (h3.append_right L0).trans ?_
    rw [List.append_assoc]
    exact perm_swap _ _ _
  refine ⟨a, cs, h1, h2, ⟨M, h4.mono fun c hc => List.mem_append_right _ hc, la2⟩, fun G' H' H2 O' cs' e s' hO hl => ?_⟩
  obtain ⟨L', sl', la'⟩ := s'
  have sy := Slots.mix e h4 sl'
  have hlt : i < ρ.length := (List.getElem?_eq_some_iff.mp hi).1
  obtain ⟨L2, s2, p2⟩ := slots_in (ρ := ρ.set i (.o O')) hO (by rw [List.set_set]; exact sy) h1 (by rw [List.getElem?_set, if_pos rfl, if_pos hlt])
  refine ⟨L2, s2, ?_⟩
  have la3 : Lay G' (cs' ++ (L' ++ L0)) H2 := hl _ (la'.perm (perm_swap _ _ _))
  refine la3.perm ?_
  rw [← List.append_assoc]
  exact (p2.symm).append_right L0
theorem NL.dq {G : Hp} : ∀ {as cs dss}, NL G as cs dss → ∀ G', Same G G' → (∀ c ∈ cs, G' c.1 = some c.2) → DqAll G' (as.map V.ref) (dss.map PyData.list)
  | _, _, _, .nil, _, _, _ => .nil
  | _, _, _, .cons h t, G', e, hc => .cons (Dq.lst (hc _ (List.mem_cons_self ..)) (dpAll_up e h)) (t.dq G' e fun c k => hc c (List.mem_cons_of_mem _ k))
inductive RL (G : Hp) (L : List Cell) : List Addr → List (List PyData) → Prop
  | nil : RL G L [] []
  | cons {a vs ds as dss} : (a, HO.lst vs) ∈ L → DqAll G vs ds → RL G L as dss → RL G L (a :: as) (ds :: dss)
theorem RL.up {G G' : Hp} {L L' : List Cell} (e : Same G G') (l : ∀ c ∈ L, c ∈ L') : ∀ {as dss}, RL G L as dss → RL G' L' as dss
  | _, _, .nil => .nil
  | _, _, .cons h d t => .cons (l _ h) (dpAll_up e d) (t.up e l)
theorem RL.len {G : Hp} {L : List Cell} : ∀ {as dss}, RL G L as dss → as.length = dss.length
  | _, _, .nil => rfl
  | _, _, .cons _ _ t => by rw [List.length_cons, List.length_cons, t.len]
theorem RL.at_ {G : Hp} {L : List Cell} {ds : List PyData} : ∀ {as dss} {j : Nat}, RL G L as dss → dss[j]? = some ds → ∃ b vs, as[j]? = some b ∧ (b, HO.lst vs) ∈ L ∧ DqAll G vs ds
  | _, _, 0, .cons (a := a) (vs := vs) h d t, e => by
    have e := Option.some.inj (show some _ = some ds by simpa using e)
    subst e
    exact ⟨a, vs, by simp, h, d⟩
  | _, _, j + 1, .cons h d t, e => by
    obtain ⟨b, ws, h1, h2, h3⟩ := t.at_ (j := j) (by simpa using e)
    exact ⟨b, ws, by simpa using h1, h2, h3⟩
def bLL (dss : List (List PyData)) : Bw := ⟨fun G L v => ∃ a as, v = .ref a ∧ (a, HO.lst (as.map V.ref)) ∈ L ∧ RL G L as dss, fun e l h => by
  obtain ⟨a, as, r, q, d⟩ := h
  exact ⟨a, as, r, l _ q, d.up e l⟩⟩
structure EvNN (te : TE) (ρ : List Sl) (dss : List (List PyData)) : Prop where
  run : ∀ {G : Hp} {σ : L2.St} {L0 : List Cell} {H : Hp} (Q : VK), Stt G ρ σ L0 H →
    (∀ G' H' L a cs, Same G G' → Slots G' L0 σ ρ L → Lay G' (cs ++ (L ++ L0)) H' → (oLL dss).p G' a cs → Q (.ref a) H') → te σ H Q
theorem NL.snoc {G : Hp} {a : Addr} {vs : List V} {ds : List PyData} (h : DqAll G vs ds) : ∀ {as cs dss}, NL G as cs dss → NL G (as ++ [a]) (cs ++ [(a, HO.lst vs)]) (dss ++ [ds])
  | _, _, _, .nil => .cons h .nil
  | _, _, _, .cons h' t => .cons h' (NL.snoc h t)
theorem en_lcN {α : Type} {wi : TI} {g : TG} {vs : List Nat} {xs : List α} {en : α → PyData} {f : α → List PyData} (hi : EvI K wi ρ (xs.map en)) (hx : AllX ρ vs) (hz : xs.length ≤ 100000)
    (hb : ∀ x ∈ xs, ∃ T ρ1, EvG g T ρ (dat (en x)) ρ1 ∧ (∀ i ∈ T, i ∈ vs) ∧ Wk ρ1 ρ ∧ EvN te ρ1 (f x)) : EvNN (tLc wi g tYes te vs) ρ (xs.map f) := ⟨fun {G σ L0 H} Q s q => hi.run _ s fun G1 H1 J e1 s1 gv D hD => by
  obtain ⟨L1, sl1, la1⟩ := id s1
  refine ⟨fun i m H => m = xs.length - i ∧ i ≤ xs.length ∧ ∃ G' as cs L', Same G1 G' ∧ Slots G' L0 σ ρ L' ∧ Lay G' (L' ++ (((D, HO.lst (as.map V.ref)) :: cs) ++ L0)) H ∧ NL G' as cs ((xs.take i).map f), ⟨xs.length, by simp, Nat.zero_le _, G1, [], [], L1, Same.refl _, sl1, ?_, .nil⟩, ?_⟩
  · exact (la1.cell hD).perm List.perm_middle.symm
  rintro i m H2 ⟨rfl, hi, G2, as, cs, L2', e2, sl2, la2, d2⟩
  have la2' : Lay G2 ((L2' ++ ((D, HO.lst (as.map V.ref)) :: cs)) ++ L0) H2 := by
    rw [List.append_assoc]
    exact la2
  by_cases hlt : i < xs.length
  · right
    have hxe : xs[i]? = some xs[i] := List.getElem?_eq_getElem hlt
    obtain ⟨gg1, g2⟩ := gv.go i G2 _ H2 e2 la2' (by simpa using hlt)
    refine ⟨gg1, fun H => ∃ G' as cs L', Same G1 G' ∧ Slots G' L0 σ ρ L' ∧ Lay G' (L' ++ (((D, HO.lst (as.map V.ref)) :: cs) ++ L0)) H ∧ NL G' as cs ((xs.take (i + 1)).map f), fun H' ⟨G', as, cs, L', a, b, c, d⟩ => ⟨xs.length - (i + 1), by omega, rfl, hlt, G', as, cs, L', a, b, c, d⟩, fun x H3 y => ?_⟩
    obtain ⟨G3, e3, l3, d3⟩ := g2 x H3 y
    have d3 : Dq G3 x (en xs[i]) := by simpa using d3
    have la3 : Lay G3 (L2' ++ (((D, HO.lst (as.map V.ref)) :: cs) ++ L0)) H3 := by
      have := l3 _ la2'
      rw [List.append_assoc] at this
      exact this
    obtain ⟨T, ρ1, hg, hT, hwk, hf⟩ := hb xs[i] (List.getElem_mem hlt)
    have sw : Stt G3 ρ (wipe σ vs) (((D, HO.lst (as.map V.ref)) :: cs) ++ L0) H3 := ⟨L2', ((sl2.up e3).mono fun c hc => List.mem_append_right _ hc).agree (wipe_length σ vs) (wipe_agree hx), la3⟩
    refine hg.run x _ sw d3 fun G4 σ4 H4 e4 s4 w4 => ?_
    have hw4 : wipe σ4 vs = wipe σ vs := by
      rw [w4 vs hT]
      apply List.ext_getElem?
      intro j
      rw [wipe_get, wipe_get]
      by_cases hj : j ∈ vs
      · simp only [if_pos hj]
        cases σ[j]? <;> rfl
      · simp only [if_neg hj]
    refine ⟨hw4, ?_⟩
    show te σ4 H4 _
    refine hf.run _ s4 fun G5 H5 p ws e5 s5 hp dv => ?_
    obtain ⟨G6, e6, L6, sl6, la6⟩ := s5.weak hwk
    have sl6' := sl6.agree (σ' := σ) (len_two hw4).symm fun j hj => (wipe_two hx hw4 j hj).symm
    have slF : Slots G6 L0 σ ρ L6 := (sl2.up e3).mix ((e4.trans e5).trans e6) sl6'
    have la7 : Lay G6 ((p, HO.lst ws) :: (L6 ++ (((D, HO.lst (as.map V.ref)) :: cs) ++ L0))) (upd H5 p (.lst ws)) := la6.cell hp
    have hDm : (D, HO.lst (as.map V.ref)) ∈ (p, HO.lst ws) :: (L6 ++ (((D, HO.lst (as.map V.ref)) :: cs) ++ L0)) := by simp
    refine ⟨as.map V.ref, (la7.on _ hDm).1, ?_, G6, as ++ [p], cs ++ [(p, HO.lst ws)], L6, e2.trans (e3.trans ((e4.trans e5).trans e6)), slF, ?_, ?_⟩
    · rw [List.length_map, d2.len, List.length_map, List.length_take]
      exact Nat.lt_of_lt_of_le (by omega : _ < 100001) (by decide)
    · have pm : ((p, HO.lst ws) :: (L6 ++ (((D, HO.lst (as.map V.ref)) :: cs) ++ L0))).Perm ((D, HO.lst (as.map V.ref)) :: (L6 ++ ((cs ++ [(p, HO.lst ws)]) ++ L0))) := by
        refine (List.perm_middle (l₁ := (p, HO.lst ws) :: L6) (a := (D, HO.lst (as.map V.ref))) (l₂ := cs ++ L0)).trans ?_
        refine List.Perm.cons _ ?_
        have h1 : (L6 ++ ((cs ++ [(p, HO.lst ws)]) ++ L0)) = (L6 ++ cs) ++ (p, HO.lst ws) :: L0 := by simp
        rw [h1]
        refine List.Perm.trans ?_ List.perm_middle.symm
        simp
      have pm2 : ((D, HO.lst ((as ++ [p]).map V.ref)) :: (L6 ++ ((cs ++ [(p, HO.lst ws)]) ++ L0))).Perm (L6 ++ (((D, HO.lst ((as ++ [p]).map V.ref)) :: (cs ++ [(p, HO.lst ws)])) ++ L0)) := List.perm_middle.symm
      have := ((la7.perm pm).store (u := HO.lst ((as ++ [p]).map V.ref))).perm pm2
      rw [List.map_append] at this ⊢
      exact this
    · have e7 : xs.take (i + 1) = xs.take i ++ [xs[i]] := by rw [List.take_add_one, hxe]; rfl
      rw [e7, List.map_append]
      exact NL.snoc (dpAll_up e6 dv) (d2.up (e3.trans ((e4.trans e5).trans e6)))
  · left
    have ei : i = xs.length := by omega
    subst ei
    refine ⟨gv.stop _ G2 _ H2 e2 la2' (by simp), ?_⟩
    rw [List.take_length] at d2
    refine q G2 H2 L2' D ((D, HO.lst (as.map V.ref)) :: cs) (e1.trans e2) sl2 (la2.perm ?_) ⟨as, cs, rfl, d2⟩
    exact perm_swap _ _ _⟩
end
end Z

set_option Elab.async false
set_option linter.all false
set_option maxRecDepth 100000
set_option maxHeartbeats 2000000
namespace Z
open PySem PySem.Spec PyProof.Rows L2
def dGet {β : Type} (kvs : List (Int × β)) (k : Int) : Option β := (kvs.find? fun kv => decide (kv.1 = k)).map (·.2)
def dPut {β : Type} (kvs : List (Int × β)) (k : Int) (v : β) : List (Int × β) :=
  if (kvs.any fun kv => decide (kv.1 = k)) = true then kvs.map (fun kv => if kv.1 = k then (kv.1, v) else kv) else kvs ++ [(k, v)]
inductive DkAll (G : Hp) : List (Key × V) → List (Int × PyData) → Prop
  | nil : DkAll G [] []
  | cons {i : Int} {v d ws kvs} : Dq G v d → DkAll G ws kvs → DkAll G ((.inl i, v) :: ws) ((i, d) :: kvs)
theorem DkAll.up {G G' : Hp} (e : Same G G') : ∀ {ws kvs}, DkAll G ws kvs → DkAll G' ws kvs
  | _, _, .nil => .nil
  | _, _, .cons h t => .cons (dp_up e h) (t.up e)
theorem DkAll.len {G : Hp} : ∀ {ws kvs}, DkAll G ws kvs → ws.length = kvs.length
  | _, _, .nil => rfl
  | _, _, .cons h t => by rw [List.length_cons, List.length_cons, t.len]
theorem DkAll.any {G : Hp} {k : Int} : ∀ {ws kvs}, DkAll G ws kvs → (ws.any fun kv => decide (kv.1 = (.inl k : Key))) = (kvs.any fun kv => decide (kv.1 = k))
  | _, _, .nil => rfl
  | _, _, .cons (i := i) h t => by
    rw [List.any_cons, List.any_cons, t.any]
    congr 1
    by_cases e : i = k
    · subst e; simp
    · have : ¬ (Sum.inl i : Key) = .inl k := fun z => e (by injection z)
      simp [e, this]
theorem DkAll.get {G : Hp} {k : Int} : ∀ {ws kvs}, DkAll G ws kvs → (dGet kvs k = none ∧ valV ws (.inl k : Key) = none) ∨ ∃ v d, dGet kvs k = some d ∧ valV ws (.inl k : Key) = some v ∧ Dq G v d
  | _, _, .nil => .inl ⟨rfl, rfl⟩
  | _, _, .cons (i := i) (v := v) (d := d) h t => by
    by_cases e : i = k
    · subst e
      exact .inr ⟨v, d, by simp [dGet], valV_pos rfl, h⟩
    · have e2 : ¬ (Sum.inl i : Key) = .inl k := fun z => e (by injection z)
      rcases t.get (k := k) with ⟨h1, h2⟩ | ⟨v', d', h1, h2, h3⟩
      · refine .inl ⟨?_, by rw [valV_neg e2]; exact h2⟩
        unfold dGet at h1 ⊢
        rw [List.find?_cons, decide_eq_false e]
        exact h1
      · refine .inr ⟨v', d', ?_, by rw [valV_neg e2]; exact h2, h3⟩
        unfold dGet at h1 ⊢
        rw [List.find?_cons, decide_eq_false e]
        exact h1
theorem DkAll.map {G : Hp} {k : Int} {v : V} {d : PyData} (h : Dq G v d) : ∀ {ws kvs}, DkAll G ws kvs → DkAll G (ws.map fun kv => if kv.1 = (.inl k : Key) then (kv.1, v) else kv) (kvs.map fun kv => if kv.1 = k then (kv.1, d) else kv)
  | _, _, .nil => .nil
  | _, _, .cons (i := i) q t => by
    rw [List.map_cons, List.map_cons]
    by_cases e : i = k
    · subst e
      rw [if_pos rfl, if_pos rfl]
      exact .cons h (t.map h)
    · have e2 : ¬ (Sum.inl i : Key) = .inl k := fun z => e (by injection z)
      rw [if_neg e, if_neg e2]
      exact .cons q (t.map h)
theorem DkAll.app {G : Hp} {k : Int} {v : V} {d : PyData} (h : Dq G v d) : ∀ {ws kvs}, DkAll G ws kvs → DkAll G (ws ++ [(.inl k, v)]) (kvs ++ [(k, d)])
  | _, _, .nil => .cons h .nil
  | _, _, .cons q t => .cons q (t.app h)
theorem DkAll.put {G : Hp} {k : Int} {v : V} {d : PyData} (h : Dq G v d) {ws kvs} (a : DkAll G ws kvs) : DkAll G (putK ws (.inl k) v) (dPut kvs k d) := by
  unfold putK dPut
  rw [a.any]
  by_cases c : (kvs.any fun kv => decide (kv.1 = k)) = true
  · rw [if_pos c, if_pos c]; exact a.map h
  · rw [if_neg c, if_neg c]; exact a.app h
def oDk (kvs : List (Int × PyData)) : Op := ⟨fun G a cs => ∃ ws, cs = [(a, HO.dK ws)] ∧ DkAll G ws kvs, fun e h => by
  obtain ⟨ws, r, d⟩ := h
  exact ⟨ws, r, d.up e⟩⟩
section
variable {K : PySem.W.Frag} {W : WX} {ρ : List Sl} {te tk tz : TE} {i l : Nat}
theorem ev_getD {kvs : List (Int × PyData)} {k : Int} {d : PyData} (hi : ρ[i]? = some (.o (oDk kvs))) (hk : Ev tk ρ (pu (dI k))) (hd : dGet kvs k = some d) : Ev (tDGet (tVar i) tk) ρ (pu (dat d)) := Ev.pure fun {G σ L0 H} Q s q => by
  obtain ⟨a, cs, e, _⟩ := s.get_o hi
  refine ⟨_, e, ?_⟩
  refine hk.atp s fun G2 H2 w e2 s2 r2 => ?_
  cases r2
  obtain ⟨a', cs', e', ⟨ws, hcs', hd'⟩, hh', _⟩ := s2.get_o hi
  rw [e] at e'
  injection e' with e'; injection e' with e'; injection e' with e'
  subst e' hcs'
  rcases hd'.get (k := k) with ⟨h1, _⟩ | ⟨v, d', h1, h2, h3⟩
  · rw [h1] at hd; cases hd
  · rw [h1] at hd; cases hd
    refine ⟨a, v, rfl, .inl ⟨ws, .inl k, .inl (hh' _ (List.mem_cons_self ..)), rfl, h2.symm⟩, q _ _ _ e2 s2 h3⟩
theorem en_lrg2 {m n : Int} (h : Ev te ρ (pu (dI m))) (h2 : Ev tk ρ (pu (dI n))) (hm : m.natAbs < 1000000) (hn : n.natAbs < 1000000) : EvN (tLstRg (tRg2 te tk)) ρ (irange m (n - m).toNat) := ⟨fun Q s q => h.atp s fun G1 H1 v e1 s1 r1 => h2.atp s1 fun G2 H2 v2 e2 s2 r2 => by
  cases r1
  cases r2
  refine ⟨m, n, rfl, rfl, ⟨by omega, by omega, by omega, by omega, by omega⟩, fun p hp => q G2 H2 p _ (e1.trans e2) s2 hp ?_⟩
  unfold rgV irange
  have : ∀ l : List Nat, DqAll G2 (l.map fun i => V.int (m + (i : Nat))) (l.map fun k => PyData.int (m + (k : Nat))) := by
    intro l
    induction l with
    | nil => exact .nil
    | cons a l ih => exact .cons (.int _) ih
  exact this _⟩
end
end Z

set_option Elab.async false
set_option linter.all false
set_option maxRecDepth 100000
set_option maxHeartbeats 2000000
namespace Z
open PySem PySem.Spec PyProof.Rows L2
inductive Cp where
  | v (d : PyData) | l (ds : List PyData)
def Cp.d : Cp → PyData
  | .v d => d
  | .l ds => .list ds
inductive CL (G : Hp) : List V → List Cell → List Cp → Prop
  | nil : CL G [] [] []
  | v {x d xs cs ps} : Dq G x d → CL G xs cs ps → CL G (x :: xs) cs (.v d :: ps)
  | l {a vs ds xs cs ps} : DqAll G vs ds → CL G xs cs ps → CL G (V.ref a :: xs) ((a, HO.lst vs) :: cs) (.l ds :: ps)
theorem CL.up {G G' : Hp} (e : Same G G') : ∀ {xs cs ps}, CL G xs cs ps → CL G' xs cs ps
  | _, _, _, .nil => .nil
  | _, _, _, .v h t => .v (dp_up e h) (t.up e)
  | _, _, _, .l h t => .l (dpAll_up e h) (t.up e)
theorem CL.len {G : Hp} : ∀ {xs cs ps}, CL G xs cs ps → xs.length = ps.length
  | _, _, _, .nil => rfl
  | _, _, _, .v _ t => by rw [List.length_cons, List.length_cons, t.len]
  | _, _, _, .l _ t => by rw [List.length_cons, List.length_cons, t.len]
theorem CL.at_ {G : Hp} {ds : List PyData} : ∀ {xs cs ps} {j : Nat}, CL G xs cs ps → ps[j]? = some (.l ds) → ∃ b vs A B, xs[j]? = some (V.ref b) ∧ cs = A ++ (b, HO.lst vs) :: B ∧ DqAll G vs ds ∧ ∀ G' vs' ds', Same G G' → DqAll G' vs' ds' → CL G' xs (A ++ (b, HO.lst vs') :: B) (ps.set j (.l ds'))
  | _, _, _, 0, .v h t, e => by simp at e
  | _, _, _, 0, .l (a := a) (vs := vs) (cs := cs) h t, e => by
    have e : Cp.l _ = Cp.l ds := Option.some.inj (show some _ = some (Cp.l ds) by simpa using e)
    cases e
    exact ⟨a, vs, [], cs, by simp, rfl, h, fun G' vs' ds' e k => .l k (t.up e)⟩
  | _, _, _, j + 1, .v h t, e => by
    obtain ⟨b, ws, A, B, h1, rfl, h3, h4⟩ := t.at_ (j := j) (by simpa using e)
    exact ⟨b, ws, A, B, by simpa using h1, rfl, h3, fun G' vs' ds' e k => .v (dp_up e h) (h4 G' vs' ds' e k)⟩
  | _, _, _, j + 1, .l (a := a) (vs := vs) h t, e => by
    obtain ⟨b, ws, A, B, h1, rfl, h3, h4⟩ := t.at_ (j := j) (by simpa using e)
    exact ⟨b, ws, (a, HO.lst vs) :: A, B, by simpa using h1, rfl, h3, fun G' vs' ds' e k => .l (dpAll_up e h) (h4 G' vs' ds' e k)⟩
theorem CL.dq {G : Hp} : ∀ {xs cs ps}, CL G xs cs ps → ∀ G', Same G G' → (∀ c ∈ cs, G' c.1 = some c.2) → DqAll G' xs (ps.map Cp.d)
  | _, _, _, .nil, _, _, _ => .nil
  | _, _, _, .v h t, G', e, hc => .cons (dp_up e h) (t.dq G' e hc)
  | _, _, _, .l h t, G', e, hc => .cons (Dq.lst (hc _ (List.mem_cons_self ..)) (dpAll_up e h)) (t.dq G' e fun c k => hc c (List.mem_cons_of_mem _ k))
def oTC (ps : List Cp) : Op := ⟨fun G a cs => ∃ xs, G a = some (.tup xs) ∧ CL G xs cs ps, fun e h => by
  obtain ⟨xs, h1, h2⟩ := h
  exact ⟨xs, e _ _ h1, h2.up e⟩⟩
section
variable {K : PySem.W.Frag} {W : WX} {ρ : List Sl} {te tk : TE} {i : Nat}
theorem perm_mid {A B M : List Cell} {d : Cell} : ((A ++ d :: B) ++ M).Perm (d :: ((A ++ B) ++ M)) := by
  have h1 : (A ++ d :: B).Perm (d :: (A ++ B)) := List.perm_middle
  exact h1.append_right M
theorem stt_on {G H : Hp} {ρ : List Sl} {σ : L2.St} {L0 cs : List Cell} (s : Stt G ρ σ (cs ++ L0) H) : ∀ c ∈ cs, H c.1 = some c.2 := fun c hc => by
  obtain ⟨L', _, la'⟩ := s
  exact (la'.on c (List.mem_append_right _ (List.mem_append_left _ hc))).1
theorem Ex.appendT {ps : List Cp} {ds : List PyData} {d : PyData} {k : Int} {j : Nat} {T : String} (hi : ρ[i]? = some (.o (oTC ps))) (hk : Ev tk ρ (pu (dI k))) (hj : ixN ps.length k = some j) (hd : ps[j]? = some (.l ds)) (he : Ev te (ρ.set i .x) (pu (dat d))) (hz : ds.length < 1000000) (hT : T = "list") :
    Ex W (tDrop (tBM K T rAppend (tOp (rIxT K) (tVar i) tk) (tCons te tNil))) ρ (.nx (ρ.set i (.o (oTC (ps.set j (.l (ds ++ [d]))))))) := ⟨fun {G σ L0 H} D s q => by
  obtain ⟨a, cs, e, _⟩ := s.get_o hi
  refine ⟨_, e, ?_⟩
  refine hk.atp s fun G1 H1 w e1 s1 r1 => ?_
  cases r1
  obtain ⟨a', cs', e', ⟨xs, hG, hN⟩, s2, back⟩ := stt_out s1 hi
  rw [e] at e'
  injection e' with e'; injection e' with e'; injection e' with e'
  subst e'
  obtain ⟨b, vs, A, B, hb, hc1, hdv, hset⟩ := hN.at_ hd
  subst hc1
  have hat : atI xs k = some (V.ref b) := by
    unfold atI
    rw [hN.len, hj]
    exact hb
  refine ⟨a, xs, k, _, rfl, rfl, .inl (.inl (s2.same _ _ hG)), hat, .inl ⟨hT, vs, .inl (.inl (stt_on s2 (b, HO.lst vs) (by simp)))⟩, ?_⟩
  refine he.atp s2 fun G2 H2 v e2 s3 r2 => ?_
  refine ⟨b, vs, v, rfl, rfl, stt_on s3 (b, HO.lst vs) (by simp), ?_, ?_⟩
  · rw [dpAll_len hdv]; exact Nat.lt_trans hz (by decide)
  · refine q G2 _ _ (e1.trans e2) (back G2 H2 _ (oTC (ps.set j (.l (ds ++ [d])))) _ e2 s3 ⟨xs, e2 _ _ hG, hset G2 (vs ++ [v]) (ds ++ [d]) e2 (dpAll_app (dpAll_up e2 hdv) (.cons r2 .nil))⟩ fun M l => ?_)
    exact ((l.perm perm_mid).store).perm perm_mid.symm⟩
theorem set_back {α : Type} {l : List α} {i : Nat} {a : α} (h : l[i]? = some a) : l.set i a = l := by
  apply List.ext_getElem?
  intro j
  rw [List.getElem?_set]
  by_cases e : i = j
  · subst e
    rw [if_pos rfl, if_pos (List.getElem?_eq_some_iff.mp h).1, h]
  · rw [if_neg e]
structure EvTC (ta : TA) (ρ : List Sl) (ps : List Cp) : Prop where
  run : ∀ {G : Hp} {σ : L2.St} {L0 : List Cell} {H : Hp} (Q : List V → Hp → Prop), Stt G ρ σ L0 H →
    (∀ G' H' xs cs, Same G G' → Stt G' ρ σ (cs ++ L0) H' → CL G' xs cs ps → Q xs H') → ta σ H Q
theorem tc_nil : EvTC tNil ρ [] := ⟨fun Q s q => q _ _ [] [] (Same.refl _) s .nil⟩
theorem tc_l {tr : TA} {ds : List PyData} {ps : List Cp} (h : EvN te ρ ds) (t : EvTC tr ρ ps) : EvTC (tCons te tr) ρ (.l ds :: ps) := ⟨fun {G σ L0 H} Q s q => h.run _ s fun G1 H1 p vs e1 s1 hp dv => by
  obtain ⟨L1, sl1, la1⟩ := s1
  have s2 : Stt G1 ρ σ ((p, HO.lst vs) :: L0) (upd H1 p (.lst vs)) := ⟨L1, sl1.mono fun c hc => List.mem_cons_of_mem _ hc, (la1.cell hp).perm List.perm_middle.symm⟩
  refine t.run _ s2 fun G2 H2 xs cs e2 s3 hc => ?_
  obtain ⟨L3, sl3, la3⟩ := s3
  refine q G2 H2 (V.ref p :: xs) ((p, HO.lst vs) :: cs) (e1.trans e2) ⟨L3, sl3.mono fun c hc => ?_, la3.perm ?_⟩ (.l (dpAll_up e2 dv) hc)
  · simp only [List.mem_append, List.mem_cons] at hc ⊢
    rcases hc with h | h | h
    · exact .inl (.inr h)
    · exact .inl (.inl h)
    · exact .inr h
  · refine List.Perm.append_left L3 ?_
    show (cs ++ (p, HO.lst vs) :: L0).Perm ((p, HO.lst vs) :: (cs ++ L0))
    exact List.perm_middle⟩
theorem tc_v {tr : TA} {d : PyData} {ps : List Cp} (h : Ev te ρ (pu (dat d))) (t : EvTC tr ρ ps) : EvTC (tCons te tr) ρ (.v d :: ps) := ⟨fun {G σ L0 H} Q s q => h.atp s fun G1 H1 v e1 s1 r1 => t.run _ s1 fun G2 H2 xs cs e2 s2 hc => q G2 H2 (v :: xs) cs (e1.trans e2) s2 (.v (dp_up e2 r1) hc)⟩
end
end Z

set_option Elab.async false
set_option linter.all false
set_option maxRecDepth 100000
set_option maxHeartbeats 2000000
namespace Z
open PySem PySem.Spec PyProof.Rows L2
inductive Fv where
  | d (x : PyData) | l (ds : List PyData)
def Fv.data : Fv → PyData
  | .d x => x
  | .l ds => .list ds
inductive FldsW (G : Hp) : List (Str × V) → List (Str × Fv) → List Cell → Prop
  | nil : FldsW G [] [] []
  | d {f v x fv fs cs} : Dq G v x → FldsW G fv fs cs → FldsW G ((f, v) :: fv) ((f, .d x) :: fs) cs
  | l {f a vs ds fv fs cs} : DqAll G vs ds → FldsW G fv fs cs → FldsW G ((f, V.ref a) :: fv) ((f, .l ds) :: fs) ((a, HO.lst vs) :: cs)
theorem FldsW.up {G G' : Hp} (e : Same G G') : ∀ {fv fs cs}, FldsW G fv fs cs → FldsW G' fv fs cs
  | _, _, _, .nil => .nil
  | _, _, _, .d h t => .d (dp_up e h) (t.up e)
  | _, _, _, .l h t => .l (dpAll_up e h) (t.up e)
theorem FldsW.len {G : Hp} : ∀ {fv fs cs}, FldsW G fv fs cs → fv.length = fs.length
  | _, _, _, .nil => rfl
  | _, _, _, .d _ t => by rw [List.length_cons, List.length_cons, t.len]
  | _, _, _, .l _ t => by rw [List.length_cons, List.length_cons, t.len]
theorem FldsW.no {G : Hp} {f : Str} : ∀ {fv fs cs}, FldsW G fv fs cs → fs.lookup f = none → fv.lookup f = none
  | _, _, _, .nil, _ => rfl
  | _, _, _, .d (f := g) q t, h => by
    unfold List.lookup at h ⊢
    cases e : f == g with
    | true => rw [e] at h; cases h
    | false => rw [e] at h; exact t.no h
  | _, _, _, .l (f := g) q t, h => by
    unfold List.lookup at h ⊢
    cases e : f == g with
    | true => rw [e] at h; cases h
    | false => rw [e] at h; exact t.no h
inductive FldsB (G : Hp) (L : List Cell) : List (Str × V) → List (Str × Fv) → Prop
  | nil : FldsB G L [] []
  | d {f v x fv fs} : Dq G v x → FldsB G L fv fs → FldsB G L ((f, v) :: fv) ((f, .d x) :: fs)
  | l {f v ds fv fs} : (bL ds).p G L v → FldsB G L fv fs → FldsB G L ((f, v) :: fv) ((f, .l ds) :: fs)
theorem FldsB.up {G G' : Hp} {L L' : List Cell} (e : Same G G') (k : ∀ c ∈ L, c ∈ L') : ∀ {fv fs}, FldsB G L fv fs → FldsB G' L' fv fs
  | _, _, .nil => .nil
  | _, _, .d h t => .d (dp_up e h) (t.up e k)
  | _, _, .l h t => .l (Bw.up _ e k h) (t.up e k)
theorem FldsW.bo {G : Hp} {L : List Cell} : ∀ {fv fs cs}, FldsW G fv fs cs → (∀ c ∈ cs, c ∈ L) → FldsB G L fv fs
  | _, _, _, .nil, _ => .nil
  | _, _, _, .d h t, k => .d h (t.bo k)
  | _, _, _, .l (a := a) (vs := vs) h t, k => .l ⟨a, vs, rfl, .inr (k _ (List.mem_cons_self ..)), h⟩ (t.bo fun c hc => k c (List.mem_cons_of_mem _ hc))
theorem FldsB.no {G : Hp} {L : List Cell} {f : Str} : ∀ {fv fs}, FldsB G L fv fs → fs.lookup f = none → fv.lookup f = none
  | _, _, .nil, _ => rfl
  | _, _, .d (f := g) q t, h => by
    unfold List.lookup at h ⊢
    cases e : f == g with
    | true => rw [e] at h; cases h
    | false => rw [e] at h; exact t.no h
  | _, _, .l (f := g) q t, h => by
    unfold List.lookup at h ⊢
    cases e : f == g with
    | true => rw [e] at h; cases h
    | false => rw [e] at h; exact t.no h
def pairR (A B : Rp) : Rp := ⟨fun G v => ∃ t x y, v = .ref t ∧ G t = some (.tup [x, y]) ∧ A.p G x ∧ B.p G y, fun e h => by
  obtain ⟨t, x, y, h1, h2, h3, h4⟩ := h
  exact ⟨t, x, y, h1, e _ _ h2, A.up e h3, B.up e h4⟩⟩
def oW (C : Addr) (oa : Option Addr) (fs : List (Str × Fv)) : Op := ⟨fun G b cs => (∀ a, oa = some a → b = a) ∧ ∃ dx fv ks, cs = (b, HO.ins C dx fv) :: ks ∧ FldsW G fv fs ks, fun e h => by
  obtain ⟨h0, dx, fv, ks, h1, h2⟩ := h
  exact ⟨h0, dx, fv, ks, h1, h2.up e⟩⟩
def bW (C : Addr) (fs : List (Str × Fv)) : Bw := ⟨fun G L v => ∃ a dx fv, v = .ref a ∧ (G a = some (.ins C dx fv) ∨ (a, HO.ins C dx fv) ∈ L) ∧ FldsB G L fv fs, fun e k h => by
  obtain ⟨a, dx, fv, h1, h2, h3⟩ := h
  exact ⟨a, dx, fv, h1, h2.elim (fun z => .inl (e _ _ z)) (fun z => .inr (k _ z)), h3.up e k⟩⟩
section
variable {K : PySem.W.Frag} {W : WX} {ρ : List Sl} {te tk : TE} {i : Nat} {C : Addr} {oa : Option Addr} {fs : List (Str × Fv)} {f : Str}
theorem stt_obj {G H : Hp} {σ : L2.St} {L0 : List Cell} (s : Stt G ρ σ L0 H) (hi : ρ[i]? = some (.o (oW C oa fs))) :
    ∃ a dx fv ks M, σ[i]? = some (some (.ref a)) ∧ H a = some (.ins C dx fv) ∧ FldsW G fv fs ks ∧ Lay G (((a, HO.ins C dx fv) :: ks) ++ (M ++ L0)) H ∧ (∀ a', oa = some a' → a = a') ∧
      ∀ G' H' fs' dx' fv' ks' X, Same G G' → Lay G' (((a, HO.ins C dx' fv') :: ks') ++ (X ++ (M ++ L0))) H' → FldsW G' fv' fs' ks' → ∃ G2, Same G' G2 ∧ Stt G2 (ρ.set i (.o (oW C oa fs'))) σ L0 H' := by
  obtain ⟨L, sl, la⟩ := s
  obtain ⟨a, cs, M, h1, ⟨h0, dx, fv, ks, hcs, hf⟩, h3, h4⟩ := slots_out sl hi
  subst hcs
  have la3 : Lay G (((a, HO.ins C dx fv) :: ks) ++ (M ++ L0)) H := la.perm (by
    refine (h3.append_right L0).trans ?_
    rw [List.append_assoc])
  refine ⟨a, dx, fv, ks, M, h1, (la3.on _ (List.mem_cons_self ..)).1, hf, la3, h0, fun G' H' fs' dx' fv' ks' X e l hf' => ?_⟩
  have l3 : Lay G' (X ++ ((((a, HO.ins C dx' fv') :: ks')) ++ (M ++ L0))) H' := l.perm (perm_swap _ _ _)
  obtain ⟨G2, e4, l4, _⟩ := l3.freezeAll
  have hlt : i < ρ.length := (List.getElem?_eq_some_iff.mp hi).1
  obtain ⟨L2, s5, p5⟩ := slots_in (ρ := ρ.set i (.o (oW C oa fs'))) (O := oW C oa fs') (cs := (a, HO.ins C dx' fv') :: ks') ⟨h0, dx', fv', ks', rfl, hf'.up e4⟩ (by rw [List.set_set]; exact h4.up (e.trans e4)) h1 (by rw [List.getElem?_set, if_pos rfl, if_pos hlt])
  exact ⟨G2, e4, L2, s5, l4.perm (by
    rw [← List.append_assoc]
    exact (p5.symm).append_right L0)⟩
end
end Z

set_option Elab.async false
set_option linter.all false
set_option maxRecDepth 100000
set_option maxHeartbeats 2000000
namespace R
open PySem PySem.Spec PyProof.Rows L2 Z
inductive Vl where
  | d (x : PyData) | s (xs : List Int) | i (C : Addr) (fs : List (Str × PyData)) | p (a b : Vl)
abbrev Vl.int (n : Int) : Vl := .d (.int n)
abbrev Vl.bool (b : Bool) : Vl := .d (.bool b)
inductive Rs (α : Type) where
  | ok (a : α) | ex (C : Addr) (n : Int) | no
def Rs.bind {α β : Type} : Rs α → (α → Rs β) → Rs β
  | .ok a, f => f a
  | .ex C n, _ => .ex C n
  | .no, _ => .no
def Rs.of {α : Type} : Option α → Rs α
  | some a => .ok a
  | none => .no
inductive Av where
  | v (a : Vl) | l (ds : List PyData) | o (C : Addr) (fs : List (Str × Fv))
inductive Pn where
  | x | v (a : Vl) | bl (ds : List PyData) | ll (dss : List (List PyData)) | oo (o : Option (List PyData))
def ooD : Option (List PyData) → PyData
  | none => .none
  | some ds => .list ds
def Pn.vl : Pn → Option Vl
  | .x => none
  | .v a => some a
  | .bl _ => none
  | .ll dss => some (.d (.list (dss.map .list)))
  | .oo o => some (.d (ooD o))
def otD : Option (List Cp) → PyData
  | none => .none
  | some ps => .tuple (ps.map Cp.d)
inductive Ow where
  | l (ds : List PyData) | ll (dss : List (List PyData)) | ob (C : Addr) (fs : List (Str × Fv)) | tc (ps : List Cp)
def Ow.op : Ow → Op
  | .l ds => oL ds
  | .ll dss => oLL dss
  | .ob C fs => oW C none fs
  | .tc ps => oTC ps
inductive Sv where
  | x | v (a : Vl) | bl (ds : List PyData) | ol (ds : List PyData) | er (a d : Addr) (n : Int) | oi (C a : Addr) (fs : List (Str × PyData)) | bll (dss : List (List PyData)) | oll (dss : List (List PyData)) | odk (kvs : List (Int × PyData)) | otc (ps : List Cp) | pin (u : V) (p : Pn) | oo (o : Option (List PyData)) | ob (C : Addr) (oa : Option Addr) (fs : List (Str × Fv)) | bo (C : Addr) (fs : List (Str × Fv)) | oto (o : Option (List Cp))
section
variable (K : PySem.W.Frag)
def vr : Vl → Rp
  | .d x => dat x
  | .s xs => scR K xs
  | .i C fs => insR C (fs.map fun p => (p.1, dat p.2))
  | .p a b => pairR (vr a) (vr b)
def bw : Av → Bw
  | .v a => pu (vr K a)
  | .l ds => bL ds
  | .o C fs => bW C fs
def sl : Sv → Sl
  | .x => .x
  | .v a => .p (vr K a)
  | .bl ds => .b (bL ds)
  | .ol ds => .o (oL ds)
  | .er a d n => .p (errR a d n)
  | .oi C a fs => .o (oI C a (fs.map fun p => (p.1, dat p.2)))
  | .bll dss => .b (bLL dss)
  | .oll dss => .o (oLL dss)
  | .odk kvs => .o (oDk kvs)
  | .otc ps => .o (oTC ps)
  | .ob C oa fs => .o (oW C oa fs)
  | .bo C fs => .b (bW C fs)
  | .oo none => .p (dat .none)
  | .oo (some ds) => .o (oL ds)
  | .oto none => .p (dat .none)
  | .oto (some ps) => .o (oTC ps)
  | .pin u .x => .p ⟨fun _ v => v = u, fun _ h => h⟩
  | .pin u (.ll dss) => .p ⟨fun G v => v = u ∧ (dat (.list (dss.map .list))).p G v, fun e h => ⟨h.1, (dat _).up e h.2⟩⟩
  | .pin u (.oo o) => .p ⟨fun G v => v = u ∧ (dat (ooD o)).p G v, fun e h => ⟨h.1, (dat _).up e h.2⟩⟩
  | .pin u (.v a) => .p ⟨fun G v => v = u ∧ (vr K a).p G v, fun e h => ⟨h.1, (vr K a).up e h.2⟩⟩
  | .pin u (.bl ds) => .b ⟨fun G L v => v = u ∧ (bL ds).p G L v, fun e l h => ⟨h.1, (bL ds).up e l h.2⟩⟩
def sls (st : List Sv) : List Sl := st.map (sl K)
end
inductive Md where
  | out (E : XK) | tr (W : WX) | qu
def Md.fits : Md → WX → Prop
  | .out E, W => W = WofE E
  | .tr W', W => W = W'
  | .qu, _ => True
def Md.loud : Md → Bool
  | .qu => false
  | _ => true
def EvXg {β : Type} (W : WX) (t : L2.St → Hp → β → Prop) (ρ : List Sl) (C : Addr) (n : Int) : Prop :=
  ∀ {G : Hp} {σ : L2.St} {L0 : List Cell} {H : Hp} (Q : β), Stt G ρ σ L0 H → (∀ G' H' d, Same G G' → Stt G' ρ σ L0 H' → H' d = none → W (.ref C) (some d) σ (upd H' d (atF n))) → t σ H Q
def Cm {α β : Type} (md : Md) (t : L2.St → Hp → β → Prop) (ρ : List Sl) (P : α → Prop) : Rs α → Prop
  | .ok a => P a
  | .ex C n => md.loud = true → ∀ W, md.fits W → EvXg W t ρ C n
  | .no => True
structure XE (K : PySem.W.Frag) where
  te : Md → TE
  ev : List Sv → Rs Vl
  el : List Sv → Option (List PyData)
  es : List Sv → Option (List PyData)
  ok : ∀ md st, Cm md (te md) (sls K st) (fun a => Ev (te md) (sls K st) (pu (vr K a))) (ev st)
  okl : ∀ md st ds, el st = some ds → Ev (te md) (sls K st) (bL ds)
  oks : ∀ md st ds, es st = some ds → EvS K (te md) (sls K st) ds
structure XN (K : PySem.W.Frag) where
  te : Md → TE
  ev : List Sv → Rs (List PyData)
  ok : ∀ md st, Cm md (te md) (sls K st) (fun ds => EvN (te md) (sls K st) ds) (ev st)
structure XT (K : PySem.W.Frag) where
  tt : Md → TT
  ev : List Sv → Rs Bool
  ok : ∀ md st, Cm md (tt md) (sls K st) (fun b => EvT (tt md) (sls K st) b) (ev st)
structure XA (K : PySem.W.Frag) where
  ta : Md → TA
  ev : List Sv → Rs (List Av)
  ok : ∀ md st, Cm md (ta md) (sls K st) (fun as => EvA (ta md) (sls K st) (as.map (bw K))) (ev st)
structure XO (K : PySem.W.Frag) where
  to : Md → TO
  ev : List Sv → Rs (Option Int)
  ok : ∀ md st, Cm md (to md) (sls K st) (fun k => EvO (to md) (sls K st) k) (ev st)
structure XI (K : PySem.W.Frag) where
  ti : Md → TI
  ev : List Sv → Rs (List PyData)
  ok : ∀ md st, Cm md (ti md) (sls K st) (fun ds => EvI K (ti md) (sls K st) ds) (ev st)
def agree (T : List Nat) (st st' : List Sv) : Prop := st'.length = st.length ∧ ∀ j, j ∉ T → st'[j]? = st[j]?
structure XG (K : PySem.W.Frag) where
  tg : TG
  T : List Nat
  ev : PyData → List Sv → Option (List Sv)
  ok : ∀ d st st', ev d st = some st' → EvG tg T (sls K st) (dat d) (sls K st') ∧ agree T st st'
structure XGs (K : PySem.W.Frag) where
  tg : TGs
  n : Nat
  T : List Nat
  ev : List PyData → List Sv → Option (List Sv)
  ok : ∀ ds st st', ev ds st = some st' → EvGs tg T (sls K st) ds (sls K st') ∧ agree T st st' ∧ ds.length = n
section
variable {K : PySem.W.Frag}
def asL : Vl → Option (List PyData)
  | .d (.list ds) => some ds
  | _ => none
def asS : Vl → Option (List PyData)
  | .d (.list ds) => some ds
  | .s xs => some (xs.map .int)
  | _ => none
def okV {α : Type} : Rs α → Option α
  | .ok a => some a
  | _ => none
theorem okV_some {α : Type} {r : Rs α} {a : α} (h : okV r = some a) : r = .ok a := by
  cases r with
  | ok b => cases h; rfl
  | ex _ _ => cases h
  | no => cases h
theorem asL_ev {md : Md} {te : TE} {ρ : List Sl} {a : Vl} {ds : List PyData} (h : asL a = some ds) (e : Ev te ρ (pu (vr K a))) : Ev te ρ (bL ds) := by
  cases a with
  | s _ => cases h
  | i _ _ => cases h
  | p _ _ => cases h
  | d x =>
    cases x with
    | list es => cases h; exact Ev.bl e
    | _ => cases h
theorem asS_ev {te : TE} {ρ : List Sl} {a : Vl} {ds : List PyData} (h : asS a = some ds) (e : Ev te ρ (pu (vr K a))) : EvS K te ρ ds := by
  cases a with
  | s _ => cases h; exact ev_sS e
  | i _ _ => cases h
  | p _ _ => cases h
  | d x =>
    cases x with
    | list es => cases h; exact Ev.s e
    | _ => cases h
def XE.of (te : Md → TE) (ev : List Sv → Rs Vl) (ok : ∀ md st, Cm md (te md) (sls K st) (fun a => Ev (te md) (sls K st) (pu (vr K a))) (ev st)) : XE K where
  te := te
  ev := ev
  el := fun st => (okV (ev st)).bind asL
  es := fun st => (okV (ev st)).bind asS
  ok := ok
  okl := fun md st ds h => by
    obtain ⟨a, h1, h2⟩ := Option.bind_eq_some_iff.mp h
    have := ok md st
    rw [okV_some h1] at this
    exact asL_ev (K := K) (md := md) h2 this
  oks := fun md st ds h => by
    obtain ⟨a, h1, h2⟩ := Option.bind_eq_some_iff.mp h
    have := ok md st
    rw [okV_some h1] at this
    exact asS_ev h2 this
theorem sls_get {st : List Sv} {i : Nat} {s : Sv} (h : st[i]? = some s) : (sls K st)[i]? = some (sl K s) := by
  unfold sls
  rw [List.getElem?_map, h]
  rfl
theorem sls_set {st : List Sv} {i : Nat} {s : Sv} : sls K (st.set i s) = (sls K st).set i (sl K s) := by
  unfold sls
  rw [List.map_set]
theorem sls_len {st : List Sv} : (sls K st).length = st.length := by
  unfold sls
  rw [List.length_map]
def Pn.el : Pn → Option (List PyData)
  | .bl ds => some ds
  | p => p.vl.bind asL
def Pn.es : Pn → Option (List PyData)
  | .bl ds => some ds
  | p => p.vl.bind asS
theorem pin_ev {st : List Sv} {i : Nat} {u : V} {p : Pn} {a : Vl} (h : st[i]? = some (.pin u p)) (hp : p.vl = some a) : Ev (tVar i) (sls K st) (pu (vr K a)) := by
  have h := sls_get (K := K) h
  cases p with
  | x => cases hp
  | bl _ => cases hp
  | v a => cases hp; exact (ev_var (R := ⟨fun G v => v = u ∧ (vr K a).p G v, fun e h => ⟨h.1, (vr K a).up e h.2⟩⟩) h).imp fun G L v r => r.2
  | ll dss => cases hp; exact (ev_var (R := ⟨fun G v => v = u ∧ (dat (.list (dss.map .list))).p G v, fun e h => ⟨h.1, (dat _).up e h.2⟩⟩) h).imp fun G L v r => r.2
  | oo o => cases hp; exact (ev_var (R := ⟨fun G v => v = u ∧ (dat (ooD o)).p G v, fun e h => ⟨h.1, (dat _).up e h.2⟩⟩) h).imp fun G L v r => r.2
theorem es_bp {ρ : List Sl} {B : Bw} {i : Nat} {ds : List PyData} (h : ρ[i]? = some (.b B)) (k : ∀ G L v, B.p G L v → (bL ds).p G L v) : EvS K (tVar i) ρ ds := ⟨fun Q s q => by
  obtain ⟨v, e, r⟩ := s.get_b h
  obtain ⟨a, vs, rfl, hc, d⟩ := k _ _ _ r
  exact ⟨_, e, q _ _ a vs (Same.refl _) s (fun G'' L'' H'' e2 l => .inl (.inl (hc.elim (fun z => l.same _ _ (e2 _ _ z)) fun z => (l.on _ (List.mem_append_right _ z)).1))) d⟩⟩
def XE.var (i : Nat) : XE K where
  te := fun _ => tVar i
  ev := fun st => match st[i]? with
    | some (.v a) => .ok a
    | some (.pin _ p) => Rs.of p.vl
    | _ => .no
  el := fun st => match st[i]? with
    | some (.v a) => asL a
    | some (.bl ds) => some ds
    | some (.ol ds) => some ds
    | some (.pin _ p) => p.el
    | _ => none
  es := fun st => match st[i]? with
    | some (.v a) => asS a
    | some (.bl ds) => some ds
    | some (.pin _ p) => p.es
    | _ => none
  ok := fun md st => by
    cases h : st[i]? with
    | none => trivial
    | some s =>
      cases s with
      | v a => exact ev_var (sls_get (K := K) h)
      | pin u p =>
        cases hp : p.vl with
        | some a => simp only [hp]; exact pin_ev h hp
        | none => simp only [hp]; trivial
      | _ => trivial
  okl := fun md st ds => by
    cases h : st[i]? with
    | none => intro z; cases z
    | some s =>
      cases s with
      | v a => exact fun z => asL_ev (K := K) (md := md) z (ev_var (sls_get (K := K) h))
      | bl es => intro z; cases z; exact ev_b (sls_get (K := K) h)
      | ol es => intro z; cases z; exact ev_o (sls_get (K := K) h)
      | pin u p =>
        cases p with
        | v a => exact fun z => asL_ev (K := K) (md := md) z (pin_ev h rfl)
        | ll dss => exact fun z => asL_ev (K := K) (md := md) (a := .d (.list (dss.map .list))) z (pin_ev h rfl)
        | oo o => exact fun z => asL_ev (K := K) (md := md) (a := .d (ooD o)) z (pin_ev h rfl)
        | bl es => intro z; cases z; exact (ev_b (sls_get (K := K) h)).imp fun G L v r => r.2
        | x => intro z; cases z
      | _ => intro z; cases z
  oks := fun md st ds => by
    cases h : st[i]? with
    | none => intro z; cases z
    | some s =>
      cases s with
      | v a => exact fun z => asS_ev z (ev_var (sls_get (K := K) h))
      | bl es => intro z; cases z; exact es_b (sls_get (K := K) h)
      | pin u p =>
        cases p with
        | v a => exact fun z => asS_ev z (pin_ev h rfl)
        | ll dss => exact fun z => asS_ev (a := .d (.list (dss.map .list))) z (pin_ev h rfl)
        | oo o => exact fun z => asS_ev (a := .d (ooD o)) z (pin_ev h rfl)
        | bl es => intro z; cases z; exact es_bp (sls_get (K := K) h) fun G L v r => r.2
        | x => intro z; cases z
      | _ => intro z; cases z
def XE.int (n : Int) : XE K := .of (fun _ => tC (.int n)) (fun _ => .ok (.d (.int n))) fun _ _ => ev_int
def XE.bool (b : Bool) : XE K := .of (fun _ => tC (.bl b)) (fun _ => .ok (.d (.bool b))) fun _ _ => ev_bl
def XE.non : XE K := .of (fun _ => tC .non) (fun _ => .ok (.d .none)) fun _ _ => ev_non
def XE.str (s : Str) : XE K := .of (fun _ => tC (.str s)) (fun _ => .ok (.d (.str s))) fun _ _ => ev_str
def XE.av (k : Bool) (e : XE K) (st : List Sv) : Rs Av :=
  match k with
  | true => match e.el st with
    | some ds => .ok (.l ds)
    | none => match e.ev st with
      | .ex C n => .ex C n
      | _ => .no
  | false => (e.ev st).bind fun a => .ok (.v a)
theorem XE.av_ok (k : Bool) (e : XE K) (md : Md) (st : List Sv) : Cm md (e.te md) (sls K st) (fun x => Ev (e.te md) (sls K st) (bw K x)) (e.av k st) := by
  unfold XE.av
  have h := e.ok md st
  cases k with
  | false =>
    cases he : e.ev st with
    | ok a => rw [he] at h; exact h
    | ex C n => rw [he] at h; exact h
    | no => trivial
  | true =>
    cases hl : e.el st with
    | some ds => exact e.okl md st ds hl
    | none =>
      cases he : e.ev st with
      | ok a => trivial
      | ex C n => rw [he] at h; exact h
      | no => trivial
theorem Cm.bind {α α' β β' : Type} {md : Md} {t : L2.St → Hp → β → Prop} {t' : L2.St → Hp → β' → Prop} {ρ : List Sl} {P : α → Prop} {P' : α' → Prop} {r : Rs α} {f : α → Rs α'} (h : Cm md t ρ P r)
    (hx : ∀ C n W, EvXg W t ρ C n → EvXg W t' ρ C n) (hk : ∀ a, P a → Cm md t' ρ P' (f a)) : Cm md t' ρ P' (r.bind f) := by
  cases r with
  | ok a => exact hk a h
  | ex C n => exact fun l W w => hx C n W (h l W w)
  | no => trivial
theorem Cm.imp {α β : Type} {md : Md} {t : L2.St → Hp → β → Prop} {ρ : List Sl} {P P' : α → Prop} {r : Rs α} (h : Cm md t ρ P r) (k : ∀ a, P a → P' a) : Cm md t ρ P' r := by
  cases r with
  | ok a => exact k a h
  | ex C n => exact h
  | no => trivial
structure O2 (K : PySem.W.Frag) where
  r : R2
  ka : Bool
  kb : Bool
  f : Av → Av → Option Vl
  ok : ∀ x y z, f x y = some z → Op2 r (bw K x) (bw K y) (vr K z)
def XE.op (o : O2 K) (a b : XE K) : XE K := .of (fun md => tOp o.r (a.te md) (b.te md))
  (fun st => (a.av o.ka st).bind fun x => (b.av o.kb st).bind fun y => Rs.of (o.f x y))
  fun md st => (a.av_ok o.ka md st).bind (fun C n W h => fun Q s q => h _ s q) fun x hx =>
    (b.av_ok o.kb md st).bind (fun C n W h => fun {G σ L0 H} Q s q => hx.run _ s fun G1 H1 v e1 s1 _ => h _ s1 fun G2 H2 d e2 s2 hd => q G2 H2 d (e1.trans e2) s2 hd) fun y hy => by
      cases hf : o.f x y with
      | none => trivial
      | some z => exact ev_op hx hy (o.ok x y z hf)
structure O2N (K : PySem.W.Frag) where
  r : R2
  ka : Bool
  kb : Bool
  f : Av → Av → Option (List PyData)
  ok : ∀ x y z, f x y = some z → Op2N r (bw K x) (bw K y) z
def XN.op (o : O2N K) (a b : XE K) : XN K where
  te := fun md => tOp o.r (a.te md) (b.te md)
  ev := fun st => (a.av o.ka st).bind fun x => (b.av o.kb st).bind fun y => Rs.of (o.f x y)
  ok := fun md st => (a.av_ok o.ka md st).bind (fun C n W h => fun Q s q => h _ s q) fun x hx =>
    (b.av_ok o.kb md st).bind (fun C n W h => fun {G σ L0 H} Q s q => hx.run _ s fun G1 H1 v e1 s1 _ => h _ s1 fun G2 H2 d e2 s2 hd => q G2 H2 d (e1.trans e2) s2 hd) fun y hy => by
      cases hf : o.f x y with
      | none => trivial
      | some z => exact ev_opN hx hy (o.ok x y z hf)
def XN.e (a : XN K) : XE K := .of a.te (fun st => (a.ev st).bind fun ds => .ok (.d (.list ds))) fun md st => (a.ok md st).bind (fun _ _ _ h => h) fun ds h => EvN.ev h
def XE.neg (a : XE K) : XE K := .of (fun md => tUn (rU fun i => .int (-i)) (a.te md))
  (fun st => (a.ev st).bind fun x => match x with
    | .d (.int i) => .ok (.d (.int (-i)))
    | _ => .no)
  fun md st => (a.ok md st).bind (fun C n W h => fun Q s q => h _ s q) fun x hx => by
    cases x with
    | s _ => trivial
    | i _ _ => trivial
    | p _ _ => trivial
    | d x =>
      cases x with
      | int i => exact ev_neg hx
      | _ => trivial
def bOf : Vl → Option Bool
  | .d (.bool b) => some b
  | _ => none
theorem bOf_some {x : Vl} {b : Bool} (h : bOf x = some b) : x = .d (.bool b) := by
  cases x with
  | s _ => cases h
  | i _ _ => cases h
  | p _ _ => cases h
  | d x =>
    cases x with
    | bool c => cases h; rfl
    | _ => cases h
def XE.bv (e : XE K) (st : List Sv) : Rs Bool := (e.ev st).bind fun x => Rs.of (bOf x)
theorem XE.bv_ok (e : XE K) (md : Md) (st : List Sv) : Cm md (e.te md) (sls K st) (fun b => Ev (e.te md) (sls K st) (pu (dB b))) (e.bv st) :=
  (e.ok md st).bind (fun _ _ _ h => h) fun x hx => by
    cases h : bOf x with
    | none => trivial
    | some b => rw [bOf_some h] at hx; exact hx
end
end R

set_option Elab.async false
set_option linter.all false
set_option maxRecDepth 100000
set_option maxHeartbeats 2000000
namespace R
open PySem PySem.Spec PyProof.Rows L2 Z
section
variable {K : PySem.W.Frag}
def XT.test (e : XE K) : XT K where
  tt := fun md => tTest (e.te md)
  ev := fun st => e.bv st
  ok := fun md st => by
    have h := e.bv_ok md st
    cases he : e.bv st with
    | ok b => rw [he] at h; exact et_test h
    | ex C n => rw [he] at h; exact fun l W w => fun Q s q => h l W w _ s q
    | no => trivial
def XT.B (e : XE K) : XT K where
  tt := fun md => tB (e.te md)
  ev := fun st => e.bv st
  ok := fun md st => by
    have h := e.bv_ok md st
    cases he : e.bv st with
    | ok b => rw [he] at h; exact et_B h
    | ex C n => rw [he] at h; exact fun l W w => fun Q s q => h l W w _ s q
    | no => trivial
def XT.and (a b : XT K) : XT K where
  tt := fun md => tAnd (a.tt md) (b.tt md)
  ev := fun st => (a.ev st).bind fun x => match x with
    | true => b.ev st
    | false => .ok false
  ok := fun md st => (a.ok md st).bind (fun C n W h => fun Q s q => h _ s q) fun x hx => by
    cases x with
    | false => exact et_and (b := false) hx (fun z => nomatch z)
    | true =>
      have hb := b.ok md st
      show Cm md _ _ _ (b.ev st)
      cases he : b.ev st with
      | ok y => rw [he] at hb; exact et_and hx fun _ => hb
      | ex C n =>
        rw [he] at hb
        exact fun l W w => fun {G σ L0 H} Q s q => hx.run _ s fun G1 H1 e1 s1 => by
          rw [if_pos rfl]
          exact hb l W w _ s1 fun G2 H2 d e2 s2 hd => q G2 H2 d (e1.trans e2) s2 hd
      | no => trivial
def XT.or (a b : XT K) : XT K where
  tt := fun md => tOr (a.tt md) (b.tt md)
  ev := fun st => (a.ev st).bind fun x => match x with
    | false => b.ev st
    | true => .ok true
  ok := fun md st => (a.ok md st).bind (fun C n W h => fun Q s q => h _ s q) fun x hx => by
    cases x with
    | true => exact et_or (b := true) hx (fun z => nomatch z)
    | false =>
      have hb := b.ok md st
      show Cm md _ _ _ (b.ev st)
      cases he : b.ev st with
      | ok y => rw [he] at hb; exact et_or hx fun _ => hb
      | ex C n =>
        rw [he] at hb
        exact fun l W w => fun {G σ L0 H} Q s q => hx.run _ s fun G1 H1 e1 s1 => by
          rw [if_neg (by decide)]
          exact hb l W w _ s1 fun G2 H2 d e2 s2 hd => q G2 H2 d (e1.trans e2) s2 hd
      | no => trivial
def XT.not (a : XT K) : XT K where
  tt := fun md => tNot (a.tt md)
  ev := fun st => (a.ev st).bind fun x => .ok (!x)
  ok := fun md st => (a.ok md st).bind (fun C n W h => fun Q s q => h _ s q) fun x hx => et_not hx
def XT.truthL (e : XE K) : XT K where
  tt := fun md => tTruth K (e.te md)
  ev := fun st => Rs.of ((e.el st).map fun ds => !ds.isEmpty)
  ok := fun md st => by
    cases h : e.el st with
    | none => trivial
    | some ds => exact et_truthL (e.okl md st ds h)
def XT.yes : XT K where
  tt := fun _ => tYes
  ev := fun _ => .ok true
  ok := fun md st => ⟨fun Q s q => q _ _ (Same.refl _) s⟩
def XE.ife (t : XT K) (a b : XE K) : XE K := .of (fun md => tIf (t.tt md) (a.te md) (b.te md))
  (fun st => (t.ev st).bind fun x => match x with
    | true => a.ev st
    | false => b.ev st)
  fun md st => (t.ok md st).bind (fun C n W h => fun Q s q => h _ s q) fun x hx => by
    cases x with
    | true =>
      have ha := a.ok md st
      show Cm md _ _ _ (a.ev st)
      cases he : a.ev st with
      | ok y => rw [he] at ha; exact ev_if hx (fun _ => ha) (fun z => nomatch z)
      | ex C n =>
        rw [he] at ha
        exact fun l W w => fun {G σ L0 H} Q s q => hx.run _ s fun G1 H1 e1 s1 => by
          rw [if_pos rfl]
          exact ha l W w _ s1 fun G2 H2 d e2 s2 hd => q G2 H2 d (e1.trans e2) s2 hd
      | no => trivial
    | false =>
      have hb := b.ok md st
      show Cm md _ _ _ (b.ev st)
      cases he : b.ev st with
      | ok y => rw [he] at hb; exact ev_if hx (fun z => nomatch z) (fun _ => hb)
      | ex C n =>
        rw [he] at hb
        exact fun l W w => fun {G σ L0 H} Q s q => hx.run _ s fun G1 H1 e1 s1 => by
          rw [if_neg (by decide)]
          exact hb l W w _ s1 fun G2 H2 d e2 s2 hd => q G2 H2 d (e1.trans e2) s2 hd
      | no => trivial
def XE.chain (o o' : O2 K) (a b c : XE K) : XE K := .of (fun md => tChain o.r o'.r (a.te md) (b.te md) (c.te md))
  (fun st => (a.av o.ka st).bind fun x => (b.av o.kb st).bind fun y => match (o.f x y).bind bOf with
    | some false => .ok (.d (.bool false))
    | some true => match okV (c.av o'.kb st) with
      | some w => Rs.of (((o'.f y w).bind bOf).map fun k => .d (.bool k))
      | none => .no
    | none => .no)
  fun md st => (a.av_ok o.ka md st).bind (fun C n W h => fun Q s q => h _ s q) fun x hx =>
    (b.av_ok o.kb md st).bind (fun C n W h => fun {G σ L0 H} Q s q => hx.run _ s fun G1 H1 v e1 s1 _ => h _ s1 fun G2 H2 d e2 s2 hd => q G2 H2 d (e1.trans e2) s2 hd) fun y hy => by
      have ho : ∀ k, (o.f x y).bind bOf = some k → Op2 o.r (bw K x) (bw K y) (dB k) := fun k h => by
        obtain ⟨z, h1, h2⟩ := Option.bind_eq_some_iff.mp h
        have := o.ok x y z h1
        rw [bOf_some h2] at this
        exact this
      cases hf : (o.f x y).bind bOf with
      | none => simp only [hf]; trivial
      | some k =>
        cases k with
        | false => simp only [hf]; exact ev_chain (a := false) (b := false) (Bc := pu (dB true)) (r' := o'.r) hx hy (fun z => nomatch z) (ho _ hf) (fun z => nomatch z)
        | true =>
          simp only [hf]
          cases hc : okV (c.av o'.kb st) with
          | none => simp only; trivial
          | some w =>
            have hcv := c.av_ok o'.kb md st
            rw [okV_some hc] at hcv
            simp only
            cases hg : (o'.f y w).bind bOf with
            | none => trivial
            | some k2 =>
              obtain ⟨z, h1, h2⟩ := Option.bind_eq_some_iff.mp hg
              have h3 := o'.ok y w z h1
              rw [bOf_some h2] at h3
              exact ev_chain hx hy (fun _ => hcv) (ho _ hf) (fun _ => h3)
end
end R

set_option Elab.async false
set_option linter.all false
set_option maxRecDepth 100000
set_option maxHeartbeats 2000000
namespace R
open PySem PySem.Spec PyProof.Rows L2 Z
section
variable {K : PySem.W.Frag}
def XA.nil : XA K where
  ta := fun _ => tNil
  ev := fun _ => .ok []
  ok := fun md st => ea_nil
def XA.cons (k : Bool) (e : XE K) (r : XA K) : XA K where
  ta := fun md => tCons (e.te md) (r.ta md)
  ev := fun st => (e.av k st).bind fun x => (r.ev st).bind fun xs => .ok (x :: xs)
  ok := fun md st => (e.av_ok k md st).bind (fun C n W h => fun Q s q => h _ s q) fun x hx =>
    (r.ok md st).bind (fun C n W h => fun {G σ L0 H} Q s q => hx.run _ s fun G1 H1 v e1 s1 _ => h _ s1 fun G2 H2 d e2 s2 hd => q G2 H2 d (e1.trans e2) s2 hd) fun xs hxs => ea_cons hx hxs
def avD : List Av → Option (List PyData)
  | [] => some []
  | .v (.d x) :: r => (avD r).map (x :: ·)
  | _ => none
theorem avD_bw : ∀ {as : List Av} {ds : List PyData}, avD as = some ds → as.map (bw K) = ds.map fun d => pu (dat d)
  | [], ds, h => by cases h; rfl
  | .v (.d x) :: r, ds, h => by
    obtain ⟨ds', h1, h2⟩ := Option.map_eq_some_iff.mp (show (avD r).map (x :: ·) = some ds from h)
    subst h2
    rw [List.map_cons, List.map_cons, avD_bw h1]
    rfl
  | .v (.s _) :: r, ds, h => by cases h
  | .v (.i _ _) :: r, ds, h => by cases h
  | .l _ :: r, ds, h => by cases h
def XA.dev (as : XA K) (st : List Sv) : Rs (List PyData) := (as.ev st).bind fun xs => match avD xs with
  | some ds => if ds.length ≤ 1000 then .ok ds else .no
  | none => .no
theorem XA.dev_ok (as : XA K) (md : Md) (st : List Sv) : Cm md (as.ta md) (sls K st) (fun ds => EvA (as.ta md) (sls K st) (ds.map fun d => pu (dat d)) ∧ ds.length ≤ 1000) (as.dev st) :=
  (as.ok md st).bind (fun _ _ _ h => h) fun xs hx => by
    cases h : avD xs with
    | none => simp only; trivial
    | some ds =>
      rw [avD_bw h] at hx
      simp only
      split
      · exact ⟨hx, by assumption⟩
      · trivial
def XE.tup (as : XA K) : XE K := .of (fun md => tTup (as.ta md)) (fun st => (as.dev st).bind fun ds => .ok (.d (.tuple ds)))
  fun md st => (as.dev_ok md st).bind (fun C n W h => fun Q s q => h _ s q) fun ds h => ev_tup h.1 h.2
def XN.lst (as : XA K) : XN K where
  te := fun md => tLst (as.ta md)
  ev := fun st => as.dev st
  ok := fun md st => by
    have h := as.dev_ok md st
    cases he : as.dev st with
    | ok ds => rw [he] at h; exact en_lst h.1 h.2
    | ex C n => rw [he] at h; exact fun l W w => fun Q s q => h l W w _ s q
    | no => trivial
structure Bi (K : PySem.W.Frag) where
  r : List V → Hp → VK → Prop
  f : List Av → Option Vl
  ok : ∀ as z, f as = some z → Cl r (as.map (bw K)) (vr K z)
def XE.bi (b : Bi K) (as : XA K) : XE K := .of (fun md => tCB b.r (as.ta md)) (fun st => (as.ev st).bind fun xs => Rs.of (b.f xs))
  fun md st => (as.ok md st).bind (fun C n W h => fun Q s q => h _ s q) fun xs h => by
    cases hf : b.f xs with
    | none => trivial
    | some z => exact ev_cb h (b.ok xs z hf)
structure BiN (K : PySem.W.Frag) where
  r : List V → Hp → VK → Prop
  f : List Av → Option (List PyData)
  ok : ∀ as z, f as = some z → ClN r (as.map (bw K)) z
def XN.bi (b : BiN K) (as : XA K) : XN K where
  te := fun md => tCB b.r (as.ta md)
  ev := fun st => (as.ev st).bind fun xs => Rs.of (b.f xs)
  ok := fun md st => (as.ok md st).bind (fun C n W h => fun Q s q => h _ s q) fun xs h => by
    cases hf : b.f xs with
    | none => trivial
    | some z => exact en_cb h (b.ok xs z hf)
structure Fn where
  m : Nat
  own : Bool
  f : List Av → Rs Vl
def resOf (K : PySem.W.Frag) (own : Bool) : Rs Vl → Res
  | .ok a => match own with
    | true => match asL a with
      | some ds => .own (oL ds)
      | none => .ok (vr K a)
    | false => .ok (vr K a)
  | .ex C n => .err C n
  | .no => .ok (dat .none)
def Fn.sp (K : PySem.W.Frag) (F : Fn) : Sp := SpA (α := {xs : List Av // xs.length = F.m}) (fun x => F.f x.1 ≠ .no) (fun x => x.1.map (bw K)) (fun x => resOf K F.own (F.f x.1))
def callT (md : Md) (sp : Sp) (t : TA) : TE := match md with
  | .out E => tCall sp [] E t
  | .tr W => tCallS sp (WE W) t
  | .qu => tCall sp [] (fun _ _ _ => False) t
theorem call_any {sp : Sp} {t : TA} {ρ : List Sl} {md : Md} {R : Rp} (h : ∀ E, Ev (tCall sp [] E t) ρ (pu R)) (h2 : ∀ E, Ev (tCallS sp E t) ρ (pu R)) : Ev (callT md sp t) ρ (pu R) := by
  cases md with
  | out E => exact h E
  | tr W => exact h2 _
  | qu => exact h _
theorem en_callS {α : Type} {pre : α → Prop} {A : α → List Bw} {F : α → Res} {tr : TA} {ρ : List Sl} {ds : List PyData} {E : L2.St → XK} (x : α) (ha : EvA tr ρ (A x)) (hp : pre x) (hR : F x = .own (oL ds)) : EvN (tCallS (SpA pre A F) E tr) ρ ds := ⟨fun {G σ L0 H} Q s q => ha.at s fun G1 H1 vs L e1 sl la r => by
  refine ⟨x, G1, L ++ L0, hp, la, r, ?_⟩
  rw [hR]
  intro G2 H2 a2 cs e2 l2 ro
  obtain ⟨ws, hcs, d⟩ := ro
  subst hcs
  obtain ⟨H3, hn3, rfl, l3⟩ := Lay.uncell l2
  exact q G2 H3 _ ws (e1.trans e2) ⟨L, sl.up e2, l3⟩ hn3 d⟩
theorem call_args (F : Fn) (as : XA K) (md : Md) (ρ : List Sl) (xs : List Av) (hm : xs.length = F.m) (h : EvA (as.ta md) ρ (xs.map (bw K))) : Cm md (callT md (F.sp K) (as.ta md)) ρ (fun a => match F.own with
    | true => ∃ ds, a = .d (.list ds) ∧ EvN (callT md (F.sp K) (as.ta md)) ρ ds
    | false => Ev (callT md (F.sp K) (as.ta md)) ρ (pu (vr K a))) (match F.f xs, F.own with
    | .ok a, true => (match asL a with
      | some ds => .ok a
      | none => .no)
    | r, _ => r) := by
  cases hf : F.f xs with
  | no => simp only; trivial
  | ex C n =>
    simp only
    intro l W w
    have hR : resOf K F.own (F.f xs) = .err C n := by rw [hf]; rfl
    cases md with
    | qu => cases l
    | out E =>
      subst w
      exact fun {G σ L0 H} Q s q => (ex_call (α := {xs : List Av // xs.length = F.m}) (A := fun x => x.1.map (bw K)) (F := fun x => resOf K F.own (F.f x.1)) (pre := fun x => F.f x.1 ≠ .no) ⟨xs, hm⟩ h (by rw [hf]; exact fun z => by cases z) hR).run Q s q
    | tr W' =>
      subst w
      exact fun {G σ L0 H} Q s q => (ex_callS (α := {xs : List Av // xs.length = F.m}) (A := fun x => x.1.map (bw K)) (F := fun x => resOf K F.own (F.f x.1)) (pre := fun x => F.f x.1 ≠ .no) ⟨xs, hm⟩ h (by rw [hf]; exact fun z => by cases z) hR).run Q s q
  | ok a =>
    cases ho : F.own with
    | false =>
      simp only
      have hR : resOf K F.own (F.f xs) = .ok (vr K a) := by rw [hf, ho]; rfl
      exact call_any (fun E => ev_call (α := {xs : List Av // xs.length = F.m}) (A := fun x => x.1.map (bw K)) (F := fun x => resOf K F.own (F.f x.1)) (pre := fun x => F.f x.1 ≠ .no) ⟨xs, hm⟩ h (by rw [hf]; exact fun z => by cases z) hR)
        (fun E => ev_callS (α := {xs : List Av // xs.length = F.m}) (A := fun x => x.1.map (bw K)) (F := fun x => resOf K F.own (F.f x.1)) (pre := fun x => F.f x.1 ≠ .no) ⟨xs, hm⟩ h (by rw [hf]; exact fun z => by cases z) hR)
    | true =>
      simp only
      cases hl : asL a with
      | none => simp only; trivial
      | some ds =>
        simp only
        have hR : resOf K F.own (F.f xs) = .own (oL ds) := by rw [hf, ho]; unfold resOf; simp only [hl]
        refine ⟨ds, ?_, ?_⟩
        · cases a with
          | s _ => cases hl
          | i _ _ => cases hl
          | p _ _ => cases hl
          | d x => cases x with
            | list es => cases hl; rfl
            | _ => cases hl
        · cases md with
          | out E => exact en_call (α := {xs : List Av // xs.length = F.m}) (A := fun x => x.1.map (bw K)) (F := fun x => resOf K F.own (F.f x.1)) (pre := fun x => F.f x.1 ≠ .no) ⟨xs, hm⟩ h (by rw [hf]; exact fun z => by cases z) hR
          | tr W => exact en_callS (α := {xs : List Av // xs.length = F.m}) (A := fun x => x.1.map (bw K)) (F := fun x => resOf K F.own (F.f x.1)) (pre := fun x => F.f x.1 ≠ .no) ⟨xs, hm⟩ h (by rw [hf]; exact fun z => by cases z) hR
          | qu => exact en_call (α := {xs : List Av // xs.length = F.m}) (A := fun x => x.1.map (bw K)) (F := fun x => resOf K F.own (F.f x.1)) (pre := fun x => F.f x.1 ≠ .no) ⟨xs, hm⟩ h (by rw [hf]; exact fun z => by cases z) hR
def XE.call (F : Fn) (ho : F.own = false) (as : XA K) : XE K := .of (fun md => callT md (F.sp K) (as.ta md)) (fun st => (as.ev st).bind fun xs => if xs.length = F.m then F.f xs else .no)
  fun md st => (as.ok md st).bind (fun C n W h => by
    cases md with
    | out E => exact fun Q s q => h _ s q
    | tr W => exact fun Q s q => h _ s q
    | qu => exact fun Q s q => h _ s q) fun xs h => by
    by_cases hm : xs.length = F.m
    · rw [if_pos hm]
      have := call_args F as md (sls K st) xs hm h
      rw [ho] at this
      cases hf : F.f xs with
      | no => trivial
      | ex C n => rw [hf] at this; exact this
      | ok a => rw [hf] at this; exact this
    · rw [if_neg hm]; trivial
def lOf : Vl → Rs (List PyData)
  | .d (.list ds) => .ok ds
  | _ => .no
def XN.call (F : Fn) (ho : F.own = true) (as : XA K) : XN K where
  te := fun md => callT md (F.sp K) (as.ta md)
  ev := fun st => (as.ev st).bind fun xs => if xs.length = F.m then (F.f xs).bind lOf else .no
  ok := fun md st => (as.ok md st).bind (fun C n W h => by
    cases md with
    | out E => exact fun Q s q => h _ s q
    | tr W => exact fun Q s q => h _ s q
    | qu => exact fun Q s q => h _ s q) fun xs h => by
    by_cases hm : xs.length = F.m
    · rw [if_pos hm]
      have := call_args F as md (sls K st) xs hm h
      rw [ho] at this
      cases hf : F.f xs with
      | no => trivial
      | ex C n => rw [hf] at this; exact this
      | ok a =>
        rw [hf] at this
        show Cm _ _ _ _ (lOf a)
        cases a with
        | s _ => trivial
        | i _ _ => trivial
        | p _ _ => trivial
        | d x =>
          cases x with
          | list ds =>
            obtain ⟨ds', e, h'⟩ := this
            cases e
            exact h'
          | _ => trivial
    · rw [if_neg hm]; trivial
end
end R

set_option Elab.async false
set_option linter.all false
set_option maxRecDepth 100000
set_option maxHeartbeats 2000000
namespace R
open PySem PySem.Spec PyProof.Rows L2 Z
section
variable {K : PySem.W.Frag}
def XO.none : XO K where
  to := fun _ => tNoPart
  ev := fun _ => .ok Option.none
  ok := fun _ _ => eo_none
def iOf : Vl → Option Int
  | .d (.int n) => some n
  | _ => none
theorem iOf_some {x : Vl} {n : Int} (h : iOf x = some n) : x = .d (.int n) := by
  cases x with
  | s _ => cases h
  | i _ _ => cases h
  | p _ _ => cases h
  | d x =>
    cases x with
    | int c => cases h; rfl
    | _ => cases h
def XE.iv (e : XE K) (st : List Sv) : Rs Int := (e.ev st).bind fun x => Rs.of (iOf x)
theorem XE.iv_ok (e : XE K) (md : Md) (st : List Sv) : Cm md (e.te md) (sls K st) (fun b => Ev (e.te md) (sls K st) (pu (dI b))) (e.iv st) :=
  (e.ok md st).bind (fun _ _ _ h => h) fun x hx => by
    cases h : iOf x with
    | none => trivial
    | some b => rw [iOf_some h] at hx; exact hx
def XO.some (e : XE K) : XO K where
  to := fun md => tPart (e.te md)
  ev := fun st => (e.iv st).bind fun n => .ok (Option.some n)
  ok := fun md st => (e.iv_ok md st).bind (fun C n W h => fun Q s q => h _ s q) fun n h => eo_some h
def XN.sl (e : XE K) (lo hi : XO K) : XN K where
  te := fun md => tSl (rSlL K) (e.te md) (lo.to md) (hi.to md)
  ev := fun st => match e.el st, okV (lo.ev st), okV (hi.ev st) with
    | .some ds, .some l, .some h => .ok (cutD ds l h)
    | _, _, _ => .no
  ok := fun md st => by
    cases h1 : e.el st with
    | none => simp only; trivial
    | some ds =>
      cases h2 : okV (lo.ev st) with
      | none => simp only; trivial
      | some l =>
        cases h3 : okV (hi.ev st) with
        | none => simp only; trivial
        | some u =>
          have o1 := lo.ok md st
          have o2 := hi.ok md st
          rw [okV_some h2] at o1
          rw [okV_some h3] at o2
          exact en_sl (e.okl md st ds h1) o1 o2
def XI.list (e : XE K) : XI K where
  ti := fun md => iList K (e.te md)
  ev := fun st => match e.es st with
    | .some ds => .ok ds
    | .none => match e.ev st with
      | .ex C n => .ex C n
      | _ => .no
  ok := fun md st => by
    cases h : e.es st with
    | some ds => exact ei_list (e.oks md st ds h)
    | none =>
      have := e.ok md st
      cases he : e.ev st with
      | ok a => simp only; trivial
      | no => simp only; trivial
      | ex C n => simp only; rw [he] at this; exact fun l W w => fun Q s q => this l W w _ s q
def avI1 : List Av → Option Int
  | [.v (.d (.int n))] => some n
  | _ => none
theorem avI1_some {as : List Av} {n : Int} (h : avI1 as = some n) : as = [.v (.d (.int n))] := by
  unfold avI1 at h
  split at h
  · cases h; rfl
  · cases h
def avI2 : List Av → Option (Int × Int)
  | [.v (.d (.int n)), .v (.d (.int m))] => some (n, m)
  | _ => none
theorem avI2_some {as : List Av} {n : Int × Int} (h : avI2 as = some n) : as = [.v (.d (.int n.1)), .v (.d (.int n.2))] := by
  unfold avI2 at h
  split at h
  · cases h; rfl
  · cases h
def XI.range1 (as : XA K) : XI K where
  ti := fun md => iRng1 (as.ta md)
  ev := fun st => (as.ev st).bind fun xs => match avI1 xs with
    | some n => if n.natAbs < 4611686018427387904 then .ok (irange 0 n.toNat) else .no
    | none => .no
  ok := fun md st => (as.ok md st).bind (fun C n W h => fun Q s q => h _ s q) fun xs h => by
    cases hx : avI1 xs with
    | none => simp only; trivial
    | some n =>
      rw [avI1_some hx] at h
      simp only
      split
      · rename_i hn
        exact ei_range1 h (by omega) (by omega)
      · trivial
def XI.range2 (as : XA K) : XI K where
  ti := fun md => iRng2 (as.ta md)
  ev := fun st => (as.ev st).bind fun xs => match avI2 xs with
    | some n => if n.1.natAbs < 4611686018427387904 ∧ n.2.natAbs < 4611686018427387904 then .ok (irange n.1 (n.2 - n.1).toNat) else .no
    | none => .no
  ok := fun md st => (as.ok md st).bind (fun C n W h => fun Q s q => h _ s q) fun xs h => by
    cases hx : avI2 xs with
    | none => simp only; trivial
    | some n =>
      rw [avI2_some hx] at h
      simp only
      split
      · rename_i hn
        exact ei_range2 h (by omega) (by omega) (by omega) (by omega)
      · trivial
def enumD (ds : List PyData) : List PyData := ds.zipIdx.map fun p => .tuple [.int ((p.2 : Nat) : Int), p.1]
def XI.enum (e : XE K) : XI K where
  ti := fun md => iEnum K (tCons (e.te md) tNil)
  ev := fun st => match e.es st with
    | .some ds => .ok (enumD ds)
    | .none => .no
  ok := fun md st => by
    cases h : e.es st with
    | some ds => exact ei_enum (e.oks md st ds h)
    | none => trivial
theorem agree_refl {st : List Sv} : agree [] st st := ⟨rfl, fun _ _ => rfl⟩
def XG.name (i : Nat) : XG K where
  tg := gName i
  T := [i]
  ev := fun d st => if i < st.length then some (st.set i (.v (.d d))) else none
  ok := fun d st st' h => by
    split at h
    · cases h
      refine ⟨?_, by rw [List.length_set], fun j hj => List.getElem?_set_ne (fun z => hj (by rw [z]; exact List.mem_cons_self ..))⟩
      rw [sls_set]
      exact eg_name
    · cases h
def XGs.nil : XGs K where
  tg := gNil
  n := 0
  T := []
  ev := fun ds st => match ds with
    | [] => some st
    | _ => none
  ok := fun ds st st' h => by
    cases ds with
    | nil => cases h; exact ⟨egs_nil, agree_refl, rfl⟩
    | cons _ _ => cases h
def XGs.cons (g : XG K) (r : XGs K) : XGs K where
  tg := gCons g.tg r.tg
  n := r.n + 1
  T := g.T ++ r.T
  ev := fun ds st => match ds with
    | d :: ds => (g.ev d st).bind fun st1 => r.ev ds st1
    | [] => none
  ok := fun ds st st' h => by
    cases ds with
    | nil => cases h
    | cons d ds =>
      obtain ⟨st1, h1, h2⟩ := Option.bind_eq_some_iff.mp h
      obtain ⟨a1, b1⟩ := g.ok d st st1 h1
      obtain ⟨a2, b2, c2⟩ := r.ok ds st1 st' h2
      refine ⟨egs_cons a1 a2, ⟨b2.1.trans b1.1, fun j hj => ?_⟩, by rw [List.length_cons, c2]⟩
      rw [b2.2 j (fun z => hj (List.mem_append_right _ z)), b1.2 j (fun z => hj (List.mem_append_left _ z))]
def XG.tup (gs : XGs K) : XG K where
  tg := gTup K gs.n gs.tg
  T := gs.T
  ev := fun d st => match d with
    | .tuple ds => gs.ev ds st
    | _ => none
  ok := fun d st st' h => by
    cases d with
    | tuple ds =>
      obtain ⟨a, b, c⟩ := gs.ok ds st st' h
      exact ⟨eg_tup a c, b⟩
    | _ => cases h
def XG.lst (gs : XGs K) : XG K where
  tg := gLst K gs.n gs.tg
  T := gs.T
  ev := fun d st => match d with
    | .list ds => gs.ev ds st
    | _ => none
  ok := fun d st st' h => by
    cases d with
    | list ds =>
      obtain ⟨a, b, c⟩ := gs.ok ds st st' h
      exact ⟨eg_lst a c, b⟩
    | _ => cases h
def Sv.isX : Sv → Bool
  | .x => true
  | _ => false
def allXb (st : List Sv) (vs : List Nat) : Bool := vs.all fun v => match st[v]? with
  | some s => s.isX
  | none => false
theorem allXb_ok {st : List Sv} : ∀ {vs : List Nat}, allXb st vs = true → AllX (sls K st) vs
  | [], _ => trivial
  | v :: vs, h => by
    unfold allXb at h
    rw [List.all_cons, Bool.and_eq_true] at h
    refine ⟨?_, allXb_ok h.2⟩
    have h1 := h.1
    cases hs : st[v]? with
    | none => rw [hs] at h1; cases h1
    | some s =>
      rw [hs] at h1
      cases s with
      | x => exact sls_get (K := K) hs
      | _ => cases h1
theorem allXb_at {st : List Sv} {vs : List Nat} (h : allXb st vs = true) {v : Nat} (hv : v ∈ vs) : st[v]? = some .x := by
  have := List.all_eq_true.mp h v hv
  cases hs : st[v]? with
  | none => rw [hs] at this; cases this
  | some s =>
    rw [hs] at this
    cases s with
    | x => rfl
    | _ => cases this
theorem wk_of : ∀ {ρ1 ρ : List Sl}, ρ1.length = ρ.length → (∀ j : Nat, ρ[j]? = some Sl.x ∨ ρ1[j]? = ρ[j]?) → Wk ρ1 ρ
  | [], [], _, _ => .nil
  | [], _ :: _, h, _ => by cases h
  | _ :: _, [], h, _ => by cases h
  | a :: ρ1, b :: ρ, h, k => by
    have r : Wk ρ1 ρ := wk_of (by simpa using h) fun j => by simpa using k (j + 1)
    have h0 := k 0
    simp only [List.getElem?_cons_zero] at h0
    rcases h0 with h0 | h0
    · cases h0; exact .x r
    · cases h0; exact .k r
theorem wk_agree {T vs : List Nat} {st st1 : List Sv} (a : agree T st st1) (hx : allXb st vs = true) (ht : ∀ i ∈ T, i ∈ vs) : Wk (sls K st1) (sls K st) :=
  wk_of (by rw [sls_len, sls_len, a.1]) fun j => by
    by_cases hj : j ∈ T
    · exact .inl (sls_get (K := K) (allXb_at hx (ht j hj)))
    · right
      unfold sls
      rw [List.getElem?_map, List.getElem?_map, a.2 j hj]
section
variable (g : XG K) (c : XT K) (e : XE K) (st : List Sv)
def lcOne (d : PyData) : Option (Option PyData) := (g.ev d st).bind fun st1 => match okV (c.ev st1) with
  | some false => some none
  | some true => match okV (e.ev st1) with
    | some (.d x) => some (some x)
    | _ => none
  | none => none
def lcL : List PyData → Option (List PyData)
  | [] => some []
  | d :: ds => (lcOne g c e st d).bind fun o => (lcL ds).map fun r => match o with
    | some x => x :: r
    | none => r
def lcP (d : PyData) : Bool := match lcOne g c e st d with
  | some (some _) => true
  | _ => false
def lcF (d : PyData) : PyData := match lcOne g c e st d with
  | some (some x) => x
  | _ => .none
theorem lcL_some : ∀ {ds r : List PyData}, lcL g c e st ds = some r → r = (ds.filter (lcP g c e st)).map (lcF g c e st) ∧ ∀ d ∈ ds, lcOne g c e st d ≠ none
  | [], r, h => by cases h; exact ⟨rfl, fun _ z => nomatch z⟩
  | d :: ds, r, h => by
    obtain ⟨o, h1, h2⟩ := Option.bind_eq_some_iff.mp (show (lcOne g c e st d).bind _ = some r from h)
    obtain ⟨r', h3, h4⟩ := Option.map_eq_some_iff.mp h2
    obtain ⟨i1, i2⟩ := lcL_some h3
    refine ⟨?_, fun d' hd => ?_⟩
    · cases o with
      | none =>
        have : lcP g c e st d = false := by unfold lcP; rw [h1]
        rw [List.filter_cons, this]
        simp only at h4
        rw [← h4, i1]
        rfl
      | some x =>
        have : lcP g c e st d = true := by unfold lcP; rw [h1]
        have hf : lcF g c e st d = x := by unfold lcF; rw [h1]
        rw [List.filter_cons, this]
        simp only at h4
        rw [← h4, i1, if_pos rfl, List.map_cons, hf]
    · rcases List.mem_cons.mp hd with z | z
      · rw [z, h1]; exact fun y => nomatch y
      · exact i2 d' z
end
def XN.lc (it : XI K) (g : XG K) (c : XT K) (e : XE K) (vs : List Nat) : XN K where
  te := fun md => tLc (it.ti md) g.tg (c.tt .qu) (e.te .qu) vs
  ev := fun st => (it.ev st).bind fun ds => if ds.length ≤ 100000 ∧ allXb st vs = true ∧ (g.T.all fun i => decide (i ∈ vs)) = true then Rs.of (lcL g c e st ds) else .no
  ok := fun md st => (it.ok md st).bind (fun C n W h => fun Q s q => h _ s q) fun ds h => by
    split
    · rename_i hc
      cases hl : lcL g c e st ds with
      | none => trivial
      | some r =>
        obtain ⟨h1, h2⟩ := lcL_some g c e st hl
        show EvN _ _ r
        rw [h1]
        have hts : ∀ i ∈ g.T, i ∈ vs := fun i hi => of_decide_eq_true (List.all_eq_true.mp hc.2.2 i hi)
        refine en_lc (en := id) (by rw [List.map_id]; exact h) (allXb_ok hc.2.1) hc.1 fun d hd => ?_
        have hne := h2 d hd
        cases ho : lcOne g c e st d with
        | none => exact absurd ho hne
        | some o =>
          obtain ⟨st1, g1, g2⟩ := Option.bind_eq_some_iff.mp (show (g.ev d st).bind _ = some o from ho)
          obtain ⟨eg, ag⟩ := g.ok d st st1 g1
          refine ⟨g.T, sls K st1, eg, hts, wk_agree ag hc.2.1 hts, ?_, ?_⟩
          · have hct := c.ok .qu st1
            cases hcv : okV (c.ev st1) with
            | none => rw [hcv] at g2; cases g2
            | some b =>
              rw [okV_some hcv] at hct
              refine EvT.is hct ?_
              rw [hcv] at g2
              unfold lcP
              rw [ho]
              cases b with
              | false => cases g2; rfl
              | true =>
                simp only at g2
                split at g2
                · cases g2; rfl
                · cases g2
          · intro hp
            cases hcv : okV (c.ev st1) with
            | none => rw [hcv] at g2; cases g2
            | some b =>
              rw [hcv] at g2
              unfold lcF
              unfold lcP at hp
              rw [ho] at hp ⊢
              cases b with
              | false => cases g2; cases hp
              | true =>
                simp only at g2
                have het := e.ok .qu st1
                split at g2
                · rename_i x hx
                  cases g2
                  rw [okV_some hx] at het
                  exact het
                · cases g2
    · trivial
end
end R

set_option Elab.async false
set_option linter.all false
set_option maxRecDepth 100000
set_option maxHeartbeats 2000000
namespace R
open PySem PySem.Spec PyProof.Rows L2 Z
inductive Oc where
  | nx (st : List Sv) | rt (a : Vl) | rw (st : List Sv) (a : Vl) | ro (w : Ow) | bk (st : List Sv) | ct (st : List Sv) | xc (st : List Sv) (C : Addr) (n : Int) | no
def OcOk (K : PySem.W.Frag) (md : Md) (W : WX) (t : TS) (ρ : List Sl) : Oc → Prop
  | .nx st => Ex W t ρ (.nx (sls K st))
  | .rt a => Ex W t ρ (.rt (vr K a))
  | .rw st a => Ex W t ρ (.rw (sls K st) (vr K a))
  | .ro w => Ex W t ρ (.ro w.op)
  | .bk st => Ex W t ρ (.bk (sls K st))
  | .ct st => Ex W t ρ (.ct (sls K st))
  | .xc st C n => md.loud = true → Ex W t ρ (.xc (sls K st) C n)
  | .no => True
structure XS (K : PySem.W.Frag) where
  ts : Md → TS
  ev : List Sv → Oc
  ok : ∀ md W st, md.fits W → OcOk K md W (ts md) (sls K st) (ev st)
section
variable {K : PySem.W.Frag}
def Rs.oc {α : Type} (st : List Sv) (k : α → Oc) : Rs α → Oc
  | .ok a => k a
  | .ex C n => .xc st C n
  | .no => .no
theorem oc_ok {α β : Type} {md : Md} {W : WX} {t : L2.St → Hp → β → Prop} {u : TS} {st : List Sv} {P : α → Prop} {r : Rs α} {k : α → Oc} (w : md.fits W) (h : Cm md t (sls K st) P r)
    (hx : ∀ C n, EvXg W t (sls K st) C n → Ex W u (sls K st) (.xc (sls K st) C n)) (hk : ∀ a, P a → OcOk K md W u (sls K st) (k a)) : OcOk K md W u (sls K st) (r.oc st k) := by
  cases r with
  | ok a => exact hk a h
  | ex C n => exact fun l => hx C n (h l W w)
  | no => trivial
def XS.nx : XS K where
  ts := fun _ => tNext
  ev := fun st => .nx st
  ok := fun md W st w => Ex.next
def XS.brk : XS K where
  ts := fun _ => tBreak
  ev := fun st => .bk st
  ok := fun md W st w => Ex.break_
def XS.seq (a b : XS K) : XS K where
  ts := fun md => tSeq (a.ts md) (b.ts md)
  ev := fun st => match a.ev st with
    | .nx st' => b.ev st'
    | o => o
  ok := fun md W st w => by
    have ha := a.ok md W st w
    cases he : a.ev st with
    | nx st' =>
      rw [he] at ha
      have hb := b.ok md W st' w
      show OcOk K md W _ _ (b.ev st')
      cases hf : b.ev st' with
      | no => trivial
      | xc s C n => rw [hf] at hb; exact fun l => Ex.seq ha (hb l)
      | nx s => rw [hf] at hb; exact Ex.seq ha hb
      | rt s => rw [hf] at hb; exact Ex.seq ha hb
      | rw s2_ s => rw [hf] at hb; exact Ex.seq ha hb
      | ro s => rw [hf] at hb; exact Ex.seq ha hb
      | bk s => rw [hf] at hb; exact Ex.seq ha hb
      | ct s => rw [hf] at hb; exact Ex.seq ha hb
    | no => trivial
    | xc s C n => rw [he] at ha; exact fun l => Ex.seqE (ha l) rfl
    | rt s => rw [he] at ha; exact Ex.seqE ha rfl
    | rw s2_ s => rw [he] at ha; exact Ex.seqE ha rfl
    | ro s => rw [he] at ha; exact Ex.seqE ha rfl
    | bk s => rw [he] at ha; exact Ex.seqE ha rfl
    | ct s => rw [he] at ha; exact Ex.seqE ha rfl
def XS.set (i : Nat) (e : XE K) : XS K where
  ts := fun md => tAsg (e.te md) (gName i)
  ev := fun st => (e.ev st).oc st fun a => .nx (st.set i (.v a))
  ok := fun md W st w => oc_ok w (e.ok md st) (fun C n h => Ex.asgX ⟨h⟩) fun a h => by
    show Ex _ _ _ (.nx (sls K (st.set i (.v a))))
    rw [sls_set]
    exact Ex.set (i := i) h
def XS.setN (i : Nat) (e : XN K) : XS K where
  ts := fun md => tAsg (e.te md) (gName i)
  ev := fun st => (e.ev st).oc st fun ds => if i < st.length then .nx (st.set i (.ol ds)) else .no
  ok := fun md W st w => oc_ok w (e.ok md st) (fun C n h => Ex.asgX ⟨h⟩) fun a h => by
    split
    · show Ex _ _ _ (.nx (sls K (st.set i (.ol a))))
      rw [sls_set]
      exact Ex.setN h (by rw [sls_len]; assumption)
    · trivial
def XS.asg (g : XG K) (e : XE K) : XS K where
  ts := fun md => tAsg (e.te md) g.tg
  ev := fun st => (e.ev st).oc st fun a => match a with
    | .d d => match g.ev d st with
      | some st' => .nx st'
      | none => .no
    | _ => .no
  ok := fun md W st w => oc_ok w (e.ok md st) (fun C n h => Ex.asgX ⟨h⟩) fun a h => by
    cases a with
    | s _ => trivial
    | i _ _ => trivial
    | p _ _ => trivial
    | d d =>
      simp only
      cases hg : g.ev d st with
      | none => trivial
      | some st' => exact Ex.asg (R := dat d) h (g.ok d st st' hg).1
def XS.seti (i : Nat) (k e : XE K) : XS K where
  ts := fun md => tAsg (e.te md) (gSub (tVar i) (k.te md) rSetL)
  ev := fun st => match st[i]? with
    | some (.ol ds) => (e.ev st).oc st fun a => match a with
      | .d d => match okV (k.iv st) with
        | some n => match ixN ds.length n with
          | some j => .nx (st.set i (.ol (ds.set j d)))
          | none => .no
        | none => .no
      | _ => .no
    | _ => .no
  ok := fun md W st w => by
    split
    · rename_i ds hi
      refine oc_ok w (e.ok md st) (fun C n h => Ex.asgX ⟨h⟩) fun a h => ?_
      split
      · rename_i d
        split
        · rename_i n hk
          split
          · rename_i j hj
            have h2 := k.iv_ok md st
            rw [okV_some hk] at h2
            show Ex _ _ _ (.nx (sls K (st.set i (.ol (ds.set j d)))))
            rw [sls_set]
            exact Ex.setitem (sls_get (K := K) hi) h h2 hj
          · trivial
        · trivial
      · trivial
    · trivial
def XS.app (i : Nat) (e : XE K) : XS K where
  ts := fun md => tDrop (tBM K "list" rAppend (tVar i) (tCons (e.te md) tNil))
  ev := fun st => match st[i]? with
    | some (.ol ds) => (e.ev st).oc st fun a => match a with
      | .d d => if ds.length < 1000000 then .nx (st.set i (.ol (ds ++ [d]))) else .no
      | _ => .no
    | _ => .no
  ok := fun md W st w => by
    cases hi : st[i]? with
    | none => trivial
    | some s =>
      cases s with
      | ol ds =>
        refine oc_ok w (e.ok md st) (fun C n h => Ex.appendX (sls_get (K := K) hi) ⟨h⟩ rfl) fun a h => ?_
        cases a with
        | s _ => trivial
        | i _ _ => trivial
        | p _ _ => trivial
        | d d =>
          simp only
          split
          · show Ex _ _ _ (.nx (sls K (st.set i (.ol (ds ++ [d])))))
            rw [sls_set]
            exact Ex.append (sls_get (K := K) hi) h (by assumption) rfl
          · trivial
      | _ => trivial
theorem Ex.ifX {t : TT} {a b : TS} {ρ : List Sl} {W : WX} {C : Addr} {n : Int} (h : EvXg W t ρ C n) : Ex W (tIfS t a b) ρ (.xc ρ C n) := ⟨fun D s q => h _ s fun G' H' d e s' hd => q G' _ H' d e s' hd⟩
def XS.ite (t : XT K) (a b : XS K) : XS K where
  ts := fun md => tIfS (t.tt md) (a.ts md) (b.ts md)
  ev := fun st => (t.ev st).oc st fun x => match x with
    | true => a.ev st
    | false => b.ev st
  ok := fun md W st w => oc_ok w (t.ok md st) (fun C n h => Ex.ifX h) fun x h => by
    cases x with
    | true =>
      have ha := a.ok md W st w
      show OcOk K md W _ _ (a.ev st)
      cases he : a.ev st with
      | no => trivial
      | xc s C n => rw [he] at ha; exact fun l => Ex.ife h (fun _ => ha l) (fun z => nomatch z)
      | nx s => rw [he] at ha; exact Ex.ife h (fun _ => ha) (fun z => nomatch z)
      | rt s => rw [he] at ha; exact Ex.ife h (fun _ => ha) (fun z => nomatch z)
      | rw s2_ s => rw [he] at ha; exact Ex.ife h (fun _ => ha) (fun z => nomatch z)
      | ro s => rw [he] at ha; exact Ex.ife h (fun _ => ha) (fun z => nomatch z)
      | bk s => rw [he] at ha; exact Ex.ife h (fun _ => ha) (fun z => nomatch z)
      | ct s => rw [he] at ha; exact Ex.ife h (fun _ => ha) (fun z => nomatch z)
    | false =>
      have ha := b.ok md W st w
      show OcOk K md W _ _ (b.ev st)
      cases he : b.ev st with
      | no => trivial
      | xc s C n => rw [he] at ha; exact fun l => Ex.ife h (fun z => nomatch z) (fun _ => ha l)
      | nx s => rw [he] at ha; exact Ex.ife h (fun z => nomatch z) (fun _ => ha)
      | rt s => rw [he] at ha; exact Ex.ife h (fun z => nomatch z) (fun _ => ha)
      | rw s2_ s => rw [he] at ha; exact Ex.ife h (fun z => nomatch z) (fun _ => ha)
      | ro s => rw [he] at ha; exact Ex.ife h (fun z => nomatch z) (fun _ => ha)
      | bk s => rw [he] at ha; exact Ex.ife h (fun z => nomatch z) (fun _ => ha)
      | ct s => rw [he] at ha; exact Ex.ife h (fun z => nomatch z) (fun _ => ha)
def XS.ret (e : XE K) : XS K where
  ts := fun md => tRet (e.te md)
  ev := fun st => (e.ev st).oc st .rt
  ok := fun md W st w => oc_ok w (e.ok md st) (fun C n h => Ex.retX ⟨h⟩) fun a h => Ex.ret h
def XS.drop (e : XE K) : XS K where
  ts := fun md => tDrop (e.te md)
  ev := fun st => (e.ev st).oc st fun _ => .nx st
  ok := fun md W st w => oc_ok w (e.ok md st) (fun C n h => Ex.dropX ⟨h⟩) fun a h => Ex.drop h
def frz (i : Nat) (st : List Sv) : List Sv := match st[i]? with
  | some (.ol ds) => st.set i (.v (.d (.list ds)))
  | _ => st
theorem frz_ok {t : TS} {W : WX} {o : Out} {i : Nat} {st : List Sv} (h : Ex W t (sls K (frz i st)) o) : Ex W t (sls K st) o := by
  unfold frz at h
  cases hi : st[i]? with
  | none => rw [hi] at h; exact h
  | some s =>
    rw [hi] at h
    cases s with
    | ol ds =>
      simp only at h
      rw [sls_set] at h
      exact Ex.freeze i (sls_get (K := K) hi) h
    | _ => exact h
def XS.frz (i : Nat) (a : XS K) : XS K where
  ts := a.ts
  ev := fun st => a.ev (R.frz i st)
  ok := fun md W st w => by
    have ha := a.ok md W (R.frz i st) w
    show OcOk K md W _ _ (a.ev (R.frz i st))
    cases he : a.ev (R.frz i st) with
    | no => trivial
    | xc s C n => rw [he] at ha; exact fun l => frz_ok (ha l)
    | nx s => rw [he] at ha; exact frz_ok ha
    | rt s => rw [he] at ha; exact frz_ok ha
    | rw s2_ s => rw [he] at ha; exact frz_ok ha
    | ro s => rw [he] at ha; exact frz_ok ha
    | bk s => rw [he] at ha; exact frz_ok ha
    | ct s => rw [he] at ha; exact frz_ok ha
def lp (g : XG K) (b : XS K) : List PyData → List Sv → Oc
  | [], st => .nx st
  | d :: ds, st => match g.ev d st with
    | none => .no
    | some st1 => match b.ev st1 with
      | .nx st2 => lp g b ds st2
      | .ct st2 => lp g b ds st2
      | .bk st2 => .nx st2
      | o => o
def lpF (K : PySem.W.Frag) (g : XG K) (b : XS K) (st : List Sv) (d : PyData) : Sum (List Sv) Out := match g.ev d st with
  | none => .inl st
  | some st1 => match b.ev st1 with
    | .nx st2 => .inl st2
    | .ct st2 => .inl st2
    | .bk st2 => .inr (.bk (sls K st2))
    | .rt a => .inr (.rt (vr K a))
    | .rw st2 a => .inr (.rw (sls K st2) (vr K a))
    | .ro w => .inr (.ro w.op)
    | .xc s C n => .inr (.xc (sls K s) C n)
    | .no => .inl st
def good (g : XG K) (b : XS K) (o : Oc) (st : List Sv) (d : PyData) : Prop := ∃ st1, g.ev d st = some st1 ∧ b.ev st1 ≠ .no ∧ ∀ s C n, b.ev st1 = .xc s C n → o = .xc s C n
def lpO (K : PySem.W.Frag) : Oc → Out
  | .nx st => .nx (sls K st)
  | .rt a => .rt (vr K a)
  | .rw st a => .rw (sls K st) (vr K a)
  | .ro w => .ro w.op
  | .bk st => .bk (sls K st)
  | .ct st => .ct (sls K st)
  | .xc st C n => .xc (sls K st) C n
  | .no => .nx []
theorem lp_run (g : XG K) (b : XS K) : ∀ (ds : List PyData) (st : List Sv), lp g b ds st ≠ .no →
    loopOut (sls K) (runF (lpF K g b) st ds) = lpO K (lp g b ds st) ∧ ∀ pre d post s, ds = pre ++ d :: post → runF (lpF K g b) st pre = .inl s → good g b (lp g b ds st) s d
  | [], st, h => ⟨rfl, fun pre d post s e => by simp at e⟩
  | d :: ds, st, h => by
    unfold lp at h ⊢
    cases hg : g.ev d st with
    | none => rw [hg] at h; exact absurd rfl h
    | some st1 =>
      rw [hg] at h
      simp only at h ⊢
      have key : ∀ st2, lpF K g b st d = .inl st2 → lp g b ds st2 ≠ .no → b.ev st1 ≠ .no → (∀ s C n, b.ev st1 ≠ .xc s C n) → loopOut (sls K) (runF (lpF K g b) st (d :: ds)) = lpO K (lp g b ds st2) ∧ ∀ pre d' post s, d :: ds = pre ++ d' :: post → runF (lpF K g b) st pre = .inl s → good g b (lp g b ds st2) s d' := by
        intro st2 e1 hn hb hx
        obtain ⟨i1, i2⟩ := lp_run g b ds st2 hn
        refine ⟨?_, fun pre d' post s e r => ?_⟩
        · have : runF (lpF K g b) st (d :: ds) = runF (lpF K g b) st2 ds := by
            conv => lhs; unfold runF
            rw [e1]
          rw [this, i1]
        · cases pre with
          | nil =>
            cases r
            cases e
            exact ⟨st1, hg, hb, fun s C n z => absurd z (hx s C n)⟩
          | cons p pre =>
            cases e
            have : runF (lpF K g b) st (d :: pre) = runF (lpF K g b) st2 pre := by
              conv => lhs; unfold runF
              rw [e1]
            rw [this] at r
            exact i2 pre d' post s rfl r
      have stop : ∀ o O, lpF K g b st d = .inr o → b.ev st1 ≠ .no → (∀ s C n, b.ev st1 = .xc s C n → O = .xc s C n) → loopOut (sls K) (runF (lpF K g b) st (d :: ds)) = unbk o ∧ ∀ pre d' post s, d :: ds = pre ++ d' :: post → runF (lpF K g b) st pre = .inl s → good g b O s d' := by
        intro o O e1 hb hx
        refine ⟨?_, fun pre d' post s e r => ?_⟩
        · conv => lhs; unfold runF
          rw [e1]
          rfl
        · cases pre with
          | nil =>
            cases r
            cases e
            exact ⟨st1, hg, hb, hx⟩
          | cons p pre =>
            cases e
            have : runF (lpF K g b) st (d :: pre) = .inr o := by
              conv => lhs; unfold runF
              rw [e1]
            rw [this] at r
            cases r
      have hf : ∀ o, b.ev st1 = o → lpF K g b st d = (match o with
          | .nx st2 => .inl st2
          | .ct st2 => .inl st2
          | .bk st2 => .inr (.bk (sls K st2))
          | .rt a => .inr (.rt (vr K a))
          | .rw st2 a => .inr (.rw (sls K st2) (vr K a))
          | .ro w => .inr (.ro w.op)
          | .xc s C n => .inr (.xc (sls K s) C n)
          | .no => .inl st) := fun o ho => by
        unfold lpF
        rw [hg]
        simp only [ho]
      cases hb : b.ev st1 with
      | no => rw [hb] at h; exact absurd rfl h
      | nx st2 => rw [hb] at h; exact key st2 (hf _ hb) h (by rw [hb]; exact fun z => nomatch z) (by rw [hb]; exact fun _ _ _ z => nomatch z)
      | ct st2 => rw [hb] at h; exact key st2 (hf _ hb) h (by rw [hb]; exact fun z => nomatch z) (by rw [hb]; exact fun _ _ _ z => nomatch z)
      | bk st2 => exact stop _ _ (hf _ hb) (by rw [hb]; exact fun z => nomatch z) (by rw [hb]; exact fun _ _ _ z => nomatch z)
      | rt a => exact stop _ _ (hf _ hb) (by rw [hb]; exact fun z => nomatch z) (by rw [hb]; exact fun _ _ _ z => nomatch z)
      | rw s2_ a => exact stop _ _ (hf _ hb) (by rw [hb]; exact fun z => nomatch z) (by rw [hb]; exact fun _ _ _ z => nomatch z)
      | ro a => exact stop _ _ (hf _ hb) (by rw [hb]; exact fun z => nomatch z) (by rw [hb]; exact fun _ _ _ z => nomatch z)
      | xc s C n => exact stop _ _ (hf _ hb) (by rw [hb]; exact fun z => nomatch z) (by rw [hb]; exact fun _ _ _ z => z)
def XS.for_ (it : XI K) (g : XG K) (b : XS K) : XS K where
  ts := fun md => tFor (it.ti md) g.tg (b.ts md)
  ev := fun st => (it.ev st).oc st fun ds => lp g b ds st
  ok := fun md W st w => oc_ok w (it.ok md st) (fun C n h => ⟨fun D s q => h _ s fun G' H' d e s' hd => q G' _ H' d e s' hd⟩) fun ds hi => by
    by_cases hl : md.loud = true ∨ ∀ s C n, lp g b ds st ≠ .xc s C n
    · by_cases hno : lp g b ds st = .no
      · rw [hno]; trivial
      · obtain ⟨h1, h2⟩ := lp_run g b ds st hno
        have main : Ex W (tFor (it.ti md) g.tg (b.ts md)) (sls K st) (lpO K (lp g b ds st)) := by
          rw [← h1]
          refine Ex.forF (K := K) (en := id) (T := []) (sls K) (lpF K g b) (by rw [List.map_id]; exact hi) (Wk.refl _) fun pre x post s e r => ?_
          obtain ⟨st1, g1, g2, g3⟩ := h2 pre x post s e r
          obtain ⟨eg, _⟩ := g.ok x s st1 g1
          have hb := b.ok md W st1 w
          have hf : lpF K g b s x = (match b.ev st1 with
              | .nx st2 => .inl st2
              | .ct st2 => .inl st2
              | .bk st2 => .inr (.bk (sls K st2))
              | .rt a => .inr (.rt (vr K a))
              | .rw st2 a => .inr (.rw (sls K st2) (vr K a))
              | .ro w => .inr (.ro w.op)
              | .xc s C n => .inr (.xc (sls K s) C n)
              | .no => .inl s) := by
            unfold lpF
            rw [g1]
          rw [hf]
          cases he : b.ev st1 with
          | no => exact absurd he g2
          | nx st2 => rw [he] at hb; exact ⟨(fun o z => nomatch z), g.T, _, eg, Ex.go hb⟩
          | ct st2 => rw [he] at hb; exact ⟨(fun o z => nomatch z), g.T, _, eg, Ex.goc hb⟩
          | bk st2 => rw [he] at hb; exact ⟨fun o z => by cases z; rfl, g.T, _, eg, hb⟩
          | rt a => rw [he] at hb; exact ⟨fun o z => by cases z; rfl, g.T, _, eg, hb⟩
          | rw s2_ a => rw [he] at hb; exact ⟨fun o z => by cases z; rfl, g.T, _, eg, hb⟩
          | ro a => rw [he] at hb; exact ⟨fun o z => by cases z; rfl, g.T, _, eg, hb⟩
          | xc s2 C n =>
            rw [he] at hb
            exact ⟨fun o z => by cases z; rfl, g.T, _, eg, hb (hl.resolve_right fun z => z _ _ _ (g3 _ _ _ he))⟩
        cases he : lp g b ds st with
        | no => trivial
        | xc s C n => rw [he] at main; exact fun _ => main
        | nx s => rw [he] at main; exact main
        | rt s => rw [he] at main; exact main
        | rw s2_ s => rw [he] at main; exact main
        | ro s => rw [he] at main; exact main
        | bk s => rw [he] at main; exact main
        | ct s => rw [he] at main; exact main
    · cases he : lp g b ds st with
      | xc s C n => exact fun l => absurd (.inl l) hl
      | no => trivial
      | nx s => exact absurd (.inr (by rw [he]; exact fun _ _ _ z => nomatch z)) hl
      | rt s => exact absurd (.inr (by rw [he]; exact fun _ _ _ z => nomatch z)) hl
      | rw s2_ s => exact absurd (.inr (by rw [he]; exact fun _ _ _ z => nomatch z)) hl
      | ro s => exact absurd (.inr (by rw [he]; exact fun _ _ _ z => nomatch z)) hl
      | bk s => exact absurd (.inr (by rw [he]; exact fun _ _ _ z => nomatch z)) hl
      | ct s => exact absurd (.inr (by rw [he]; exact fun _ _ _ z => nomatch z)) hl
end
end R

set_option Elab.async false
set_option linter.all false
set_option maxRecDepth 100000
set_option maxHeartbeats 2000000
namespace R
open PySem PySem.Spec PyProof.Rows L2 Z
section
variable {K : PySem.W.Frag}
def Md.W : Md → WX
  | .out E => WofE E
  | .tr W => W
  | .qu => fun _ _ _ _ => False
def raiseT (K : PySem.W.Frag) (md : Md) (C : Addr) (ta : TA) : TS := match md with
  | .out E => fun _ σ H => tMkO C (spAt K) [] ta σ H fun cls d H' => E cls d H'
  | .tr W => fun _ σ H => tMkO C (spAt K) [] ta σ H fun cls d H' => W cls d σ H'
  | .qu => fun _ σ H => tMkO C (spAt K) [] ta σ H fun cls d H' => False
def XS.raise (C : Addr) (hC : OexC K C) (hn : PySem.W.findIn K (.ref C) "at" = some none) (as : XA K) : XS K where
  ts := fun md => raiseT K md C (as.ta md)
  ev := fun st => (as.ev st).oc st fun xs => match avI1 xs with
    | some n => .xc st C n
    | none => .no
  ok := fun md W st w => by
    have h := as.ok md st
    cases he : as.ev st with
    | no => trivial
    | ex C' n =>
      rw [he] at h
      intro l
      have h : EvXg W (as.ta md) (sls K st) C' n := h l W w
      cases md with
      | qu => cases l
      | out E => exact ⟨fun D s q => h _ s fun G' H' d e s' hd => q G' _ H' d e s' hd⟩
      | tr W' => exact ⟨fun D s q => h _ s fun G' H' d e s' hd => q G' _ H' d e s' hd⟩
    | ok xs =>
      rw [he] at h
      show OcOk K md W _ _ (match avI1 xs with
        | some n => _
        | none => _)
      cases hx : avI1 xs with
      | none => trivial
      | some n =>
        rw [avI1_some hx] at h
        intro l
        cases md with
        | qu => cases l
        | out E => subst w; exact Ex.raise_ h hC hn
        | tr W' => subst w; exact Ex.raise_ h hC hn
structure XH (K : PySem.W.Frag) (i : Nat) where
  ts : Addr → Value → Option Addr → TS
  ev : Addr → Int → List Sv → Oc
  ok : ∀ W a d C n st, OcOk K .qu W (ts a (.ref C) (some d)) ((sls K st).set i (.p (errR a d n))) (ev C n st)
def mute : Oc → Oc
  | .xc _ _ _ => .no
  | o => o
def XH.of (i : Nat) (suite : Addr → Value → Option Addr → XS K) (ev : Addr → Int → List Sv → Oc) (h : ∀ (a d C : Addr) (n : Int) (st : List Sv), mute ((suite a (.ref C) (some d)).ev (st.set i (.er a d n))) = ev C n st) : XH K i where
  ts := fun a cls d => (suite a cls d).ts .qu
  ev := ev
  ok := fun W a d C n st => by
    have := (suite a (.ref C) (some d)).ok .qu W (st.set i (.er a d n)) trivial
    rw [sls_set] at this
    rw [← h a d C n st]
    cases he : (suite a (.ref C) (some d)).ev (st.set i (.er a d n)) with
    | xc _ _ _ => trivial
    | no => trivial
    | nx s => rw [he] at this; exact this
    | rt s => rw [he] at this; exact this
    | rw s2_ s => rw [he] at this; exact this
    | ro s => rw [he] at this; exact this
    | bk s => rw [he] at this; exact this
    | ct s => rw [he] at this; exact this
def clr (i : Nat) : Oc → Oc
  | .nx st => .nx (st.set i .x)
  | .bk st => .bk (st.set i .x)
  | .ct st => .ct (st.set i .x)
  | .xc _ _ _ => .no
  | o => o
def XS.try_ (i : Nat) (cW : Addr) (b : XS K) (s : XH K i) : XS K where
  ts := fun md D σ H => b.ts (.tr (wAs K (.ref cW) i s.ts md.W D)) D σ H
  ev := fun st => match b.ev st with
    | .xc st1 C n => if PySem.W.exmOne K (.ref C) (.ref cW) = some true then clr i (s.ev C n st1) else .no
    | o => o
  ok := fun md W st w => by
    have hb := fun W' => b.ok (.tr W') W' st rfl
    have tok : ∀ {o : Out}, (∀ W', Ex W' (b.ts (.tr W')) (sls K st) o) → o.quiet = true → Ex W (fun D σ H => b.ts (.tr (wAs K (.ref cW) i s.ts md.W D)) D σ H) (sls K st) o := fun {o} h hq => ⟨fun D s' q => (h _).run D s' (q.anyW hq)⟩
    cases he : b.ev st with
    | no => trivial
    | nx s' => rw [he] at hb; exact tok hb rfl
    | rt s' => rw [he] at hb; exact tok hb rfl
    | rw s2_ s' => rw [he] at hb; exact tok hb rfl
    | ro s' => rw [he] at hb; exact tok hb rfl
    | bk s' => rw [he] at hb; exact tok hb rfl
    | ct s' => rw [he] at hb; exact tok hb rfl
    | xc st1 C n =>
      rw [he] at hb
      show OcOk K md W _ _ (if PySem.W.exmOne K (.ref C) (.ref cW) = some true then clr i (s.ev C n st1) else .no)
      split
      · rename_i hm
        have hs := fun a d => s.ok W a d C n st1
        have tx : ∀ {o : Out}, (∀ a d, Ex W (s.ts a (.ref C) (some d)) ((sls K st1).set i (.p (errR a d n))) o) → Ex W (fun D σ H => b.ts (.tr (wAs K (.ref cW) i s.ts md.W D)) D σ H) (sls K st) (noSlot i o) := fun {o} h =>
          ⟨fun D s' q => (hb _ rfl).run D s' fun G' σ' H' d e s'' hd => ⟨true, hm, fun _ a ha => by
            have g := s''.grow (o := atF n) hd
            obtain ⟨G2, e2, s2⟩ := g.2.set_p (R := errR a d n) ⟨rfl, upd_same⟩ i
            exact (h a d).run _ s2 (q.slot.mono ((e.trans g.1).trans e2)), fun z => nomatch z⟩⟩
        cases hv : s.ev C n st1 with
        | no => trivial
        | xc _ _ _ => trivial
        | nx s' => rw [hv] at hs; show Ex _ _ _ (.nx (sls K (s'.set i .x))); rw [sls_set]; exact tx hs
        | bk s' => rw [hv] at hs; show Ex _ _ _ (.bk (sls K (s'.set i .x))); rw [sls_set]; exact tx hs
        | ct s' => rw [hv] at hs; show Ex _ _ _ (.ct (sls K (s'.set i .x))); rw [sls_set]; exact tx hs
        | rt s' => rw [hv] at hs; exact tx hs
        | rw s2_ s' => rw [hv] at hs; exact tx hs
        | ro s' => rw [hv] at hs; exact tx hs
      · trivial
def XE.errAt (i : Nat) (a : Addr) (cls : Value) (d : Option Addr) (kn : List Addr) (hk : ∀ C ∈ kn, XfC K C ∧ PySem.W.findIn K (.ref C) "at" = some none) : XE K := .of (fun _ => tXg K a cls d "at" i)
  (fun st => match cls, d, st[i]? with
    | .ref C, some d', some (.er a' d'' n) => if (a' = a ∧ d'' = d') ∧ C ∈ kn then .ok (.d (.int n)) else .no
    | _, _, _ => .no)
  fun md st => by
    split
    · rename_i C d' a' d'' n hi
      split
      · rename_i hc
        obtain ⟨⟨rfl, rfl⟩, hC⟩ := hc
        exact ev_at (sls_get (K := K) hi) (hk _ hC).1 (hk _ hC).2
      · trivial
    · trivial
def XE.isX (i : Nat) (a : Addr) (cls : Value) (d : Option Addr) (D : Addr) (kn : List Addr) (hk : ∀ C ∈ kn, ExcC K C) : XE K := .of (fun _ => tCB (rIsX K a cls d) (tCons (tVar i) (tCons (tC (.ref D)) tNil)))
  (fun st => match cls, d, st[i]? with
    | .ref C, some d', some (.er a' d'' n) => if (a' = a ∧ d'' = d') ∧ C ∈ kn then Rs.of ((PySem.W.kitOne K (.ref C) (.ref D)).map fun b => .d (.bool b)) else .no
    | _, _, _ => .no)
  fun md st => by
    split
    · rename_i C d' a' d'' n hi
      split
      · rename_i hc
        obtain ⟨⟨rfl, rfl⟩, hC⟩ := hc
        cases hb : PySem.W.kitOne K (.ref C) (.ref D) with
        | none => trivial
        | some b => exact ev_isX (sls_get (K := K) hi) (hk _ hC) hb
      · trivial
    · trivial
theorem lookup_map {f : Str} : ∀ {fs : List (Str × PyData)}, (fs.map fun p => (p.1, dat p.2)).lookup f = (fs.lookup f).map dat
  | [] => rfl
  | (g, d) :: fs => by
    rw [List.map_cons, List.lookup_cons, List.lookup_cons]
    cases f == g with
    | true => rfl
    | false => exact lookup_map
def XE.fld (C : Addr) (c : Cls K C) (f : Str) (hn : NoAttr K C f) (e : XE K) : XE K := .of (fun md => tFld K (e.te md) f)
  (fun st => (e.ev st).bind fun x => match x with
    | .i C' fs => if C' = C then Rs.of ((fs.lookup f).map Vl.d) else .no
    | _ => .no)
  fun md st => (e.ok md st).bind (fun C n W h => fun Q s q => h _ s q) fun x hx => by
    split
    · rename_i C' fs
      split
      · rename_i hc
        subst hc
        cases hl : fs.lookup f with
        | none => trivial
        | some d => exact ev_fld hx (by rw [lookup_map, hl]; rfl) c hn
      · trivial
    · trivial
def methT (md : Md) (C : Addr) (m : Str) (sp : Sp) (te : TE) (t : TA) : TE := match md with
  | .out E => tMeth C m sp [] E te t
  | .tr W => tMethSx C m sp (WE W) te t
  | .qu => tMeth C m sp [] (fun _ _ _ => False) te t
theorem meth_x {md : Md} {C : Addr} {m : Str} {sp : Sp} {te : TE} {t : TA} {ρ : List Sl} {W : WX} {D : Addr} {n : Int} (h : EvXg W te ρ D n) : EvXg W (methT md C m sp te t) ρ D n := by
  cases md with
  | out E => exact fun Q s q => h _ s q
  | tr W => exact fun Q s q => h _ s q
  | qu => exact fun Q s q => h _ s q
theorem meth_in {md : Md} {C : Addr} {m : Str} {sp : Sp} {te : TE} {t : TA} {ρ : List Sl} {W : WX} {D : Addr} {n : Int} {fs : List (Str × Rp)} (h0 : Ev te ρ (pu (insR C fs))) (hm : fs.lookup m = none) (h : EvXg W t ρ D n) : EvXg W (methT md C m sp te t) ρ D n := by
  cases md with
  | out E =>
    intro G σ L0 H Q s q
    refine h0.atp s fun G0 H0 v e0 s0 r0 => ?_
    obtain ⟨a, dx, fv, rfl, hH, hfl⟩ := id r0
    exact ⟨a, dx, fv, rfl, s0.same _ _ hH, hfl.no hm, h _ s0 fun G1 H1 d e1 s1 hd => q G1 H1 d (e0.trans e1) s1 hd⟩
  | tr W' =>
    intro G σ L0 H Q s q
    refine h0.atp s fun G0 H0 v e0 s0 r0 => ?_
    obtain ⟨a, dx, fv, rfl, hH, hfl⟩ := id r0
    exact ⟨a, dx, fv, rfl, s0.same _ _ hH, hfl.no hm, h _ s0 fun G1 H1 d e1 s1 hd => q G1 H1 d (e0.trans e1) s1 hd⟩
  | qu =>
    intro G σ L0 H Q s q
    refine h0.atp s fun G0 H0 v e0 s0 r0 => ?_
    obtain ⟨a, dx, fv, rfl, hH, hfl⟩ := id r0
    exact ⟨a, dx, fv, rfl, s0.same _ _ hH, hfl.no hm, h _ s0 fun G1 H1 d e1 s1 hd => q G1 H1 d (e0.trans e1) s1 hd⟩
theorem meth_args (F : Fn) (C : Addr) (m : Str) (te : TE) (as : XA K) (md : Md) (ρ : List Sl) (fs : List (Str × PyData)) (xs : List Av) (hl : xs.length + 1 = F.m) (h0 : Ev te ρ (pu (vr K (.i C fs)))) (hm : fs.lookup m = none) (h : EvA (as.ta md) ρ (xs.map (bw K))) :
    Cm md (methT md C m (F.sp K) te (as.ta md)) ρ (fun a => match F.own with
    | true => ∃ ds, a = .d (.list ds) ∧ EvN (methT md C m (F.sp K) te (as.ta md)) ρ ds
    | false => Ev (methT md C m (F.sp K) te (as.ta md)) ρ (pu (vr K a))) (match F.f (.v (.i C fs) :: xs), F.own with
    | .ok a, true => (match asL a with
      | some ds => .ok a
      | none => .no)
    | r, _ => r) := by
  have hm' : (fs.map fun p => (p.1, dat p.2)).lookup m = none := by rw [lookup_map, hm]; rfl
  have pre : ∀ {r : Rs Vl} {Q : VK} {E : XK} {G1 G0 : Hp} {L : List Cell} {H1 : Hp} {v : V} {vs : List V}, F.f (.v (.i C fs) :: xs) = r → r ≠ .no → (vr K (.i C fs)).p G0 v → Same G0 G1 → Lay G1 L H1 → AllB G1 L vs (xs.map (bw K)) → ResP Q E G1 L (resOf K F.own r) → F.sp K (v :: vs) H1 Q E := by
    intro r Q E G1 G0 L H1 v vs hr hn rv e1 la al rp
    refine ⟨⟨.v (.i C fs) :: xs, by rw [List.length_cons, hl]⟩, G1, L, by show F.f (.v (.i C fs) :: xs) ≠ .no; rw [hr]; exact hn, la, .cons ((vr K (.i C fs)).up e1 rv) al, ?_⟩
    show ResP Q E G1 L (resOf K F.own (F.f (.v (.i C fs) :: xs)))
    rw [hr]
    exact rp
  cases hf : F.f (.v (.i C fs) :: xs) with
  | no => simp only; trivial
  | ex D n =>
    simp only
    intro l W w
    cases md with
    | qu => cases l
    | out E =>
      subst w
      intro G σ L0 H Q s q
      refine h0.atp s fun G0 H0 v e0 s0 r0 => ?_
      obtain ⟨a, dx, fv, rfl, hH, hfl⟩ := id r0
      refine ⟨a, dx, fv, rfl, s0.same _ _ hH, hfl.no hm', h.at s0 fun G1 H1 vs L e1 sl la r => ?_⟩
      rw [List.append_nil]
      exact pre hf (fun z => nomatch z) r0 e1 la r fun G2 H2 d e2 l2 hd => q G2 H2 d ((e0.trans e1).trans e2) ⟨L, sl.up e2, l2⟩ hd
    | tr W' =>
      subst w
      intro G σ L0 H Q s q
      refine h0.atp s fun G0 H0 v e0 s0 r0 => ?_
      obtain ⟨a, dx, fv, rfl, hH, hfl⟩ := id r0
      refine ⟨a, dx, fv, rfl, s0.same _ _ hH, hfl.no hm', h.at s0 fun G1 H1 vs L e1 sl la r => ?_⟩
      exact pre hf (fun z => nomatch z) r0 e1 la r fun G2 H2 d e2 l2 hd => q G2 H2 d ((e0.trans e1).trans e2) ⟨L, sl.up e2, l2⟩ hd
  | ok a =>
    cases ho : F.own with
    | false =>
      simp only
      have rp : ∀ {Q : VK} {E : XK} {G1 : Hp} {L : List Cell}, (∀ G' H' v, Same G1 G' → Lay G' L H' → (vr K a).p G' v → Q v H') → ResP Q E G1 L (resOf K F.own (.ok a)) := fun {Q E G1 L} q => by
        rw [ho]
        exact q
      refine Ev.pure fun {G σ L0 H} Q s q => ?_
      cases md with
      | out E =>
        refine h0.atp s fun G0 H0 v e0 s0 r0 => ?_
        obtain ⟨b, dx, fv, rfl, hH, hfl⟩ := id r0
        refine ⟨b, dx, fv, rfl, s0.same _ _ hH, hfl.no hm', h.at s0 fun G1 H1 vs L e1 sl la r => ?_⟩
        rw [List.append_nil]
        exact pre hf (fun z => nomatch z) r0 e1 la r (rp fun G2 H2 v e2 l2 rv => q G2 H2 v ((e0.trans e1).trans e2) ⟨L, sl.up e2, l2⟩ rv)
      | qu =>
        refine h0.atp s fun G0 H0 v e0 s0 r0 => ?_
        obtain ⟨b, dx, fv, rfl, hH, hfl⟩ := id r0
        refine ⟨b, dx, fv, rfl, s0.same _ _ hH, hfl.no hm', h.at s0 fun G1 H1 vs L e1 sl la r => ?_⟩
        rw [List.append_nil]
        exact pre hf (fun z => nomatch z) r0 e1 la r (rp fun G2 H2 v e2 l2 rv => q G2 H2 v ((e0.trans e1).trans e2) ⟨L, sl.up e2, l2⟩ rv)
      | tr W' =>
        refine h0.atp s fun G0 H0 v e0 s0 r0 => ?_
        obtain ⟨b, dx, fv, rfl, hH, hfl⟩ := id r0
        refine ⟨b, dx, fv, rfl, s0.same _ _ hH, hfl.no hm', h.at s0 fun G1 H1 vs L e1 sl la r => ?_⟩
        exact pre hf (fun z => nomatch z) r0 e1 la r (rp fun G2 H2 v e2 l2 rv => q G2 H2 v ((e0.trans e1).trans e2) ⟨L, sl.up e2, l2⟩ rv)
    | true =>
      simp only
      cases hl2 : asL a with
      | none => simp only; trivial
      | some ds =>
        simp only
        have hR : resOf K F.own (.ok a) = .own (oL ds) := by rw [ho]; unfold resOf; simp only [hl2]
        have rp : ∀ {Q : VK} {E : XK} {G1 : Hp} {L : List Cell}, (∀ G2 H2 b cs, Same G1 G2 → Lay G2 (cs ++ L) H2 → (oL ds).p G2 b cs → Q (.ref b) H2) → ResP Q E G1 L (resOf K F.own (.ok a)) := fun {Q E G1 L} q => by
          rw [hR]
          exact q
        refine ⟨ds, ?_, ⟨fun {G σ L0 H} Q s q => ?_⟩⟩
        · cases a with
          | s _ => cases hl2
          | i _ _ => cases hl2
          | p _ _ => cases hl2
          | d x => cases x with
            | list es => cases hl2; rfl
            | _ => cases hl2
        · have fin : ∀ {G0 H0 G1 H1 : Hp} {L : List Cell}, Same G G0 → Same G0 G1 → Slots G1 L0 σ ρ L → Lay G1 (L ++ L0) H1 → ∀ G2 H2 b cs, Same G1 G2 → Lay G2 (cs ++ (L ++ L0)) H2 → (oL ds).p G2 b cs → Q (.ref b) H2 := by
            intro G0 H0 G1 H1 L e0 e1 sl la G2 H2 b cs e2 l2 ro
            obtain ⟨ws, hcs, d⟩ := ro
            subst hcs
            obtain ⟨H3, hn3, rfl, l3⟩ := Lay.uncell l2
            exact q G2 H3 _ ws ((e0.trans e1).trans e2) ⟨L, sl.up e2, l3⟩ hn3 d
          cases md with
          | out E =>
            refine h0.atp s fun G0 H0 v e0 s0 r0 => ?_
            obtain ⟨b, dx, fv, rfl, hH, hfl⟩ := id r0
            refine ⟨b, dx, fv, rfl, s0.same _ _ hH, hfl.no hm', h.at s0 fun G1 H1 vs L e1 sl la r => ?_⟩
            rw [List.append_nil]
            exact pre hf (fun z => nomatch z) r0 e1 la r (rp (fin (H0 := H0) e0 e1 sl la))
          | qu =>
            refine h0.atp s fun G0 H0 v e0 s0 r0 => ?_
            obtain ⟨b, dx, fv, rfl, hH, hfl⟩ := id r0
            refine ⟨b, dx, fv, rfl, s0.same _ _ hH, hfl.no hm', h.at s0 fun G1 H1 vs L e1 sl la r => ?_⟩
            rw [List.append_nil]
            exact pre hf (fun z => nomatch z) r0 e1 la r (rp (fin (H0 := H0) e0 e1 sl la))
          | tr W' =>
            refine h0.atp s fun G0 H0 v e0 s0 r0 => ?_
            obtain ⟨b, dx, fv, rfl, hH, hfl⟩ := id r0
            refine ⟨b, dx, fv, rfl, s0.same _ _ hH, hfl.no hm', h.at s0 fun G1 H1 vs L e1 sl la r => ?_⟩
            exact pre hf (fun z => nomatch z) r0 e1 la r (rp (fin (H0 := H0) e0 e1 sl la))
def instOf (C : Addr) (m : Str) : Vl → Rs (List (Str × PyData))
  | .i C' fs => if C' = C ∧ (fs.lookup m).isNone = true then .ok fs else .no
  | _ => .no
theorem instOf_ok {C : Addr} {m : Str} {v : Vl} {fs : List (Str × PyData)} (h : instOf C m v = .ok fs) : v = .i C fs ∧ fs.lookup m = none := by
  unfold instOf at h
  split at h
  · split at h
    · rename_i hc
      cases h
      exact ⟨by rw [hc.1], Option.isNone_iff_eq_none.mp hc.2⟩
    · cases h
  · cases h
theorem instOf_ex {C D : Addr} {m : Str} {v : Vl} {n : Int} : instOf C m v ≠ .ex D n := by
  unfold instOf
  split
  · split
    · exact fun z => nomatch z
    · exact fun z => nomatch z
  · exact fun z => nomatch z
def XE.meth (C : Addr) (m : Str) (F : Fn) (ho : F.own = false) (e : XE K) (as : XA K) : XE K := .of (fun md => methT md C m (F.sp K) (e.te md) (as.ta md))
  (fun st => (e.ev st).bind fun v => (instOf C m v).bind fun fs => (as.ev st).bind fun xs => if xs.length + 1 = F.m then F.f (.v (.i C fs) :: xs) else .no)
  fun md st => (e.ok md st).bind (fun C n W h => meth_x h) fun v hv => by
    cases hi : instOf C m v with
    | no => trivial
    | ex D n => exact absurd hi instOf_ex
    | ok fs =>
      obtain ⟨rfl, hm⟩ := instOf_ok hi
      refine (as.ok md st).bind (fun D n W h => meth_in hv (by rw [lookup_map, hm]; rfl) h) fun xs hx => ?_
      by_cases hl : xs.length + 1 = F.m
      · rw [if_pos hl]
        have := meth_args F C m (e.te md) as md (sls K st) fs xs hl hv hm hx
        rw [ho] at this
        cases hf : F.f (.v (.i C fs) :: xs) with
        | no => trivial
        | ex C n => rw [hf] at this; exact this
        | ok a => rw [hf] at this; exact this
      · rw [if_neg hl]; trivial
def XN.meth (C : Addr) (m : Str) (F : Fn) (ho : F.own = true) (e : XE K) (as : XA K) : XN K where
  te := fun md => methT md C m (F.sp K) (e.te md) (as.ta md)
  ev := fun st => (e.ev st).bind fun v => (instOf C m v).bind fun fs => (as.ev st).bind fun xs => if xs.length + 1 = F.m then (F.f (.v (.i C fs) :: xs)).bind lOf else .no
  ok := fun md st => (e.ok md st).bind (fun C n W h => meth_x h) fun v hv => by
    cases hi : instOf C m v with
    | no => trivial
    | ex D n => exact absurd hi instOf_ex
    | ok fs =>
      obtain ⟨rfl, hm⟩ := instOf_ok hi
      refine (as.ok md st).bind (fun D n W h => meth_in hv (by rw [lookup_map, hm]; rfl) h) fun xs hx => ?_
      by_cases hl : xs.length + 1 = F.m
      · rw [if_pos hl]
        have := meth_args F C m (e.te md) as md (sls K st) fs xs hl hv hm hx
        rw [ho] at this
        cases hf : F.f (.v (.i C fs) :: xs) with
        | no => trivial
        | ex C n => rw [hf] at this; exact this
        | ok a =>
          rw [hf] at this
          show Cm _ _ _ _ (lOf a)
          cases a with
          | s _ => trivial
          | i _ _ => trivial
          | p _ _ => trivial
          | d x =>
            cases x with
            | list ds =>
              obtain ⟨ds', e, h'⟩ := this
              cases e
              exact h'
            | _ => trivial
      · rw [if_neg hl]; trivial
end
end R

set_option Elab.async false
set_option linter.all false
set_option maxRecDepth 100000
set_option maxHeartbeats 2000000
namespace R
open PySem PySem.Spec PyProof.Rows L2 Z
structure FnI where
  m : Nat
  f : List Av → Rs (List (Str × PyData))
def datF (fs : List (Str × PyData)) : List (Str × Rp) := fs.map fun p => (p.1, dat p.2)
def iresOf : Rs (List (Str × PyData)) → IRes
  | .ok fs => .ok (datF fs)
  | .ex D n => .err D n
  | .no => .ok []
def FnI.sp (K : PySem.W.Frag) (C : Addr) (F : FnI) : Sp := SpI (α := {xs : List Av // xs.length = F.m}) C (fun x => F.f x.1 ≠ .no) (fun x => x.1.map (bw K)) (fun x => iresOf (F.f x.1))
def makeT (md : Md) (C : Addr) (sp : Sp) (t : TA) : TE := match md with
  | .out E => tMake C sp [] E t
  | .tr W => tMakeS C sp (WE W) t
  | .qu => tMake C sp [] (fun _ _ _ => False) t
section
variable {K : PySem.W.Frag}
def XE.make (C : Addr) (F : FnI) (as : XA K) : XE K := .of (fun md => makeT md C (F.sp K C) (as.ta md))
  (fun st => (as.ev st).bind fun xs => if xs.length = F.m then (F.f xs).bind fun fs => .ok (.i C fs) else .no)
  fun md st => (as.ok md st).bind (fun C n W h => by
    cases md with
    | out E => exact fun Q s q => h _ s q
    | tr W => exact fun Q s q => h _ s q
    | qu => exact fun Q s q => h _ s q) fun xs h => by
    by_cases hm : xs.length = F.m
    · rw [if_pos hm]
      cases hf : F.f xs with
      | no => trivial
      | ex D n =>
        intro l W w
        have hR : iresOf (F.f (⟨xs, hm⟩ : {xs : List Av // xs.length = F.m}).1) = .err D n := by show iresOf (F.f xs) = _; rw [hf]; rfl
        have hp : F.f (⟨xs, hm⟩ : {xs : List Av // xs.length = F.m}).1 ≠ .no := by show F.f xs ≠ _; rw [hf]; exact fun z => nomatch z
        cases md with
        | qu => cases l
        | out E =>
          subst w
          exact fun {G σ L0 H} Q s q => (ex_make (α := {xs : List Av // xs.length = F.m}) (pre := fun x => F.f x.1 ≠ .no) (A := fun x => x.1.map (bw K)) (F := fun x => iresOf (F.f x.1)) ⟨xs, hm⟩ h hp hR).run Q s q
        | tr W' =>
          subst w
          exact fun {G σ L0 H} Q s q => (ex_makeS (α := {xs : List Av // xs.length = F.m}) (pre := fun x => F.f x.1 ≠ .no) (A := fun x => x.1.map (bw K)) (F := fun x => iresOf (F.f x.1)) ⟨xs, hm⟩ h hp hR).run Q s q
      | ok fs =>
        have hR : iresOf (F.f (⟨xs, hm⟩ : {xs : List Av // xs.length = F.m}).1) = .ok (datF fs) := by show iresOf (F.f xs) = _; rw [hf]; rfl
        have hp : F.f (⟨xs, hm⟩ : {xs : List Av // xs.length = F.m}).1 ≠ .no := by show F.f xs ≠ _; rw [hf]; exact fun z => nomatch z
        cases md with
        | out E => exact ev_make (α := {xs : List Av // xs.length = F.m}) (pre := fun x => F.f x.1 ≠ .no) (A := fun x => x.1.map (bw K)) (F := fun x => iresOf (F.f x.1)) ⟨xs, hm⟩ h hp hR
        | tr W' => exact ev_makeS (α := {xs : List Av // xs.length = F.m}) (pre := fun x => F.f x.1 ≠ .no) (A := fun x => x.1.map (bw K)) (F := fun x => iresOf (F.f x.1)) ⟨xs, hm⟩ h hp hR
        | qu => exact ev_make (α := {xs : List Av // xs.length = F.m}) (pre := fun x => F.f x.1 ≠ .no) (A := fun x => x.1.map (bw K)) (F := fun x => iresOf (F.f x.1)) ⟨xs, hm⟩ h hp hR
    · rw [if_neg hm]; trivial
def XS.setfld (i : Nat) (C : Addr) (c : Cls K C) (f : Str) (hn : NoAttr K C f) (e : XE K) : XS K where
  ts := fun md => sFld K (tVar i) (e.te md) f
  ev := fun st => match st[i]? with
    | some (.oi C' a fs) => if C' = C ∧ (fs.lookup f).isNone = true ∧ fs.length < 1000 then (e.ev st).oc st fun v => match v with
      | .d d => .nx (st.set i (.oi C a (fs ++ [(f, d)])))
      | _ => .no else .no
    | _ => .no
  ok := fun md W st w => by
    split
    · rename_i C' a fs hi
      split
      · rename_i hc
        obtain ⟨rfl, h1, h2⟩ := hc
        refine oc_ok w (e.ok md st) (fun D n h => ⟨fun D s q => h _ s fun G' H' d e s' hd => q G' _ H' d e s' hd⟩) fun v hv => ?_
        split
        · rename_i d
          show Ex _ _ _ (.nx (sls K (st.set i (.oi C' a (fs ++ [(f, d)])))))
          rw [sls_set]
          have := Ex.setfld (W := W) (fs := datF fs) (sls_get (K := K) hi) hv (by unfold datF; rw [lookup_map, Option.isNone_iff_eq_none.mp h1]; rfl) (by unfold datF; rw [List.length_map]; exact h2) c hn
          have e2 : sl K (.oi C' a (fs ++ [(f, d)])) = .o (oI C' a (datF fs ++ [(f, dat d)])) := by
            show Sl.o (oI C' a ((fs ++ [(f, d)]).map _)) = _
            rw [List.map_append]
            rfl
          rw [e2]
          exact this
        · trivial
      · trivial
    · trivial
def avS : Av → Sv
  | .v a => .v a
  | .l ds => .bl ds
  | .o C fs => .bo C fs
def start (xs : List Av) (k : Nat) : List Sv := xs.map avS ++ List.replicate k .x
theorem slots_b {G : Hp} {L0 : List Cell} {k : Nat} : ∀ {xs : List Av} {σ : L2.St} {L : List Cell}, Slots G L0 σ (st0 (xs.map (bw K)) k) L → Slots G L0 σ (sls K (start xs k)) L
  | [], σ, L, h => by
    have e : sls K (start [] k) = st0 (([] : List Av).map (bw K)) k := by
      unfold sls start st0
      simp [sl]
    rw [e]
    exact h
  | .v a :: xs, σ, L, h => by
    have h : Slots G L0 σ (Sl.b (pu (vr K a)) :: st0 (xs.map (bw K)) k) L := h
    show Slots G L0 σ (Sl.p (vr K a) :: sls K (start xs k)) L
    cases h with
    | b h1 h2 => exact .p h1 (slots_b h2)
  | .l ds :: xs, σ, L, h => by
    have h : Slots G L0 σ (Sl.b (bL ds) :: st0 (xs.map (bw K)) k) L := h
    show Slots G L0 σ (Sl.b (bL ds) :: sls K (start xs k)) L
    cases h with
    | b h1 h2 => exact .b h1 (slots_b h2)
  | .o C fs :: xs, σ, L, h => by
    have h : Slots G L0 σ (Sl.b (bW C fs) :: st0 (xs.map (bw K)) k) L := h
    show Slots G L0 σ (Sl.b (bW C fs) :: sls K (start xs k)) L
    cases h with
    | b h1 h2 => exact .b h1 (slots_b h2)
theorem ex_start {t : TS} {W : WX} {o : Out} {xs : List Av} {k : Nat} (h : Ex W t (sls K (start xs k)) o) : Ex W t (st0 (xs.map (bw K)) k) o := ⟨fun D s q => by
  obtain ⟨L, sl, la⟩ := s
  exact h.run D ⟨L, slots_b sl, la⟩ q⟩
def nonOf : Vl → Rs Vl
  | .d .none => .ok (.d .none)
  | _ => .no
theorem nonOf_ne {v : Vl} (h : nonOf v ≠ .no) : v = .d .none := by
  cases v with
  | d x => cases x <;> first | rfl | exact absurd rfl h
  | _ => exact absurd rfl h
def Oc.res (own : Bool) : Oc → Rs Vl
  | .rt v => if own then nonOf v else .ok v
  | .ro w => if own then (match w with
    | .l ds => .ok (.d (.list ds))
    | _ => .no) else .no
  | .nx _ => .ok (.d .none)
  | .xc _ C n => .ex C n
  | _ => .no
def runX (s : XS K) (own : Bool) (k : Nat) (xs : List Av) : Rs Vl := (s.ev (start xs k)).res own
theorem Fn.run {F : Fn} {vs : List V} {H : Hp} {Q : VK} {E : XK} (s : XS K) (N : List Str) (h : F.sp K vs H Q E) (hs : ∀ xs : List Av, xs.length = F.m → F.f xs ≠ .no → runX s F.own (N.length - F.m) xs = F.f xs) :
    s.ts (.out E) { nx := fun _ H' => Q .non H', rt := Q } (L2.start N vs) H := by
  refine SpA.goN h N F.m (fun x => by rw [List.length_map]; exact x.2) fun x hp => ?_
  have hx := hs x.1 x.2 hp
  have hk := s.ok (.out E) (WofE E) (start x.1 (N.length - F.m)) rfl
  unfold runX at hx
  cases he : s.ev (start x.1 (N.length - F.m)) with
  | no => rw [he] at hx; exact absurd hx.symm hp
  | bk _ => rw [he] at hx; exact absurd hx.symm hp
  | rw _ _ => rw [he] at hx; exact absurd hx.symm hp
  | ct _ => rw [he] at hx; exact absurd hx.symm hp
  | nx st =>
    rw [he] at hx hk
    refine .inl ⟨_, ?_, ex_start hk⟩
    show resOf K _ (F.f x.1) = _
    rw [← hx]
    cases F.own <;> rfl
  | rt a =>
    rw [he] at hx hk
    cases ho : F.own with
    | true =>
      rw [ho] at hx
      have hx : nonOf a = F.f x.1 := hx
      have ha := nonOf_ne (by rw [hx]; exact hp)
      subst ha
      refine .inr ⟨.ok (vr K (.d .none)), [], ?_, ex_start hk⟩
      show resOf K _ (F.f x.1) = _
      rw [← hx]
      rfl
    | false =>
      rw [ho] at hx
      refine .inr ⟨.ok (vr K a), [], ?_, ex_start hk⟩
      show resOf K _ (F.f x.1) = _
      rw [← hx]
      rfl
  | ro ds =>
    rw [he] at hx hk
    cases ho : F.own with
    | false => rw [ho] at hx; exact absurd hx.symm hp
    | true =>
      rw [ho] at hx
      cases ds with
      | ll _ => exact absurd hx.symm hp
      | ob _ _ => exact absurd hx.symm hp
      | tc _ => exact absurd hx.symm hp
      | l ds =>
        refine .inr ⟨.own (oL ds), [], ?_, ex_start hk⟩
        show resOf K _ (F.f x.1) = _
        rw [← hx]
        rfl
  | xc st C n =>
    rw [he] at hx hk
    refine .inr ⟨.err C n, _, ?_, ex_start (hk rfl)⟩
    show resOf K F.own (F.f x.1) = _
    rw [← hx]
    rfl
def startI (C a : Addr) (xs : List Av) (k : Nat) : List Sv := .oi C a [] :: start xs k
def Oc.resI (C a : Addr) : Oc → Rs (List (Str × PyData))
  | .nx st => match st[(0 : Nat)]? with
    | some (.oi C' a' fs) => if C' = C ∧ a' = a then .ok fs else .no
    | _ => .no
  | .xc _ D n => .ex D n
  | _ => .no
def runI (s : XS K) (C a : Addr) (k : Nat) (xs : List Av) : Rs (List (Str × PyData)) := (s.ev (startI C a xs k)).resI C a
theorem ex_startI {t : TS} {W : WX} {o : Out} {C a : Addr} {xs : List Av} {k : Nat} (h : Ex W t (sls K (startI C a xs k)) o) : Ex W t (stI C a (xs.map (bw K)) k) o := ⟨fun D s q => by
  obtain ⟨L, sl, la⟩ := s
  have sl : Slots _ _ _ (Sl.o (oI C a []) :: st0 (xs.map (bw K)) k) L := sl
  cases sl with
  | o h1 h2 => exact h.run D ⟨_, .o h1 (slots_b h2), la⟩ q⟩
theorem FnI.run {F : FnI} {C : Addr} {vs : List V} {H : Hp} {Q : VK} {E : XK} (s : XS K) (N : List Str) (h : F.sp K C vs H Q E) (hs : ∀ xs : List Av, xs.length = F.m → F.f xs ≠ .no → ∀ a, runI s C a (N.length - (F.m + 1)) xs = F.f xs) :
    s.ts (.out E) { nx := fun _ H' => Q .non H', rt := Q } (L2.start N vs) H := by
  refine SpI.run (N := N) h (fun x => by rw [List.length_map]; exact x.2) fun x a hp => ?_
  have hx := hs x.1 x.2 hp a
  have hk := s.ok (.out E) (WofE E) (startI C a x.1 (N.length - (F.m + 1))) rfl
  unfold runI at hx
  cases he : s.ev (startI C a x.1 (N.length - (F.m + 1))) with
  | no => rw [he] at hx; exact absurd hx.symm hp
  | bk _ => rw [he] at hx; exact absurd hx.symm hp
  | rw _ _ => rw [he] at hx; exact absurd hx.symm hp
  | ct _ => rw [he] at hx; exact absurd hx.symm hp
  | rt _ => rw [he] at hx; exact absurd hx.symm hp
  | ro _ => rw [he] at hx; exact absurd hx.symm hp
  | xc st D n =>
    rw [he] at hx hk
    refine .inr ⟨D, n, _, ?_, ex_startI (hk rfl)⟩
    show iresOf (F.f x.1) = _
    rw [← hx]
    rfl
  | nx st =>
    rw [he] at hx hk
    have hx2 : (match st[(0 : Nat)]? with
      | some (.oi C' a' fs) => if C' = C ∧ a' = a then Rs.ok fs else .no
      | _ => .no) = F.f x.1 := hx
    cases hst : st[(0 : Nat)]? with
    | none => rw [hst] at hx2; exact absurd hx2.symm hp
    | some sv =>
      rw [hst] at hx2
      cases sv with
      | oi C' a' fs =>
        simp only at hx2
        by_cases hc : C' = C ∧ a' = a
        · rw [if_pos hc] at hx2
          obtain ⟨rfl, rfl⟩ := hc
          refine .inl ⟨datF fs, _, ?_, sls_get (K := K) hst, ex_startI hk⟩
          show iresOf (F.f x.1) = _
          rw [← hx2]
          rfl
        · rw [if_neg hc] at hx2; exact absurd hx2.symm hp
      | _ => exact absurd hx2.symm hp
end
end R

set_option Elab.async false
set_option linter.all false
set_option maxRecDepth 100000
set_option maxHeartbeats 2000000
namespace R
open PySem PySem.Spec PyProof.Rows L2 Z
section
variable {K : PySem.W.Frag}
def O2.int0 (g : Int → Int → Int) : O2 K where
  r := rI0 fun i j => .int (g i j)
  ka := false
  kb := false
  f := fun x y => match x, y with
    | .v (.d (.int i)), .v (.d (.int j)) => some (.d (.int (g i j)))
    | _, _ => none
  ok := fun x y z h => by
    split at h
    · cases h; exact o_int0
    · cases h
def O2.bool0 (g : Int → Int → Bool) : O2 K where
  r := rI0 fun i j => .bl (g i j)
  ka := false
  kb := false
  f := fun x y => match x, y with
    | .v (.d (.int i)), .v (.d (.int j)) => some (.d (.bool (g i j)))
    | _, _ => none
  ok := fun x y z h => by
    split at h
    · cases h; exact o_bool0
    · cases h
def O2.intC (C : Int → Int → Prop) [∀ i j, Decidable (C i j)] (g : Int → Int → Int) : O2 K where
  r := rI C fun i j => .int (g i j)
  ka := false
  kb := false
  f := fun x y => match x, y with
    | .v (.d (.int i)), .v (.d (.int j)) => if C i j then some (.d (.int (g i j))) else none
    | _, _ => none
  ok := fun x y z h => by
    split at h
    · split at h
      · cases h; exact o_intC (by assumption)
      · cases h
    · cases h
def O2.add : O2 K := .int0 fun i j => i + j
def O2.sub : O2 K := .int0 fun i j => i - j
def O2.lt : O2 K := .bool0 fun i j => decide (i < j)
def O2.le : O2 K := .bool0 fun i j => decide (i ≤ j)
def O2.gt : O2 K := .bool0 fun i j => decide (j < i)
def O2.ge : O2 K := .bool0 fun i j => decide (j ≤ i)
instance (i j : Int) : Decidable (CMul i j) := by unfold CMul; exact inferInstance
instance (i j : Int) : Decidable (CMulW i j) := by unfold CMulW; exact inferInstance
instance (i j : Int) : Decidable (CDivW i j) := by unfold CDivW; exact inferInstance
instance (i j : Int) : Decidable (CPow i j) := by unfold CPow; exact inferInstance
def CMulU (i j : Int) : Prop := i.natAbs < 18446744073709551616 ∨ j.natAbs < 18446744073709551616 ∨ CMulW i j
instance (i j : Int) : Decidable (CMulU i j) := by unfold CMulU; exact inferInstance
theorem CMulU.ok {i j : Int} (h : CMulU i j) : IntMulOk i j := by
  rcases h with h | h | h
  · exact CMul.ok (.inl ⟨by omega, by omega⟩)
  · exact CMul.ok (.inr ⟨by omega, by omega⟩)
  · exact h.ok
theorem op_mulU {X : Cx} : OpR X (binaryOp .Mult) (rI CMulU fun i j => .int (i * j)) := opI fun _ _ _ _ _ _ _ hc q => mul_int q hc.ok
def O2.mul : O2 K := .intC CMulU fun i j => i * j
def CDivU (_ j : Int) : Prop := j ≠ 0 ∧ j.natAbs.log2 < 9000
instance (i j : Int) : Decidable (CDivU i j) := by unfold CDivU; exact inferInstance
def O2.div : O2 K := .intC CDivW fun i j => i / j
def O2.mod : O2 K := .intC (fun _ j => 0 < j) fun i j => i % j
def O2.pow : O2 K := .intC CPow fun i j => i ^ j.toNat
def O2.eq : O2 K where
  r := rEq
  ka := false
  kb := false
  f := fun x y => match x, y with
    | .v (.d (.int i)), .v (.d (.int j)) => some (.d (.bool (decide (i = j))))
    | .v (.d (.str i)), .v (.d (.str j)) => some (.d (.bool (decide (i = j))))
    | _, _ => none
  ok := fun x y z h => by
    split at h
    · cases h; exact o_eqI
    · cases h; exact o_eqS
    · cases h
def O2.ne : O2 K where
  r := rNe
  ka := false
  kb := false
  f := fun x y => match x, y with
    | .v (.d (.int i)), .v (.d (.int j)) => some (.d (.bool (!decide (i = j))))
    | .v (.d (.str i)), .v (.d (.str j)) => some (.d (.bool (!decide (i = j))))
    | _, _ => none
  ok := fun x y z h => by
    split at h
    · cases h; exact o_neI
    · cases h; exact o_neS
    · cases h
def O2.eqD : O2 K where
  r := rEqD K
  ka := false
  kb := false
  f := fun x y => match x, y with
    | .v (.d a), .v (.d b) => if SeqAt.shaped a = true ∧ SeqAt.shaped b = true then some (.d (.bool (PyData.eqv a b))) else none
    | _, _ => none
  ok := fun x y z h => by
    split at h
    · split at h
      · rename_i hc
        cases h; exact o_eqD hc.1 hc.2
      · cases h
    · cases h
def O2.neD : O2 K where
  r := rNeD K
  ka := false
  kb := false
  f := fun x y => match x, y with
    | .v (.d a), .v (.d b) => if SeqAt.shaped a = true ∧ SeqAt.shaped b = true then some (.d (.bool (!PyData.eqv a b))) else none
    | _, _ => none
  ok := fun x y z h => by
    split at h
    · split at h
      · rename_i hc
        cases h; exact o_neD hc.1 hc.2
      · cases h
    · cases h
def O2.isN : O2 K where
  r := fun x y H Q => y = .non ∧ Q (.bl (decide (x = .non))) H
  ka := false
  kb := false
  f := fun x y => match x, y with
    | .v (.d a), .v (.d .none) => some (.d (.bool (isNone a)))
    | _, _ => none
  ok := fun x y z h => by
    split at h
    · cases h; exact o_isN
    · cases h
def O2.notN : O2 K where
  r := fun x y H Q => y = .non ∧ Q (.bl (!decide (x = .non))) H
  ka := false
  kb := false
  f := fun x y => match x, y with
    | .v (.d a), .v (.d .none) => some (.d (.bool (!isNone a)))
    | _, _ => none
  ok := fun x y z h => by
    split at h
    · cases h; exact o_notN
    · cases h
def O2.ixL : O2 K where
  r := rIxL K
  ka := true
  kb := false
  f := fun x y => match x, y with
    | .l ds, .v (.d (.int i)) => (atI ds i).map Vl.d
    | _, _ => none
  ok := fun x y z h => by
    split at h
    · obtain ⟨d, h1, h2⟩ := Option.map_eq_some_iff.mp h
      cases h2
      exact o_ixL h1
    · cases h
def O2.ixT : O2 K where
  r := rIxT K
  ka := false
  kb := false
  f := fun x y => match x, y with
    | .v (.d (.tuple ds)), .v (.d (.int i)) => (atI ds i).map Vl.d
    | _, _ => none
  ok := fun x y z h => by
    split at h
    · obtain ⟨d, h1, h2⟩ := Option.map_eq_some_iff.mp h
      cases h2
      exact o_ixT h1
    · cases h
def intsOf : List PyData → Option (List Int)
  | [] => some []
  | .int n :: r => (intsOf r).map (n :: ·)
  | _ => none
theorem intsOf_some : ∀ {ds : List PyData} {ns : List Int}, intsOf ds = some ns → ds = ns.map .int
  | [], ns, h => by cases h; rfl
  | d :: r, ns, h => by
    cases d with
    | int n =>
      obtain ⟨ms, h1, h2⟩ := Option.map_eq_some_iff.mp (show (intsOf r).map (n :: ·) = some ns from h)
      subst h2
      rw [List.map_cons, intsOf_some h1]
    | _ => cases h
theorem intsOf_map : ∀ ns : List Int, intsOf (ns.map .int) = some ns
  | [] => rfl
  | n :: ns => by
    show (intsOf (ns.map .int)).map (n :: ·) = _
    rw [intsOf_map ns]
    rfl
def boolsOf : List PyData → Option (List Bool)
  | [] => some []
  | .bool n :: r => (boolsOf r).map (n :: ·)
  | _ => none
theorem boolsOf_some : ∀ {ds : List PyData} {ns : List Bool}, boolsOf ds = some ns → ds = ns.map .bool
  | [], ns, h => by cases h; rfl
  | d :: r, ns, h => by
    cases d with
    | bool n =>
      obtain ⟨ms, h1, h2⟩ := Option.map_eq_some_iff.mp (show (boolsOf r).map (n :: ·) = some ns from h)
      subst h2
      rw [List.map_cons, boolsOf_some h1]
    | _ => cases h
theorem boolsOf_map : ∀ ns : List Bool, boolsOf (ns.map .bool) = some ns
  | [] => rfl
  | n :: ns => by
    show (boolsOf (ns.map .bool)).map (n :: ·) = _
    rw [boolsOf_map ns]
    rfl
def O2.inL : O2 K where
  r := rIn K false
  ka := false
  kb := true
  f := fun x y => match x, y with
    | .v (.d (.int n)), .l ds => (intsOf ds).map fun ns => .d (.bool (decide (n ∈ ns)))
    | _, _ => none
  ok := fun x y z h => by
    split at h
    · obtain ⟨ns, h1, h2⟩ := Option.map_eq_some_iff.mp h
      cases h2
      rw [intsOf_some h1]
      exact o_inL
    · cases h
def O2N.cat : O2N K where
  r := rCat
  ka := true
  kb := true
  f := fun x y => match x, y with
    | .l ds, .l es => if ds.length + es.length ≤ 1000000 then some (ds ++ es) else none
    | _, _ => none
  ok := fun x y z h => by
    split at h
    · split at h
      · cases h; exact o_cat (by assumption)
      · cases h
    · cases h
def O2N.rep : O2N K where
  r := rRep
  ka := true
  kb := false
  f := fun x y => match x, y with
    | .l ds, .v (.d (.int k)) => if ds.length * k.toNat ≤ 1000000 ∧ k.natAbs < 9223372036854775808 then some (List.replicate k.toNat ds).flatten else none
    | _, _ => none
  ok := fun x y z h => by
    split at h
    · split at h
      · rename_i hc
        cases h; exact o_rep hc.1 (by omega) (by omega)
      · cases h
    · cases h
def Bi.len : Bi K where
  r := cLen K
  f := fun as => match as with
    | [.l ds] => some (.d (.int ds.length))
    | [.v (.s xs)] => some (.d (.int xs.length))
    | _ => none
  ok := fun as z h => by
    split at h
    · cases h; exact cl_len
    · cases h; exact cl_lenS
    · cases h
def Bi.abs : Bi K where
  r := cAbs
  f := fun as => match as with
    | [.v (.d (.int n))] => some (.d (.int (if n < 0 then -n else n)))
    | _ => none
  ok := fun as z h => by
    split at h
    · cases h; exact cl_abs
    · cases h
def Bi.int : Bi K where
  r := cInt
  f := fun as => match as with
    | [.v (.d (.int n))] => some (.d (.int n))
    | [.v (.d (.bool b))] => some (.d (.int (if b then 1 else 0)))
    | _ => none
  ok := fun as z h => by
    split at h
    · cases h; exact cl_int
    · cases h; exact cl_intB
    · cases h
def Bi.sum : Bi K where
  r := rSum K
  f := fun as => match as with
    | [.l ds] => (intsOf ds).map fun ns => .d (.int ns.sum)
    | _ => none
  ok := fun as z h => by
    split at h
    · obtain ⟨ns, h1, h2⟩ := Option.map_eq_some_iff.mp h
      cases h2
      rw [intsOf_some h1]
      exact cl_sum
    · cases h
def Bi.any : Bi K where
  r := rAny K
  f := fun as => match as with
    | [.l ds] => (boolsOf ds).map fun ns => .d (.bool (ns.any id))
    | _ => none
  ok := fun as z h => by
    split at h
    · obtain ⟨ns, h1, h2⟩ := Option.map_eq_some_iff.mp h
      cases h2
      rw [boolsOf_some h1]
      exact cl_any
    · cases h
def Bi.all : Bi K where
  r := rAll K
  f := fun as => match as with
    | [.l ds] => (boolsOf ds).map fun ns => .d (.bool (ns.all id))
    | _ => none
  ok := fun as z h => by
    split at h
    · obtain ⟨ns, h1, h2⟩ := Option.map_eq_some_iff.mp h
      cases h2
      rw [boolsOf_some h1]
      exact cl_all
    · cases h
def BiN.list : BiN K where
  r := cList K
  f := fun as => match as with
    | [.l ds] => some ds
    | _ => none
  ok := fun as z h => by
    split at h
    · cases h; exact cl_list
    · cases h
def Bi.gcd : Bi K where
  r := rGcd
  f := fun as => match as with
    | [.v (.d (.int a)), .v (.d (.int b))] => some (.d (.int ((Nat.gcd a.natAbs b.natAbs : Nat) : Int)))
    | _ => none
  ok := fun as z h => by
    split at h
    · cases h
      exact fun G H L vs Q l r q => by
        cases r with
        | cons h1 t =>
          cases t with
          | cons h2 t =>
            cases t; cases h1; cases h2
            exact ⟨_, _, rfl, q _ (Dq.int _)⟩
    · cases h
def rLcm : List V → Hp → VK → Prop := fun vs H Q => ∃ a b : Int, vs = [.int a, .int b] ∧ (a.natAbs.log2 < 9000 ∧ b.natAbs.log2 < 9000) ∧ Q (.int ((Nat.lcm a.natAbs b.natAbs : Nat) : Int)) H
theorem log_pow {n k : Nat} (h : n.log2 < k) : n < 2 ^ k := by
  by_cases z : n = 0
  · rw [z]; exact Nat.two_pow_pos k
  · exact (Nat.log2_lt z).mp h
theorem cr_lcm {X : Cx} : CallR X (.builtin "math.lcm") rLcm := by
  intro pins s σ H vs us Q I r h
  obtain ⟨a, b, rfl, ⟨ha, hb⟩, q⟩ := h
  obtain ⟨t, u, rfl⟩ := Vals.int2 r
  have e : Nat.lcm 1 a.natAbs = a.natAbs := by simp [Nat.lcm]
  have h1 : (max 1 a.natAbs).log2 < 9000 := by
    rcases Nat.le_total 1 a.natAbs with z | z
    · rw [Nat.max_eq_right z]; exact ha
    · rw [Nat.max_eq_left z]; decide
  have h2 : (max a.natAbs b.natAbs).log2 < 9000 := by
    rcases Nat.le_total a.natAbs b.natAbs with z | z
    · rw [Nat.max_eq_right z]; exact hb
    · rw [Nat.max_eq_left z]; exact ha
  have hl : (a.natAbs.lcm b.natAbs) < 2 ^ (18000 + 1) := by
    have := PySem.W.mc_lcm_le a.natAbs b.natAbs
    refine Nat.lt_of_le_of_lt this ?_
    have := Nat.mul_lt_mul'' (log_pow ha) (log_pow hb)
    rw [← Nat.pow_add] at this
    exact Nat.lt_of_lt_of_le this (Nat.pow_le_pow_right (by decide) (by decide))
  have hsz : ((((Nat.lcm 1 a.natAbs).lcm b.natAbs : Nat) : Int)).natAbs.log2 < bitsLine := by
    rw [e, Int.natAbs_natCast]
    have := PySem.W.mg_log hl
    have e2 : bitsLine = 134217728 := by decide
    omega
  have g := (PySem.W.mg_run_lcm a t b u (by omega) (by omega) hsz).meets
  exact call_function_meets PySem.W.MGF.kind_lcm PySem.W.MGF.plain_lcm PySem.W.MGF.entry_lcm (PySem.W.MGF.args_lcm _ _) g (by rw [e]; exact ⟨.int _, H, I.tok _, ⟨_, rfl⟩, q⟩)
def Bi.lcm : Bi K where
  r := rLcm
  f := fun as => match as with
    | [.v (.d (.int a)), .v (.d (.int b))] => if a.natAbs.log2 < 9000 ∧ b.natAbs.log2 < 9000 then some (.d (.int ((Nat.lcm a.natAbs b.natAbs : Nat) : Int))) else none
    | _ => none
  ok := fun as z h => by
    split at h
    · split at h
      · rename_i hc
        cases h
        exact fun G H L vs Q l r q => by
          cases r with
          | cons h1 t =>
            cases t with
            | cons h2 t =>
              cases t; cases h1; cases h2
              exact ⟨_, _, rfl, hc, q _ (Dq.int _)⟩
      · cases h
    · cases h
theorem cut_ints {xs : List Int} {lo hi : Option Int} {G : Hp} : DqAll G (cutV (xs.map V.int) lo hi) (cutD (xs.map PyData.int) lo hi) := cut_all (dpAll_of_ints xs) lo hi
def XN.slS (e : XE K) (lo hi : XO K) : XN K where
  te := fun md => tSl (rSlL K) (e.te md) (lo.to md) (hi.to md)
  ev := fun st => match okV (e.ev st), okV (lo.ev st), okV (hi.ev st) with
    | some (.s xs), some l, some h => .ok (cutD (xs.map .int) l h)
    | _, _, _ => .no
  ok := fun md st => by
    split
    · rename_i xs l u h1 h2 h3
      have o0 := e.ok md st
      have o1 := lo.ok md st
      have o2 := hi.ok md st
      rw [okV_some h1] at o0
      rw [okV_some h2] at o1
      rw [okV_some h3] at o2
      exact ⟨fun Q s q => o0.run _ s fun G1 H1 v e1 s1 r => o1.run _ s1 fun G2 H2 e2 s2 => o2.run _ s2 fun G3 H3 e3 s3 => by
        obtain ⟨L, a, b⟩ := id s3
        obtain ⟨p, rfl, hv⟩ := r G3 L H3 (e2.trans e3) a b
        exact ⟨p, _, rfl, sqL_up b.same hv, fun n hn => q G3 H3 n _ ((e1.trans e2).trans e3) s3 hn cut_ints⟩⟩
    · trivial
def zipD : List PyData → List PyData → List PyData
  | d :: ds, e :: es => .tuple [d, e] :: zipD ds es
  | _, _ => []
theorem zipD_len : ∀ (ds es : List PyData), (zipD ds es).length = min ds.length es.length
  | [], es => by simp [zipD]
  | d :: ds, [] => by simp [zipD]
  | d :: ds, e :: es => by
    show (zipD ds es).length + 1 = _
    rw [zipD_len ds es]
    simp only [List.length_cons]
    omega
theorem zipD_get : ∀ (ds es : List PyData) (i : Nat) (h : i < (zipD ds es).length) (h1 : i < ds.length) (h2 : i < es.length), (zipD ds es)[i] = .tuple [ds[i], es[i]]
  | [], es, i, h, h1, h2 => absurd h1 (Nat.not_lt_zero _)
  | d :: ds, [], i, h, h1, h2 => absurd h2 (Nat.not_lt_zero _)
  | d :: ds, e :: es, 0, h, h1, h2 => rfl
  | d :: ds, e :: es, i + 1, h, h1, h2 => zipD_get ds es i (by simpa [zipD] using h) (by simpa using h1) (by simpa using h2)
def XI.zip (a b : XE K) : XI K where
  ti := fun md => iZip K (tCons (a.te md) (tCons (b.te md) tNil))
  ev := fun st => match a.es st, b.es st with
    | some ds, some es => .ok (zipD ds es)
    | _, _ => .no
  ok := fun md st => by
    split
    · rename_i ds es h1 h2
      have o1 := a.oks md st ds h1
      have o2 := b.oks md st es h2
      exact ⟨fun {G σ L0 H} Q s q => o1.run _ s fun G1 H1 a1 vs e1 s1 c1 d1 => o2.run _ s1 fun G2 H2 a2 ws e2 s2 c2 d2 => by
        obtain ⟨L, sl, la⟩ := id s2
        refine ⟨a1, a2, vs, ws, rfl, c1 _ _ _ e2 la, c2 _ _ _ (Same.refl _) la, q G2 H2 _ (e1.trans e2) s2 ⟨fun i G L H e3 l hi => ?_, fun i G L H e3 l hi => ?_⟩⟩
        · have hi2 := hi
          rw [zipD_len] at hi2
          have i1 : i < ds.length := by omega
          have i2 : i < es.length := by omega
          have hq1 := c1 _ _ _ (e2.trans e3) l
          have hq2 := c2 _ _ _ e3 l
          obtain ⟨v, hv, dv⟩ := dpAll_get d1 (List.getElem?_eq_getElem i1)
          obtain ⟨w, hw, dw⟩ := dpAll_get d2 (List.getElem?_eq_getElem i2)
          refine ⟨⟨vs, ws, v, w, hq1, hq2, hv, hw⟩, fun x H' y => ?_⟩
          obtain ⟨T, x1, x2, rfl, hT, rfl, y1, y2⟩ := y
          have ex1 : x1 = v := Option.some.inj ((y1 vs hq1).symm.trans hv)
          have ex2 : x2 = w := Option.some.inj ((y2 ws hq2).symm.trans hw)
          subst ex1
          subst ex2
          have g := same_upd (o := .tup [x1, x2]) (l.freshG hT)
          refine ⟨_, g, fun L l => l.grow hT, ?_⟩
          rw [zipD_get ds es i hi i1 i2]
          exact Dq.tup upd_same (.cons (dp_up ((e2.trans e3).trans g) dv) (.cons (dp_up (e3.trans g) dw) .nil))
        · refine ⟨vs, ws, c1 _ _ _ (e2.trans e3) l, c2 _ _ _ e3 l, ?_⟩
          rw [zipD_len] at hi
          rw [dpAll_len d1, dpAll_len d2]
          omega⟩
    · trivial
theorem strs_flat : ∀ ss : List Str, (ss.map V.str).all flatV = true
  | [] => rfl
  | s :: ss => by
    rw [List.map_cons, List.all_cons, strs_flat ss]
    rfl
theorem inV_strs (s : Str) : ∀ ss : List Str, inV (.str s) (ss.map V.str) = decide (s ∈ ss)
  | [] => rfl
  | t :: ss => by
    have ih := inV_strs s ss
    show (_ || inV (.str s) (ss.map V.str)) = _
    rw [ih]
    have e : eqV (.str t) (.str s) = decide (t = s) := by first | rfl | simp [eqV]
    by_cases h : s = t
    · subst h; simp [e]
    · have h2 : t ≠ s := fun z => h z.symm
      simp [h, h2, e]
def XE.inK (neg : Bool) (a : XE K) (p : Addr) (ss : List Str) (h : ∀ H : Hp, SqT K H p (ss.map V.str)) : XE K := .of (fun md => tOp (rIn K neg) (a.te md) (tC (.ref p)))
  (fun st => (a.ev st).bind fun x => match x with
    | .d (.str s) => .ok (.d (.bool (if neg then !decide (s ∈ ss) else decide (s ∈ ss))))
    | _ => .no)
  fun md st => (a.ok md st).bind (fun C n W h => fun Q s q => h _ s q) fun x hx => by
    split
    · rename_i s
      exact Ev.pure fun {G σ L0 H} Q st' q => hx.atp st' fun G1 H1 v e1 s1 r => by
        cases r
        refine ⟨p, _, rfl, .inr (h H1), rfl, strs_flat ss, ?_⟩
        rw [inV_strs]
        exact q _ _ _ e1 s1 (by cases neg <;> exact Dq.bl _)
    · trivial
def isSeq : PyData → Bool
  | .list _ => true
  | .tuple _ => true
  | _ => false
def reprOk (x : PyData) : Bool := isSeq x && (x.showable && (!x.hasDict && (decide (x.depth ≤ 60) && decide (x.shown.length ≤ sizeLine))))
def Bi.repr : Bi K where
  r := cRepr
  f := fun as => match as with
    | [.v (.d x)] => if reprOk x = true then some (.d (.str x.shown)) else none
    | _ => none
  ok := fun as z h => by
    split at h
    · rename_i x
      split at h
      · rename_i hc
        cases h
        unfold reprOk at hc
        simp only [Bool.and_eq_true, decide_eq_true_eq, Bool.not_eq_true'] at hc
        obtain ⟨h1, h2, h3, h4, h5⟩ := hc
        exact fun G H L vs Q l r q => by
          cases r with
          | cons hd t =>
            cases t
            have hd : Dq G _ x := hd
            cases x with
            | list ds =>
              cases hd with
              | lst a b => exact ⟨_, .list ds, rfl, .lst (l.same _ _ a) (dpAll_up l.same b), h2, h3, h4, h5, q _ (Dq.str _)⟩
            | tuple ds =>
              cases hd with
              | tup a b => exact ⟨_, .tuple ds, rfl, .tup (l.same _ _ a) (dpAll_up l.same b), h2, h3, h4, h5, q _ (Dq.str _)⟩
            | _ => cases h1
      · cases h
    · cases h
end
end R

set_option Elab.async false
set_option linter.all false
set_option maxRecDepth 100000
set_option maxHeartbeats 2000000
namespace R
open PySem PySem.Spec PyProof.Rows L2 Z
theorem stt_lend {G H : Hp} {ρ : List Sl} {σ : L2.St} {L0 : List Cell} {ds : List PyData} {i : Nat} (s : Stt G ρ σ L0 H) (hi : ρ[i]? = some (.o (oL ds))) :
    ∃ cs, Stt G (ρ.set i (.b (bL ds))) σ (cs ++ L0) H ∧ ∀ G' H', Same G G' → Stt G' (ρ.set i (.b (bL ds))) σ (cs ++ L0) H' → Stt G' ρ σ L0 H' := by
  obtain ⟨L, sl, la⟩ := s
  obtain ⟨a, cs, M, h1, h2, h3, h4⟩ := slots_out sl hi
  obtain ⟨vs, hcs, hd⟩ := id h2
  have la2 : Lay G (M ++ (cs ++ L0)) H := by
    refine la.perm ?_
    refine (h3.append_right L0).trans ?_
    rw [List.append_assoc]
    exact perm_swap _ _ _
  refine ⟨cs, ⟨M, slots_b_of (v := .ref a) ?_ (h4.mono fun c hc => List.mem_append_right _ hc) h1, la2⟩, fun G' H' e s' => ?_⟩
  · exact ⟨a, vs, rfl, .inr (List.mem_append_left _ (by rw [hcs]; exact List.mem_cons_self ..)), hd⟩
  · obtain ⟨L', sl', la'⟩ := s'
    have sx := slots_x_of sl'
    have sy := Slots.mix e h4 sx
    obtain ⟨L2, s2, p2⟩ := slots_in ((oL ds).up e h2) sy h1 hi
    refine ⟨L2, s2, la'.perm ?_⟩
    refine (perm_swap _ _ _).trans ?_
    rw [← List.append_assoc]
    exact (p2.symm).append_right L0
section
variable {K : PySem.W.Frag}
theorem EvN.lend {te : TE} {ρ : List Sl} {ds r : List PyData} {i : Nat} (hi : ρ[i]? = some (.o (oL ds))) (h : EvN te (ρ.set i (.b (bL ds))) r) : EvN te ρ r := ⟨fun {G σ L0 H} Q s q => by
  obtain ⟨cs, s1, back⟩ := stt_lend s hi
  exact h.run Q s1 fun G' H' p vs e s2 hp d => q G' H' p vs e (back G' H' e s2) hp d⟩
def XN.lend (i : Nat) (n : XN K) : XN K where
  te := n.te
  ev := fun st => match st[i]? with
    | some (.ol ds) => (match n.ev (st.set i (.bl ds)) with
      | .ok r => .ok r
      | _ => .no)
    | _ => n.ev st
  ok := fun md st => by
    cases hi : st[i]? with
    | none => exact n.ok md st
    | some s =>
      cases s with
      | ol ds =>
        have := n.ok md (st.set i (.bl ds))
        show Cm md _ _ _ (match n.ev (st.set i (.bl ds)) with
          | .ok r => .ok r
          | _ => .no)
        cases he : n.ev (st.set i (.bl ds)) with
        | ok r =>
          rw [he, sls_set] at this
          exact EvN.lend (sls_get (K := K) hi) this
        | ex _ _ => trivial
        | no => trivial
      | _ => exact n.ok md st
theorem slots_px {G : Hp} {L0 : List Cell} {R : Rp} : ∀ {σ : L2.St} {ρ : List Sl} {M : List Cell} {i : Nat}, Slots G L0 σ ρ M → ρ[i]? = some (.p R) → Slots G L0 σ (ρ.set i .x) M
  | σ, [], M, i, h, h1 => h
  | σ, r :: ρ, M, 0, h, h1 => by
    have h1 : r = .p R := by simpa using h1
    subst h1
    cases h with
    | p q s' => exact .x s'
  | σ, r :: ρ, M, i + 1, h, h1 => by
    show Slots G L0 σ (r :: ρ.set i .x) M
    cases h with
    | x s' => exact .x (slots_px s' (by simpa using h1))
    | p q' s' => exact .p q' (slots_px s' (by simpa using h1))
    | b q' s' => exact .b q' (slots_px s' (by simpa using h1))
    | o q' s' => exact .o q' (slots_px s' (by simpa using h1))
theorem slots_xp {G : Hp} {L0 : List Cell} {R : Rp} {v : V} (q : R.p G v) : ∀ {σ : L2.St} {ρ : List Sl} {M : List Cell} {i : Nat}, Slots G L0 σ (ρ.set i .x) M → σ[i]? = some (some v) → ρ[i]? = some (.p R) → Slots G L0 σ ρ M
  | σ, [], M, i, h, h1, h2 => by simp at h2
  | σ, r :: ρ, M, 0, h, h1, h2 => by
    have h2 : r = .p R := by simpa using h2
    subst h2
    have h : Slots G L0 σ (.x :: ρ) M := h
    cases h with
    | @x w σ' _ _ s' =>
      have h1 : w = some v := by simpa using h1
      subst h1
      exact .p q s'
  | σ, r :: ρ, M, i + 1, h, h1, h2 => by
    have h : Slots G L0 σ (r :: ρ.set i .x) M := h
    cases h with
    | x s' => exact .x (slots_xp q s' (by simpa using h1) (by simpa using h2))
    | p q' s' => exact .p q' (slots_xp q s' (by simpa using h1) (by simpa using h2))
    | b q' s' => exact .b q' (slots_xp q s' (by simpa using h1) (by simpa using h2))
    | o q' s' => exact .o q' (slots_xp q s' (by simpa using h1) (by simpa using h2))
theorem EvN.blank {te : TE} {ρ : List Sl} {r : List PyData} {R : Rp} {i : Nat} (hi : ρ[i]? = some (.p R)) (h : EvN te (ρ.set i .x) r) : EvN te ρ r := ⟨fun {G σ L0 H} Q s q => by
  obtain ⟨v, hv, rv⟩ := s.get_p hi
  obtain ⟨L, sl, la⟩ := s
  exact h.run Q ⟨L, slots_px sl hi, la⟩ fun G' H' p vs e ⟨L', sl', la'⟩ hp d => q G' H' p vs e ⟨L', slots_xp (R.up e rv) sl' hv hi, la'⟩ hp d⟩
def XN.blank (i : Nat) (n : XN K) : XN K where
  te := n.te
  ev := fun st => match st[i]? with
    | some (.v _) => (match n.ev (st.set i .x) with
      | .ok r => .ok r
      | _ => .no)
    | _ => n.ev st
  ok := fun md st => by
    cases hi : st[i]? with
    | none => exact n.ok md st
    | some s =>
      cases s with
      | v a =>
        have := n.ok md (st.set i .x)
        show Cm md _ _ _ (match n.ev (st.set i .x) with
          | .ok r => .ok r
          | _ => .no)
        cases he : n.ev (st.set i .x) with
        | ok r =>
          rw [he, sls_set] at this
          exact EvN.blank (sls_get (K := K) hi) this
        | ex _ _ => trivial
        | no => trivial
      | _ => exact n.ok md st
def tIfT (t u v : TT) : TT := fun σ H Q => t σ H fun c H1 => if c = true then u σ H1 Q else v σ H1 Q
def XT.ife (t a b : XT K) : XT K where
  tt := fun md => tIfT (t.tt md) (a.tt md) (b.tt md)
  ev := fun st => (t.ev st).bind fun x => match x with
    | true => a.ev st
    | false => b.ev st
  ok := fun md st => (t.ok md st).bind (fun C n W h => fun Q s q => h _ s q) fun x hx => by
    cases x with
    | true =>
      have ha := a.ok md st
      show Cm md _ _ _ (a.ev st)
      cases he : a.ev st with
      | ok y => rw [he] at ha; exact ⟨fun Q s q => hx.run _ s fun G1 H1 e1 s1 => by rw [if_pos rfl]; exact ha.run _ s1 fun G2 H2 e2 s2 => q G2 H2 (e1.trans e2) s2⟩
      | ex C n =>
        rw [he] at ha
        exact fun l W w => fun {G σ L0 H} Q s q => hx.run _ s fun G1 H1 e1 s1 => by
          rw [if_pos rfl]
          exact ha l W w _ s1 fun G2 H2 d e2 s2 hd => q G2 H2 d (e1.trans e2) s2 hd
      | no => trivial
    | false =>
      have hb := b.ok md st
      show Cm md _ _ _ (b.ev st)
      cases he : b.ev st with
      | ok y => rw [he] at hb; exact ⟨fun Q s q => hx.run _ s fun G1 H1 e1 s1 => by rw [if_neg (by decide)]; exact hb.run _ s1 fun G2 H2 e2 s2 => q G2 H2 (e1.trans e2) s2⟩
      | ex C n =>
        rw [he] at hb
        exact fun l W w => fun {G σ L0 H} Q s q => hx.run _ s fun G1 H1 e1 s1 => by
          rw [if_neg (by decide)]
          exact hb l W w _ s1 fun G2 H2 d e2 s2 hd => q G2 H2 d (e1.trans e2) s2 hd
      | no => trivial
theorem Ex.par {W : WX} {ta : TA} {ρ : List Sl} {R1 R2 : Rp} {i j : Nat} (h : EvA ta ρ [pu R1, pu R2]) : Ex W (tPar i j ta) ρ (.nx ((ρ.set i (.p R1)).set j (.p R2))) := ⟨fun {G σ L0 H} D s q => h.at s fun G1 H1 vs L e1 sl la r => by
  cases r with
  | @cons v vs _ _ h1 t =>
    cases t with
    | @cons w vs _ _ h2 t =>
      cases t
      have s1 : Stt G1 ρ σ L0 H1 := ⟨L, sl, la⟩
      obtain ⟨G2, e2, s2⟩ := s1.set_p h1 i
      obtain ⟨G3, e3, s3⟩ := s2.set_p (R2.up e2 h2) j
      exact ⟨v, w, rfl, q G3 _ H1 ((e1.trans e2).trans e3) s3⟩⟩
def XS.par (i j : Nat) (as : XA K) : XS K where
  ts := fun md => tPar i j (as.ta md)
  ev := fun st => (as.ev st).oc st fun xs => match xs with
    | [.v a, .v b] => .nx ((st.set i (.v a)).set j (.v b))
    | _ => .no
  ok := fun md W st w => oc_ok w (as.ok md st) (fun C n h => ⟨fun D s q => h _ s fun G' H' d e s' hd => q G' _ H' d e s' hd⟩) fun xs h => by
    split
    · rename_i a b
      show Ex _ _ _ (.nx (sls K ((st.set i (.v a)).set j (.v b))))
      rw [sls_set, sls_set]
      exact Ex.par h
    · trivial
def lawFn : Fn := ⟨1, false, fun as => match as with
  | [.v (.s xs)] => if xs.length ≤ 63 then .ok (.d (.bool true)) else .no
  | _ => .no⟩
theorem law_run {vs : List V} {H : Hp} {Q : VK} {E : XK} (s : XS K) (N : List Str) (h : SpA (α := List Int) (fun xs => xs.length ≤ 63) (fun xs => [pu (scR K xs)]) (fun _ => .ok (dB true)) vs H Q E)
    (hs : ∀ xs : List Int, xs.length ≤ 63 → runX s false (N.length - 1) [.v (.s xs)] = .ok (.d (.bool true))) : s.ts (.out E) { nx := fun _ H' => Q .non H', rt := Q } (L2.start N vs) H := by
  refine Fn.run (F := lawFn) s N ?_ ?_
  · obtain ⟨xs, G, L, hp, la, al, r⟩ := h
    have hf : lawFn.f [.v (.s xs)] = .ok (.d (.bool true)) := if_pos hp
    refine ⟨⟨[.v (.s xs)], rfl⟩, G, L, by show lawFn.f [.v (.s xs)] ≠ _; rw [hf]; exact fun z => (nomatch z), la, al, ?_⟩
    show ResP Q E G L (resOf K false (lawFn.f [.v (.s xs)]))
    rw [hf]
    exact r
  · intro as hm hn
    show runX s false (N.length - 1) as = _
    have hd : ∀ as : List Av, lawFn.f as ≠ .no → ∃ xs : List Int, as = [.v (.s xs)] ∧ xs.length ≤ 63 := by
      intro as hn
      unfold lawFn at hn
      simp only at hn
      split at hn
      · split at hn
        · exact ⟨_, rfl, by assumption⟩
        · exact absurd rfl hn
      · exact absurd rfl hn
    obtain ⟨xs, rfl, hl⟩ := hd as hn
    rw [hs xs hl]
    exact (if_pos hl).symm
end
end R

set_option Elab.async false
set_option linter.all false
set_option maxRecDepth 100000
set_option maxHeartbeats 2000000
namespace R
open PySem PySem.Spec PyProof.Rows L2 Z
section
variable {K : PySem.W.Frag}
theorem sls_blank {st : List Sv} {i : Nat} : sls K (st.set i .x) = (sls K st).set i .x := sls_set
structure XNN (K : PySem.W.Frag) where
  te : Md → TE
  ev : List Sv → Rs (List (List PyData))
  ok : ∀ md st, Cm md (te md) (sls K st) (fun dss => EvNN (te md) (sls K st) dss) (ev st)
def lcNs (g : XG K) (n : XN K) (st : List Sv) : List PyData → Option (List (List PyData))
  | [] => some []
  | d :: ds => (g.ev d st).bind fun st1 => (okV (n.ev st1)).bind fun r => (lcNs g n st ds).map fun rs => r :: rs
def lcNf (g : XG K) (n : XN K) (st : List Sv) (d : PyData) : List PyData := match (g.ev d st).bind fun st1 => okV (n.ev st1) with
  | some r => r
  | none => []
theorem lcNs_some {g : XG K} {n : XN K} {st : List Sv} : ∀ {ds : List PyData} {r : List (List PyData)}, lcNs g n st ds = some r → r = ds.map (lcNf g n st) ∧ ∀ d ∈ ds, ∃ st1 x, g.ev d st = some st1 ∧ okV (n.ev st1) = some x
  | [], r, h => by cases h; exact ⟨rfl, fun _ z => nomatch z⟩
  | d :: ds, r, h => by
    rw [lcNs] at h
    obtain ⟨st1, h1, h2⟩ := Option.bind_eq_some_iff.mp h
    obtain ⟨x, h3, h4⟩ := Option.bind_eq_some_iff.mp h2
    obtain ⟨rs, h5, rfl⟩ := Option.map_eq_some_iff.mp h4
    obtain ⟨h6, h7⟩ := lcNs_some h5
    refine ⟨?_, ?_⟩
    · rw [List.map_cons, ← h6]
      congr 1
      unfold lcNf
      rw [h1]
      show x = (match okV (n.ev st1) with
        | some r => r
        | none => [])
      rw [h3]
    · intro z hz
      rcases List.mem_cons.mp hz with rfl | hz
      · exact ⟨st1, x, h1, h3⟩
      · exact h7 z hz
def XNN.lc (it : XI K) (g : XG K) (n : XN K) (vs : List Nat) : XNN K where
  te := fun md => tLc (it.ti md) g.tg tYes (n.te .qu) vs
  ev := fun st => (it.ev st).bind fun ds => if ds.length ≤ 100000 ∧ allXb st vs = true ∧ (g.T.all fun i => decide (i ∈ vs)) = true then Rs.of (lcNs g n st ds) else .no
  ok := fun md st => (it.ok md st).bind (fun C n W h => fun Q s q => h _ s q) fun ds h => by
    split
    · rename_i hc
      cases hl : lcNs g n st ds with
      | none => trivial
      | some r =>
        obtain ⟨h1, h2⟩ := lcNs_some hl
        show EvNN _ _ r
        rw [h1]
        have hts : ∀ i ∈ g.T, i ∈ vs := fun i hi => of_decide_eq_true (List.all_eq_true.mp hc.2.2 i hi)
        refine en_lcN (en := id) (by rw [List.map_id]; exact h) (allXb_ok hc.2.1) hc.1 fun d hd => ?_
        obtain ⟨st1, x, k1, k2⟩ := h2 d hd
        obtain ⟨eg, ag⟩ := g.ok d st st1 k1
        have hn := n.ok .qu st1
        rw [okV_some k2] at hn
        have ef : lcNf g n st d = x := by
          unfold lcNf
          rw [k1]
          show (match okV (n.ev st1) with
            | some r => r
            | none => []) = x
          rw [k2]
        rw [ef]
        exact ⟨g.T, sls K st1, eg, hts, wk_agree ag hc.2.1 hts, hn⟩
    · trivial
end
end R

set_option Elab.async false
set_option linter.all false
set_option maxRecDepth 100000
set_option maxHeartbeats 2000000
namespace R
open PySem PySem.Spec PyProof.Rows L2 Z
section
variable {K : PySem.W.Frag}
def dOf : Rs Vl → Option PyData
  | .ok (.d d) => some d
  | _ => none
theorem dOf_some {r : Rs Vl} {d : PyData} (h : dOf r = some d) : r = .ok (.d d) := by
  cases r with
  | ok a => cases a with
    | d x => cases h; rfl
    | _ => cases h
  | ex _ _ => cases h
  | no => cases h
def XE.getD (i : Nat) (k : XE K) : XE K := .of (fun md => tDGet (tVar i) (k.te md)) (fun st => match st[i]? with
    | some (.odk kvs) => match okV (k.iv st) with
      | some n => match dGet kvs n with
        | some d => .ok (.d d)
        | none => .no
      | none => .no
    | _ => .no)
  fun md st => by
    split
    · rename_i kvs hi
      split
      · rename_i n hn
        split
        · rename_i d hd
          have h2 := k.iv_ok md st
          rw [okV_some hn] at h2
          exact ev_getD (sls_get (K := K) hi) h2 hd
        · trivial
      · trivial
    · trivial
def XN.lrg2 (a b : XE K) : XN K where
  te := fun md => tLstRg (tRg2 (a.te md) (b.te md))
  ev := fun st => match okV (a.iv st), okV (b.iv st) with
    | some m, some n => if m.natAbs < 1000000 ∧ n.natAbs < 1000000 then .ok (irange m (n - m).toNat) else .no
    | _, _ => .no
  ok := fun md st => by
    split
    · rename_i m n hm hn
      split
      · rename_i hl
        have h1 := a.iv_ok md st
        rw [okV_some hm] at h1
        have h2 := b.iv_ok md st
        rw [okV_some hn] at h2
        exact en_lrg2 h1 h2 hl.1 hl.2
      · trivial
    · trivial
theorem o_inD {d : PyData} {ds : List PyData} (h1 : SeqAt.shaped d = true) (h2 : SeqAt.shaped (.list ds) = true) : Op2 (rInD K) (pu (dat d)) (bL ds) (dB (ds.any fun z => PyData.eqv z d)) := fun G H L x y Q l hx hy q => by
  obtain ⟨a, vs, rfl, h, dd⟩ := bl_sq l hy
  exact ⟨d, ds, dq_dp (dp_up l.same hx), dq_dp (Dq.lst h (dpAll_up l.same dd)), h1, h2, q _ (Dq.bl _)⟩
def O2.inLD : O2 K where
  r := rInD K
  ka := false
  kb := true
  f := fun x y => match x, y with
    | .v (.d d), .l ds => if SeqAt.shaped d = true ∧ SeqAt.shaped (.list ds) = true then some (.d (.bool (ds.any fun z => PyData.eqv z d))) else none
    | _, _ => none
  ok := fun x y z h => by
    split at h
    · split at h
      · rename_i hc
        cases h; exact o_inD hc.1 hc.2
      · cases h
    · cases h
end
end R
namespace R
open PySem PySem.Spec PyProof.Rows L2 Z
theorem room65 {k : Nat} {A : Around} (r : Room k A) : A.units + 65 < cLine := by have := r.un; omega
section
variable {K : PySem.W.Frag} {X : Cx}
theorem kop_inD (K : PySem.W.Frag) (hu : X.A.units + 65 < cLine) (h : X.K = K := by rfl) : OpR X (compareOp .In) (rInD K) := by subst h; exact op_inD hu
end
end R

set_option Elab.async false
set_option linter.all false
set_option maxRecDepth 100000
set_option maxHeartbeats 2000000
namespace R
open PySem PySem.Spec PyProof.Rows L2 Z
section
variable {K : PySem.W.Frag}
structure Mo (K : PySem.W.Frag) where
  r : V → List V → Hp → VK → Prop
  f : List PyData → Av → Option Vl
  ok : ∀ ds y z, f ds y = some z → ∀ (G H : Hp) (L : List Cell) (v w : V) (Q : VK), Lay G L H → (bL ds).p G L v → (bw K y).p G L w → (∀ u, (vr K z).p G u → Q u H) → r v [w] H Q
def Mo.index : Mo K where
  r := rIndexD K
  f := fun ds y => match y with
    | .v (.d d) => if SeqAt.shaped d = true ∧ SeqAt.shaped (.list ds) = true then (ds.findIdx? fun z => PyData.eqv z d).map fun j => .d (.int (j : Nat)) else none
    | _ => none
  ok := fun ds y z h => by
    split at h
    · rename_i d
      split at h
      · rename_i hc
        obtain ⟨j, hj, rfl⟩ := Option.map_eq_some_iff.mp h
        obtain ⟨hjl, h1, h2⟩ := List.findIdx?_eq_some_iff_getElem.mp hj
        intro G H L v w Q l hx hy q
        obtain ⟨a, vs, rfl, hv, dd⟩ := bl_sq l hx
        exact ⟨a, w, d, ds, j, ds[j], rfl, rfl, dq_dp (Dq.lst hv (dpAll_up l.same dd)), dq_dp (dp_up l.same hy), hc.2, hc.1, List.getElem?_eq_getElem hjl, h1, fun m z' hm hz => by
          obtain ⟨hml, rfl⟩ := List.getElem?_eq_some_iff.mp hz
          simpa using h2 m hm, q _ (Dq.int _)⟩
      · cases h
    · cases h
end
end R

set_option Elab.async false
set_option linter.all false
set_option maxRecDepth 100000
set_option maxHeartbeats 2000000
namespace R
open PySem PySem.Spec PyProof.Rows L2 Z
section
variable {K : PySem.W.Frag}
def XS.appT (i : Nat) (k e : XE K) : XS K where
  ts := fun md => tDrop (tBM K "list" rAppend (tOp (rIxT K) (tVar i) (k.te md)) (tCons (e.te md) tNil))
  ev := fun st => match st[i]? with
    | some (.otc ps) => match okV (k.iv st), okV (e.ev (st.set i .x)) with
      | some n, some (.d d) => match ixN ps.length n with
        | some j => match ps[j]? with
          | some (.l ds) => if ds.length < 1000000 then .nx (st.set i (.otc (ps.set j (.l (ds ++ [d]))))) else .no
          | _ => .no
        | none => .no
      | _, _ => .no
    | _ => .no
  ok := fun md W st w => by
    split
    · rename_i ps hi
      split
      · rename_i n d hk he
        split
        · rename_i j hj
          split
          · rename_i ds hd
            split
            · rename_i hz
              have h1 := k.iv_ok md st
              rw [okV_some hk] at h1
              have h2 := e.ok md (st.set i .x)
              rw [okV_some he, sls_blank] at h2
              show Ex _ _ _ (.nx (sls K (st.set i (.otc (ps.set j (.l (ds ++ [d])))))))
              rw [sls_set]
              exact Ex.appendT (sls_get (K := K) hi) h1 hj hd h2 hz rfl
            · trivial
          · trivial
        · trivial
      · trivial
    · trivial
inductive XC (K : PySem.W.Frag) where
  | nil | v (e : XE K) (r : XC K) | l (n : XN K) (r : XC K)
def XC.ta : XC K → Md → TA
  | .nil, _ => tNil
  | .v e r, md => tCons (e.te md) (r.ta md)
  | .l n r, md => tCons (n.te md) (r.ta md)
def XC.ev : XC K → List Sv → Option (List Cp)
  | .nil, _ => some []
  | .v e r, st => match dOf (e.ev st), r.ev st with
    | some d, some ps => some (.v d :: ps)
    | _, _ => none
  | .l n r, st => match n.ev st, r.ev st with
    | .ok ds, some ps => some (.l ds :: ps)
    | _, _ => none
theorem XC.ok : ∀ (c : XC K) (md : Md) (st : List Sv) {ps : List Cp}, c.ev st = some ps → EvTC (c.ta md) (sls K st) ps
  | .nil, md, st, ps, h => by cases h; exact tc_nil
  | .v e r, md, st, ps, h => by
    unfold XC.ev at h
    cases h1 : dOf (e.ev st) with
    | none => rw [h1] at h; cases h
    | some d =>
      cases h2 : r.ev st with
      | none => rw [h1, h2] at h; cases h
      | some qs =>
        rw [h1, h2] at h
        cases h
        have he := e.ok md st
        rw [dOf_some h1] at he
        exact tc_v he (r.ok md st h2)
  | .l n r, md, st, ps, h => by
    unfold XC.ev at h
    cases h1 : n.ev st with
    | no => rw [h1] at h; cases h
    | ex C m => rw [h1] at h; cases h
    | ok ds =>
      cases h2 : r.ev st with
      | none => rw [h1, h2] at h; cases h
      | some qs =>
        rw [h1, h2] at h
        cases h
        have he := n.ok md st
        rw [h1] at he
        exact tc_l he (r.ok md st h2)
end
end R

set_option Elab.async false
set_option linter.all false
set_option maxRecDepth 100000
set_option maxHeartbeats 2000000
namespace R
open PySem PySem.Spec PyProof.Rows L2 Z
def Si {α β : Type} (r : Rs β) (m : Rs α) (e : α → β) : Prop := match m with
  | .ok a => r = .ok (e a)
  | .ex C n => r = .ex C n
  | .no => True
def qu {α : Type} (m : Rs α) : Rs α := match m with
  | .ok a => .ok a
  | _ => .no
def grd {α : Type} (c : Prop) [Decidable c] (m : Rs α) : Rs α := if c then m else .no
structure En (α : Type) where
  e : α → PyData
def En.v {α : Type} (E : En α) (a : α) : Vl := .d (E.e a)
def eI : En Int := ⟨.int⟩
def eB : En Bool := ⟨.bool⟩
def eS : En Str := ⟨.str⟩
def eU : En Unit := ⟨fun _ => .none⟩
def eL {α : Type} (E : En α) : En (List α) := ⟨fun xs => .list (xs.map E.e)⟩
def eO {α : Type} (E : En α) : En (Option α) := ⟨fun o => match o with
  | none => .none
  | some a => E.e a⟩
def eT0 : En Unit := ⟨fun _ => .tuple []⟩
def eT1 {α : Type} (A : En α) : En α := ⟨fun a => .tuple [A.e a]⟩
def eT2 {α β : Type} (A : En α) (B : En β) : En (α × β) := ⟨fun p => .tuple [A.e p.1, B.e p.2]⟩
def eT3 {α β γ : Type} (A : En α) (B : En β) (C : En γ) : En (α × β × γ) := ⟨fun p => .tuple [A.e p.1, B.e p.2.1, C.e p.2.2]⟩
def eT4 {α β γ δ : Type} (A : En α) (B : En β) (C : En γ) (D : En δ) : En (α × β × γ × δ) := ⟨fun p => .tuple [A.e p.1, B.e p.2.1, C.e p.2.2.1, D.e p.2.2.2]⟩
def eT5 {α β γ δ ε : Type} (A : En α) (B : En β) (C : En γ) (D : En δ) (E : En ε) : En (α × β × γ × δ × ε) := ⟨fun p => .tuple [A.e p.1, B.e p.2.1, C.e p.2.2.1, D.e p.2.2.2.1, E.e p.2.2.2.2]⟩
def eT6 {α β γ δ ε ζ : Type} (A : En α) (B : En β) (C : En γ) (D : En δ) (E : En ε) (F : En ζ) : En (α × β × γ × δ × ε × ζ) := ⟨fun p => .tuple [A.e p.1, B.e p.2.1, C.e p.2.2.1, D.e p.2.2.2.1, E.e p.2.2.2.2.1, F.e p.2.2.2.2.2]⟩
class NoNone {α : Type} (E : En α) : Prop where
  nn : ∀ a, isNone (E.e a) = false
instance : NoNone eI := ⟨fun _ => rfl⟩
instance : NoNone eB := ⟨fun _ => rfl⟩
instance : NoNone eS := ⟨fun _ => rfl⟩
instance {α : Type} {A : En α} : NoNone (eL A) := ⟨fun _ => rfl⟩
instance {α : Type} {A : En α} : NoNone (eT1 A) := ⟨fun _ => rfl⟩
instance : NoNone eT0 := ⟨fun _ => rfl⟩
instance {α β : Type} {A : En α} {B : En β} : NoNone (eT2 A B) := ⟨fun _ => rfl⟩
instance {α β γ : Type} {A : En α} {B : En β} {C : En γ} : NoNone (eT3 A B C) := ⟨fun _ => rfl⟩
instance {α β γ δ : Type} {A : En α} {B : En β} {C : En γ} {D : En δ} : NoNone (eT4 A B C D) := ⟨fun _ => rfl⟩
instance {α β γ δ ε : Type} {A : En α} {B : En β} {C : En γ} {D : En δ} {E : En ε} : NoNone (eT5 A B C D E) := ⟨fun _ => rfl⟩
instance {α β γ δ ε ζ : Type} {A : En α} {B : En β} {C : En γ} {D : En δ} {E : En ε} {F : En ζ} : NoNone (eT6 A B C D E F) := ⟨fun _ => rfl⟩
class EqV {α : Type} (E : En α) : Prop where
  iff : ∀ a b, PyData.eqv (E.e a) (E.e b) = true ↔ a = b
instance : EqV eI := ⟨fun a b => by show ((a == b) = true) ↔ _; exact beq_iff_eq⟩
instance : EqV eB := ⟨fun a b => by show ((a == b) = true) ↔ _; exact beq_iff_eq⟩
instance : EqV eS := ⟨fun a b => by show ((a == b) = true) ↔ _; exact beq_iff_eq⟩
instance : EqV eU := ⟨fun a b => ⟨fun _ => rfl, fun _ => rfl⟩⟩
instance : EqV eT0 := ⟨fun a b => ⟨fun _ => rfl, fun _ => rfl⟩⟩
theorem eqvAll_map {α : Type} {E : En α} [h : EqV E] : ∀ xs ys : List α, PyData.eqvAll (xs.map E.e) (ys.map E.e) = true ↔ xs = ys
  | [], [] => ⟨fun _ => rfl, fun _ => by rw [List.map_nil, PyData.eqvAll]⟩
  | [], _ :: _ => ⟨fun z => by simp [PyData.eqvAll] at z, fun z => (nomatch z)⟩
  | _ :: _, [] => ⟨fun z => by simp [PyData.eqvAll] at z, fun z => (nomatch z)⟩
  | x :: xs, y :: ys => by
    rw [List.map_cons, List.map_cons, PyData.eqvAll, Bool.and_eq_true, h.iff, eqvAll_map xs ys, List.cons.injEq]
instance {α : Type} {E : En α} [h : EqV E] : EqV (eL E) := ⟨fun a b => by
  show PyData.eqv (.list _) (.list _) = true ↔ _
  rw [PyData.eqv]
  exact eqvAll_map a b⟩
theorem eqv_none_l {d : PyData} (h : isNone d = false) : PyData.eqv .none d = false := by cases d <;> first | (rw [PyData.eqv]; done) | cases h
theorem eqv_none_r {d : PyData} (h : isNone d = false) : PyData.eqv d .none = false := by cases d <;> first | (rw [PyData.eqv]; done) | cases h
instance {α : Type} {E : En α} [h : EqV E] [n : NoNone E] : EqV (eO E) := ⟨fun a b => by
  cases a with
  | none =>
    cases b with
    | none => exact ⟨fun _ => rfl, fun _ => by show PyData.eqv .none .none = true; rw [PyData.eqv]⟩
    | some b =>
      show PyData.eqv .none (E.e b) = true ↔ _
      rw [eqv_none_l (n.nn b)]
      exact ⟨fun z => (nomatch z), fun z => (nomatch z)⟩
  | some a =>
    cases b with
    | none =>
      show PyData.eqv (E.e a) .none = true ↔ _
      rw [eqv_none_r (n.nn a)]
      exact ⟨fun z => (nomatch z), fun z => (nomatch z)⟩
    | some b =>
      show PyData.eqv (E.e a) (E.e b) = true ↔ _
      rw [h.iff, Option.some.injEq]⟩
instance {α : Type} {A : En α} [a : EqV A] : EqV (eT1 A) := ⟨fun x y => by
  show PyData.eqv (.tuple _) (.tuple _) = true ↔ _
  simp [PyData.eqv, PyData.eqvAll, a.iff]⟩
instance {α β : Type} {A : En α} {B : En β} [a : EqV A] [b : EqV B] : EqV (eT2 A B) := ⟨fun x y => by
  show PyData.eqv (.tuple _) (.tuple _) = true ↔ _
  simp [PyData.eqv, PyData.eqvAll, a.iff, b.iff, Prod.ext_iff]⟩
instance {α β γ : Type} {A : En α} {B : En β} {C : En γ} [a : EqV A] [b : EqV B] [c : EqV C] : EqV (eT3 A B C) := ⟨fun x y => by
  show PyData.eqv (.tuple _) (.tuple _) = true ↔ _
  simp [PyData.eqv, PyData.eqvAll, a.iff, b.iff, c.iff, Prod.ext_iff]⟩
instance {α β γ δ : Type} {A : En α} {B : En β} {C : En γ} {D : En δ} [a : EqV A] [b : EqV B] [c : EqV C] [d : EqV D] : EqV (eT4 A B C D) := ⟨fun x y => by
  show PyData.eqv (.tuple _) (.tuple _) = true ↔ _
  simp [PyData.eqv, PyData.eqvAll, a.iff, b.iff, c.iff, d.iff, Prod.ext_iff]⟩
instance {α β γ δ ε : Type} {A : En α} {B : En β} {C : En γ} {D : En δ} {E : En ε} [a : EqV A] [b : EqV B] [c : EqV C] [d : EqV D] [e : EqV E] : EqV (eT5 A B C D E) := ⟨fun x y => by
  show PyData.eqv (.tuple _) (.tuple _) = true ↔ _
  simp [PyData.eqv, PyData.eqvAll, a.iff, b.iff, c.iff, d.iff, e.iff, Prod.ext_iff]⟩
instance {α β γ δ ε ζ : Type} {A : En α} {B : En β} {C : En γ} {D : En δ} {E : En ε} {F : En ζ} [a : EqV A] [b : EqV B] [c : EqV C] [d : EqV D] [e : EqV E] [f : EqV F] : EqV (eT6 A B C D E F) := ⟨fun x y => by
  show PyData.eqv (.tuple _) (.tuple _) = true ↔ _
  simp [PyData.eqv, PyData.eqvAll, a.iff, b.iff, c.iff, d.iff, e.iff, f.iff, Prod.ext_iff]⟩
theorem EqV.dec {α : Type} {E : En α} [h : EqV E] [DecidableEq α] (a b : α) : PyData.eqv (E.e a) (E.e b) = decide (a = b) := by
  by_cases z : a = b
  · rw [decide_eq_true z]; exact (h.iff a b).mpr z
  · rw [decide_eq_false z]
    cases hh : PyData.eqv (E.e a) (E.e b) with
    | false => rfl
    | true => exact absurd ((h.iff a b).mp hh) z
class ShP {α : Type} (E : En α) (k : outParam Nat) : Prop where
  sh : ∀ a, Sh k (E.e a)
instance : ShP eI 0 := ⟨fun _ => sh_int⟩
instance : ShP eB 0 := ⟨fun _ => sh_bool⟩
instance : ShP eU 0 := ⟨fun _ => sh_none⟩
instance : ShP eT0 1 := ⟨fun _ => sh_tup sh_nil⟩
theorem _root_.Z.Sh.up {k l : Nat} {d : PyData} (h : Sh k d) (e : k ≤ l) : Sh l d := ⟨h.lay, Nat.le_trans h.deep e⟩
instance {α : Type} {E : En α} {k : Nat} [h : ShP E k] : ShP (eL E) (k + 1) := ⟨fun xs => sh_list (sh_map fun x _ => h.sh x)⟩
instance {α : Type} {E : En α} {k : Nat} [h : ShP E k] : ShP (eO E) k := ⟨fun o => by
  cases o with
  | none => exact sh_none
  | some a => exact h.sh a⟩
instance {α : Type} {A : En α} {k : Nat} [a : ShP A k] : ShP (eT1 A) (k + 1) := ⟨fun p => sh_tup (sh_cons (a.sh _) sh_nil)⟩
instance {α β : Type} {A : En α} {B : En β} {k l : Nat} [a : ShP A k] [b : ShP B l] : ShP (eT2 A B) (k + l + 1) := ⟨fun p => sh_tup (sh_cons ((a.sh _).up (by omega)) (sh_cons ((b.sh _).up (by omega)) sh_nil))⟩
instance {α β γ : Type} {A : En α} {B : En β} {C : En γ} {k l m : Nat} [a : ShP A k] [b : ShP B l] [c : ShP C m] : ShP (eT3 A B C) (k + l + m + 1) := ⟨fun p => sh_tup (sh_cons ((a.sh _).up (by omega)) (sh_cons ((b.sh _).up (by omega)) (sh_cons ((c.sh _).up (by omega)) sh_nil)))⟩
instance {α β γ δ : Type} {A : En α} {B : En β} {C : En γ} {D : En δ} {k l m n : Nat} [a : ShP A k] [b : ShP B l] [c : ShP C m] [d : ShP D n] : ShP (eT4 A B C D) (k + l + m + n + 1) := ⟨fun p => sh_tup (sh_cons ((a.sh _).up (by omega)) (sh_cons ((b.sh _).up (by omega)) (sh_cons ((c.sh _).up (by omega)) (sh_cons ((d.sh _).up (by omega)) sh_nil))))⟩
instance {α β γ δ ε : Type} {A : En α} {B : En β} {C : En γ} {D : En δ} {E : En ε} {k l m n o : Nat} [a : ShP A k] [b : ShP B l] [c : ShP C m] [d : ShP D n] [e : ShP E o] : ShP (eT5 A B C D E) (k + l + m + n + o + 1) := ⟨fun p => sh_tup (sh_cons ((a.sh _).up (by omega)) (sh_cons ((b.sh _).up (by omega)) (sh_cons ((c.sh _).up (by omega)) (sh_cons ((d.sh _).up (by omega)) (sh_cons ((e.sh _).up (by omega)) sh_nil)))))⟩
instance {α β γ δ ε ζ : Type} {A : En α} {B : En β} {C : En γ} {D : En δ} {E : En ε} {F : En ζ} {k l m n o p : Nat} [a : ShP A k] [b : ShP B l] [c : ShP C m] [d : ShP D n] [e : ShP E o] [f : ShP F p] : ShP (eT6 A B C D E F) (k + l + m + n + o + p + 1) := ⟨fun p => sh_tup (sh_cons ((a.sh _).up (by omega)) (sh_cons ((b.sh _).up (by omega)) (sh_cons ((c.sh _).up (by omega)) (sh_cons ((d.sh _).up (by omega)) (sh_cons ((e.sh _).up (by omega)) (sh_cons ((f.sh _).up (by omega)) sh_nil))))))⟩
section
variable {α β γ δ : Type}
theorem Si.bind {r : Rs β} {m : Rs α} {e : α → β} {f : β → Rs δ} {g : α → Rs γ} {e' : γ → δ} (h : Si r m e) (k : ∀ a, Si (f (e a)) (g a) e') : Si (r.bind f) (m.bind g) e' := by
  cases m with
  | ok a => have h : r = .ok (e a) := h; rw [h]; exact k a
  | ex C n => have h : r = .ex C n := h; rw [h]; exact rfl
  | no => trivial
theorem si_grd {r : Rs β} {m : Rs α} {e : α → β} {c : Prop} [Decidable c] (h : c → Si r m e) : Si r (grd c m) e := by
  unfold grd
  by_cases hc : c
  · rw [if_pos hc]; exact h hc
  · rw [if_neg hc]; trivial
theorem Si.is {r : Rs β} {m : Rs α} {e e' : α → β} (h : Si r m e) (he : ∀ a, e a = e' a) : Si r m e' := by
  have : e = e' := funext he
  rw [← this]; exact h
theorem Si.quiet {r : Rs β} {m : Rs α} {e : α → β} (h : Si r m e) : Si r (qu m) e := by
  cases m with
  | ok a => exact h
  | ex C n => trivial
  | no => trivial
theorem Si.okV {r : Rs β} {m : Rs α} {e : α → β} {a : α} (h : Si r m e) (k : m = .ok a) : R.okV r = some (e a) := by
  subst k
  have h : r = .ok (e a) := h
  rw [h]; rfl
end
section
variable {K : PySem.W.Frag} {α β γ δ : Type} {st : List Sv}
def SV (e : α → Vl) (x : XE K) (st : List Sv) (m : Rs α) : Prop := Si (x.ev st) m e
def SL (f : α → List PyData) (x : XE K) (st : List Sv) (m : Rs α) : Prop := Si (x.av true st) m (fun a => Av.l (f a))
def SW (f : α → List PyData) (x : XE K) (st : List Sv) (m : Rs α) : Prop := match m with
  | .ok a => x.es st = some (f a)
  | .ex C n => x.es st = none ∧ x.ev st = .ex C n
  | .no => True
def SN (f : α → List PyData) (x : XN K) (st : List Sv) (m : Rs α) : Prop := Si (x.ev st) m f
def ST (t : XT K) (st : List Sv) (m : Rs Bool) : Prop := Si (t.ev st) m id
def SI (f : α → List PyData) (x : XI K) (st : List Sv) (m : Rs α) : Prop := Si (x.ev st) m f
def SC (as : XA K) (st : List Sv) (f : List Av → Rs β) (m : Rs α) (e : α → β) : Prop := Si ((as.ev st).bind f) m e
def SX (k : Bool) (x : XE K) (st : List Sv) (f : Av → Rs β) (m : Rs α) (e : α → β) : Prop := Si ((x.av k st).bind f) m e
theorem bind_assoc (r : Rs α) (f : α → Rs β) (g : β → Rs γ) : (r.bind f).bind g = r.bind fun a => (f a).bind g := by cases r <;> rfl
theorem sx_p {x : XE K} {e1 : γ → Vl} {u : γ} {f : Av → Rs β} {m : Rs α} {e : α → β} (h : SV e1 x st (.ok u)) (k : Si (f (.v (e1 u))) m e) : SX false x st f m e := by
  have h : x.ev st = .ok (e1 u) := h
  show Si (((x.ev st).bind _).bind f) m e
  rw [h]; exact k
theorem sx_i {x : XE K} {e1 : γ → Vl} {n : Rs γ} {f : Av → Rs β} {g : γ → Rs α} {e : α → β} (h : SV e1 x st n) (k : ∀ u, Si (f (.v (e1 u))) (g u) e) : SX false x st f (n.bind g) e := by
  show Si (((x.ev st).bind _).bind f) _ e
  rw [bind_assoc]
  exact Si.bind h k
theorem sl_p {x : XE K} {e1 : γ → List PyData} {u : γ} {f : Av → Rs β} {m : Rs α} {e : α → β} (h : SL e1 x st (.ok u)) (k : Si (f (.l (e1 u))) m e) : SX true x st f m e := by
  have h : x.av true st = .ok (.l (e1 u)) := h
  show Si ((x.av true st).bind f) m e
  rw [h]; exact k
theorem sl_i {x : XE K} {e1 : γ → List PyData} {n : Rs γ} {f : Av → Rs β} {g : γ → Rs α} {e : α → β} (h : SL e1 x st n) (k : ∀ u, Si (f (.l (e1 u))) (g u) e) : SX true x st f (n.bind g) e := Si.bind h k
theorem sc_nil {f : List Av → Rs β} {m : Rs α} {e : α → β} (h : Si (f []) m e) : SC (.nil : XA K) st f m e := h
theorem sc_cons {k : Bool} {x : XE K} {r : XA K} {f : List Av → Rs β} {m : Rs α} {e : α → β} (h : SX k x st (fun a => (r.ev st).bind fun as => f (a :: as)) m e) : SC (.cons k x r) st f m e := by
  show Si (((x.av k st).bind fun a => (r.ev st).bind fun as => .ok (a :: as)).bind f) m e
  rw [bind_assoc]
  have : (fun a => ((r.ev st).bind fun as => Rs.ok (a :: as)).bind f) = fun a => (r.ev st).bind fun as => f (a :: as) := by
    funext a
    rw [bind_assoc]
    rfl
  rw [this]
  exact h
theorem sc_p {x : XE K} {r : XA K} {e1 : γ → Vl} {u : γ} {f : List Av → Rs β} {m : Rs α} {e : α → β} (h : SV e1 x st (.ok u)) (k : SC r st (fun as => f (.v (e1 u) :: as)) m e) : SC (.cons false x r) st f m e := sc_cons (sx_p h k)
theorem sc_i {x : XE K} {r : XA K} {e1 : γ → Vl} {n : Rs γ} {f : List Av → Rs β} {g : γ → Rs α} {e : α → β} (h : SV e1 x st n) (k : ∀ u, SC r st (fun as => f (.v (e1 u) :: as)) (g u) e) : SC (.cons false x r) st f (n.bind g) e := sc_cons (sx_i h k)
theorem sc_lp {x : XE K} {r : XA K} {e1 : γ → List PyData} {u : γ} {f : List Av → Rs β} {m : Rs α} {e : α → β} (h : SL e1 x st (.ok u)) (k : SC r st (fun as => f (.l (e1 u) :: as)) m e) : SC (.cons true x r) st f m e := sc_cons (sl_p h k)
theorem sc_li {x : XE K} {r : XA K} {e1 : γ → List PyData} {n : Rs γ} {f : List Av → Rs β} {g : γ → Rs α} {e : α → β} (h : SL e1 x st n) (k : ∀ u, SC r st (fun as => f (.l (e1 u) :: as)) (g u) e) : SC (.cons true x r) st f (n.bind g) e := sc_cons (sl_i h k)
theorem sv_var {e : α → Vl} {i : Nat} {a : α} (h : st[i]? = some (.v (e a))) : SV e (.var i : XE K) st (.ok a) := by
  show (match st[i]? with
    | some (.v a) => Rs.ok a
    | some (.pin _ p) => Rs.of p.vl
    | _ => .no) = _
  rw [h]
theorem sv_varP {e : α → Vl} {i : Nat} {a : α} {u : V} (h : st[i]? = some (.pin u (.v (e a)))) : SV e (.var i : XE K) st (.ok a) := by
  show (match st[i]? with
    | some (.v a) => Rs.ok a
    | some (.pin _ p) => Rs.of p.vl
    | _ => .no) = _
  rw [h]; rfl
theorem sl_var {f : α → List PyData} {i : Nat} {a : α} (h : st[i]? = some (.v (.d (.list (f a)))) ∨ st[i]? = some (.bl (f a)) ∨ st[i]? = some (.ol (f a))) : SL f (.var i : XE K) st (.ok a) := by
  show (match (match st[i]? with
    | some (.v a) => asL a
    | some (.bl ds) => some ds
    | some (.ol ds) => some ds
    | some (.pin _ p) => p.el
    | _ => none) with
    | some ds => Rs.ok (Av.l ds)
    | none => match (XE.var i : XE K).ev st with
      | .ex C n => .ex C n
      | _ => .no) = _
  rcases h with h | h | h <;> rw [h] <;> rfl
theorem sl_varP {f : α → List PyData} {i : Nat} {a : α} {u : V} (h : st[i]? = some (.pin u (.v (.d (.list (f a))))) ∨ st[i]? = some (.pin u (.bl (f a)))) : SL f (.var i : XE K) st (.ok a) := by
  show (match (match st[i]? with
    | some (.v a) => asL a
    | some (.bl ds) => some ds
    | some (.ol ds) => some ds
    | some (.pin _ p) => p.el
    | _ => none) with
    | some ds => Rs.ok (Av.l ds)
    | none => match (XE.var i : XE K).ev st with
      | .ex C n => .ex C n
      | _ => .no) = _
  rcases h with h | h <;> rw [h] <;> rfl
theorem sl_varPv {f : α → List PyData} {i : Nat} {a : α} {u : V} (h : st[i]? = some (.pin u (.v (.d (.list (f a)))))) : SL f (.var i : XE K) st (.ok a) := sl_varP (.inl h)
theorem sl_varv {f : α → List PyData} {i : Nat} {a : α} (h : st[i]? = some (.v (.d (.list (f a))))) : SL f (.var i : XE K) st (.ok a) := sl_var (.inl h)
theorem sl_varb {f : α → List PyData} {i : Nat} {a : α} (h : st[i]? = some (.bl (f a))) : SL f (.var i : XE K) st (.ok a) := sl_var (.inr (.inl h))
theorem sl_varo {f : α → List PyData} {i : Nat} {a : α} (h : st[i]? = some (.ol (f a))) : SL f (.var i : XE K) st (.ok a) := sl_var (.inr (.inr h))
theorem sw_varv {f : α → List PyData} {i : Nat} {a : α} (h : st[i]? = some (.v (.d (.list (f a))))) : SW f (.var i : XE K) st (.ok a) := by
  show (match st[i]? with
    | some (.v a) => asS a
    | some (.bl ds) => some ds
    | some (.pin _ p) => p.es
    | _ => none) = _
  rw [h]; rfl
theorem sw_varb {f : α → List PyData} {i : Nat} {a : α} (h : st[i]? = some (.bl (f a))) : SW f (.var i : XE K) st (.ok a) := by
  show (match st[i]? with
    | some (.v a) => asS a
    | some (.bl ds) => some ds
    | some (.pin _ p) => p.es
    | _ => none) = _
  rw [h]
theorem sw_varPv {f : α → List PyData} {i : Nat} {a : α} {u : V} (h : st[i]? = some (.pin u (.v (.d (.list (f a)))))) : SW f (.var i : XE K) st (.ok a) := by
  show (match st[i]? with
    | some (.v a) => asS a
    | some (.bl ds) => some ds
    | some (.pin _ p) => p.es
    | _ => none) = _
  rw [h]; rfl
theorem sl_of {f : α → List PyData} {x : XE K} {m : Rs α} (h : SV (fun a => Vl.d (.list (f a))) x st m) (hx : x.el st = (okV (x.ev st)).bind asL) : SL f x st m := by
  show Si (match x.el st with
    | some ds => Rs.ok (Av.l ds)
    | none => match x.ev st with
      | .ex C n => .ex C n
      | _ => .no) m _
  rw [hx]
  cases m with
  | ok a => have h : x.ev st = .ok (.d (.list (f a))) := h; rw [h]; exact rfl
  | ex C n => have h : x.ev st = .ex C n := h; rw [h]; exact rfl
  | no => trivial
theorem sw_of {f : α → List PyData} {x : XE K} {m : Rs α} (h : SV (fun a => Vl.d (.list (f a))) x st m) (hx : x.es st = (okV (x.ev st)).bind asS) : SW f x st m := by
  cases m with
  | ok a => have h : x.ev st = .ok (.d (.list (f a))) := h; show x.es st = _; rw [hx, h]; rfl
  | ex C n => have h : x.ev st = .ex C n := h; exact ⟨by rw [hx, h]; rfl, h⟩
  | no => trivial
theorem sv_int {i : Int} : SV eI.v (.int i : XE K) st (.ok i) := rfl
theorem sv_bool {b : Bool} : SV eB.v (.bool b : XE K) st (.ok b) := rfl
theorem sv_str {s : Str} : SV eS.v (.str s : XE K) st (.ok s) := rfl
theorem sv_non {E : En α} : SV (eO E).v (.non : XE K) st (.ok none) := rfl
theorem sv_nonU : SV eU.v (.non : XE K) st (.ok ()) := rfl
theorem sv_e {f : α → List PyData} {n : XN K} {m : Rs α} (h : SN f n st m) : SV (fun a => Vl.d (.list (f a))) n.e st m := by
  show Si ((n.ev st).bind fun ds => Rs.ok (Vl.d (.list ds))) m _
  cases m with
  | ok a => have h : n.ev st = .ok (f a) := h; rw [h]; exact rfl
  | ex C k => have h : n.ev st = .ex C k := h; rw [h]; exact rfl
  | no => trivial
def theO (o : Option α) : Rs α := match o with
  | some a => .ok a
  | none => .no
theorem sv_theO {E : En α} {x : XE K} {o : Option α} (h : SV (eO E).v x st (.ok o)) : SV E.v x st (theO o) := by
  cases o with
  | none => trivial
  | some a => exact h
theorem sv_some {E : En α} {x : XE K} {a : α} (h : SV E.v x st (.ok a)) : SV (eO E).v x st (.ok (some a)) := h
theorem sv_someI {E : En α} {x : XE K} {m : Rs α} (h : SV E.v x st m) : SV (eO E).v x st (m.bind fun a => .ok (some a)) := by
  cases m with
  | ok a => exact h
  | ex C n => exact h
  | no => trivial
theorem sv_op {o : O2 K} {a b : XE K} {m : Rs α} {e : α → Vl} (h : SX o.ka a st (fun x => (b.av o.kb st).bind fun y => Rs.of (o.f x y)) m e) : SV e (.op o a b) st m := h
theorem sn_op {o : O2N K} {a b : XE K} {m : Rs α} {e : α → List PyData} (h : SX o.ka a st (fun x => (b.av o.kb st).bind fun y => Rs.of (o.f x y)) m e) : SN e (.op o a b) st m := h
theorem so_add {x y : Int} : Si (Rs.of ((O2.add : O2 K).f (.v (eI.v x)) (.v (eI.v y)))) (.ok (x + y)) eI.v := rfl
theorem so_sub {x y : Int} : Si (Rs.of ((O2.sub : O2 K).f (.v (eI.v x)) (.v (eI.v y)))) (.ok (x - y)) eI.v := rfl
theorem so_lt {x y : Int} : Si (Rs.of ((O2.lt : O2 K).f (.v (eI.v x)) (.v (eI.v y)))) (.ok (decide (x < y))) eB.v := rfl
theorem so_le {x y : Int} : Si (Rs.of ((O2.le : O2 K).f (.v (eI.v x)) (.v (eI.v y)))) (.ok (decide (x ≤ y))) eB.v := rfl
theorem so_gt {x y : Int} : Si (Rs.of ((O2.gt : O2 K).f (.v (eI.v x)) (.v (eI.v y)))) (.ok (decide (y < x))) eB.v := rfl
theorem so_ge {x y : Int} : Si (Rs.of ((O2.ge : O2 K).f (.v (eI.v x)) (.v (eI.v y)))) (.ok (decide (y ≤ x))) eB.v := rfl
theorem so_intC {C : Int → Int → Prop} [∀ i j, Decidable (C i j)] {g : Int → Int → Int} {x y : Int} : Si (Rs.of ((O2.intC C g : O2 K).f (.v (eI.v x)) (.v (eI.v y)))) (grd (C x y) (.ok (g x y))) eI.v := si_grd fun h => by
  show Rs.of (if C x y then _ else _) = _
  rw [if_pos h]; rfl
theorem so_intCp {C : Int → Int → Prop} [∀ i j, Decidable (C i j)] {g : Int → Int → Int} {x y : Int} (h : C x y) : Si (Rs.of ((O2.intC C g : O2 K).f (.v (eI.v x)) (.v (eI.v y)))) (.ok (g x y)) eI.v := by
  show Rs.of (if C x y then _ else _) = _
  rw [if_pos h]; rfl
def mulC (x y : Int) : Rs Int := grd (CMulU x y) (.ok (x * y))
def divC (x y : Int) : Rs Int := grd (CDivW x y) (.ok (x / y))
def modC (x y : Int) : Rs Int := grd (0 < y) (.ok (x % y))
theorem so_mul {x y : Int} : Si (Rs.of ((O2.mul : O2 K).f (.v (eI.v x)) (.v (eI.v y)))) (mulC x y) eI.v := so_intC
theorem so_div {x y : Int} : Si (Rs.of ((O2.div : O2 K).f (.v (eI.v x)) (.v (eI.v y)))) (divC x y) eI.v := so_intC
theorem so_mod {x y : Int} : Si (Rs.of ((O2.mod : O2 K).f (.v (eI.v x)) (.v (eI.v y)))) (modC x y) eI.v := so_intC
theorem so_mulp {x y : Int} (h : CMulU x y) : Si (Rs.of ((O2.mul : O2 K).f (.v (eI.v x)) (.v (eI.v y)))) (.ok (x * y)) eI.v := so_intCp h
theorem so_divp {x y : Int} (h : CDivW x y) : Si (Rs.of ((O2.div : O2 K).f (.v (eI.v x)) (.v (eI.v y)))) (.ok (x / y)) eI.v := so_intCp h
theorem so_modp {x y : Int} (h : 0 < y) : Si (Rs.of ((O2.mod : O2 K).f (.v (eI.v x)) (.v (eI.v y)))) (.ok (x % y)) eI.v := so_intCp (C := fun _ j => 0 < j) (g := fun i j => i % j) h
theorem so_powp {x y : Int} (h : CPow x y) : Si (Rs.of ((O2.pow : O2 K).f (.v (eI.v x)) (.v (eI.v y)))) (.ok (x ^ y.toNat)) eI.v := so_intCp (C := CPow) (g := fun i j => i ^ j.toNat) h
theorem mul_litr {x y : Int} (h : y.natAbs < 18446744073709551616) : CMulU x y := .inr (.inl h)
theorem mul_litl {x y : Int} (h : x.natAbs < 18446744073709551616) : CMulU x y := .inl h
theorem div_lit {i j : Int} (h : 0 < j ∧ j.natAbs < 18446744073709551616) : CDivW i j := ⟨h.1, by
  by_cases z : j.natAbs = 0
  · rw [z]; decide
  · exact Nat.lt_trans ((Nat.log2_lt z).mpr (show j.natAbs < 2 ^ 64 by have := h.2; omega)) (by decide)⟩
theorem so_eqI {x y : Int} : Si (Rs.of ((O2.eq : O2 K).f (.v (eI.v x)) (.v (eI.v y)))) (.ok (decide (x = y))) eB.v := rfl
theorem so_neI {x y : Int} : Si (Rs.of ((O2.ne : O2 K).f (.v (eI.v x)) (.v (eI.v y)))) (.ok (!decide (x = y))) eB.v := rfl
theorem so_neS {x y : Str} : Si (Rs.of ((O2.ne : O2 K).f (.v (eS.v x)) (.v (eS.v y)))) (.ok (!decide (x = y))) eB.v := rfl
theorem so_eqD {E : En α} [EqV E] {k : Nat} [p : ShP E k] [DecidableEq α] {x y : α} (hk : k ≤ 64 := by decide) : Si (Rs.of ((O2.eqD : O2 K).f (.v (E.v x)) (.v (E.v y)))) (.ok (decide (x = y))) eB.v := by
  show Rs.of (if SeqAt.shaped (E.e x) = true ∧ SeqAt.shaped (E.e y) = true then some (Vl.d (.bool (PyData.eqv (E.e x) (E.e y)))) else none) = _
  rw [if_pos ⟨(p.sh x).shaped hk, (p.sh y).shaped hk⟩, EqV.dec]
  rfl
theorem so_neD {E : En α} [EqV E] {k : Nat} [p : ShP E k] [DecidableEq α] {x y : α} (hk : k ≤ 64 := by decide) : Si (Rs.of ((O2.neD : O2 K).f (.v (E.v x)) (.v (E.v y)))) (.ok (!decide (x = y))) eB.v := by
  show Rs.of (if SeqAt.shaped (E.e x) = true ∧ SeqAt.shaped (E.e y) = true then some (Vl.d (.bool (!PyData.eqv (E.e x) (E.e y)))) else none) = _
  rw [if_pos ⟨(p.sh x).shaped hk, (p.sh y).shaped hk⟩, EqV.dec]
  rfl
def shOk (E : En α) (x y : α) : Prop := SeqAt.shaped (E.e x) = true ∧ SeqAt.shaped (E.e y) = true
instance (E : En α) (x y : α) : Decidable (shOk E x y) := by unfold shOk; exact inferInstance
theorem so_neG {E : En α} [EqV E] [DecidableEq α] {x y : α} : Si (Rs.of ((O2.neD : O2 K).f (.v (E.v x)) (.v (E.v y)))) (grd (shOk E x y) (.ok (!decide (x = y)))) eB.v := si_grd fun h => by
  show Rs.of (if SeqAt.shaped (E.e x) = true ∧ SeqAt.shaped (E.e y) = true then some (Vl.d (.bool (!PyData.eqv (E.e x) (E.e y)))) else none) = _
  rw [if_pos (show SeqAt.shaped (E.e x) = true ∧ SeqAt.shaped (E.e y) = true from h), EqV.dec]
  rfl
theorem so_isN {E : En α} [n : NoNone E] {x : Option α} : Si (Rs.of ((O2.isN : O2 K).f (.v ((eO E).v x)) (.v ((eU).v ())))) (.ok x.isNone) eB.v := by
  cases x with
  | none => rfl
  | some a =>
    show Rs.of (some (Vl.d (.bool (isNone (E.e a))))) = _
    rw [n.nn a]; rfl
theorem so_notN {E : En α} [n : NoNone E] {x : Option α} : Si (Rs.of ((O2.notN : O2 K).f (.v ((eO E).v x)) (.v ((eU).v ())))) (.ok x.isSome) eB.v := by
  cases x with
  | none => rfl
  | some a =>
    show Rs.of (some (Vl.d (.bool (!isNone (E.e a))))) = _
    rw [n.nn a]; rfl
def ixC (xs : List α) (i : Int) : Rs α := Rs.of (atI xs i)
theorem atI_map {xs : List α} {f : α → β} {i : Int} : atI (xs.map f) i = (atI xs i).map f := by
  unfold atI
  rw [List.length_map]
  cases ixN xs.length i with
  | none => rfl
  | some j => simp
theorem so_ixL {E : En α} {xs : List α} {i : Int} : Si (Rs.of ((O2.ixL : O2 K).f (.l (xs.map E.e)) (.v (eI.v i)))) (ixC xs i) E.v := by
  show Si (Rs.of ((atI (xs.map E.e) i).map Vl.d)) _ _
  rw [atI_map]
  unfold ixC
  cases atI xs i with
  | none => trivial
  | some a => exact rfl
theorem so_ixT {E : En α} {ds : List PyData} {i : Int} {a : α} (h : atI ds i = some (E.e a)) : Si (Rs.of ((O2.ixT : O2 K).f (.v (.d (.tuple ds))) (.v (eI.v i)))) (.ok a) E.v := by
  show Rs.of ((atI ds i).map Vl.d) = _
  rw [h]; rfl
theorem so_inL {x : Int} {ys : List Int} : Si (Rs.of ((O2.inL : O2 K).f (.v (eI.v x)) (.l (ys.map eI.e)))) (.ok (decide (x ∈ ys))) eB.v := by
  show Rs.of ((intsOf (ys.map .int)).map fun ns => Vl.d (.bool (decide (x ∈ ns)))) = _
  rw [intsOf_map]; rfl
def catC (xs ys : List α) : Rs (List α) := grd (xs.length + ys.length ≤ 1000000) (.ok (xs ++ ys))
theorem so_cat {E : En α} {xs ys : List α} : Si (Rs.of ((O2N.cat : O2N K).f (.l (xs.map E.e)) (.l (ys.map E.e)))) (catC xs ys) (List.map E.e) := si_grd fun h => by
  show Rs.of (if (xs.map E.e).length + (ys.map E.e).length ≤ 1000000 then some (xs.map E.e ++ ys.map E.e) else none) = _
  rw [if_pos (by rw [List.length_map, List.length_map]; exact h), ← List.map_append]
  rfl
def repC (xs : List α) (k : Int) : Rs (List α) := grd (xs.length * k.toNat ≤ 1000000 ∧ k.natAbs < 9223372036854775808) (.ok (List.replicate k.toNat xs).flatten)
theorem so_rep {E : En α} {xs : List α} {k : Int} : Si (Rs.of ((O2N.rep : O2N K).f (.l (xs.map E.e)) (.v (eI.v k)))) (repC xs k) (List.map E.e) := si_grd fun h => by
  show Rs.of (if (xs.map E.e).length * k.toNat ≤ 1000000 ∧ k.natAbs < 9223372036854775808 then some (List.replicate k.toNat (xs.map E.e)).flatten else none) = _
  rw [if_pos (by rw [List.length_map]; exact h)]
  have : (List.replicate k.toNat (xs.map E.e)).flatten = ((List.replicate k.toNat xs).flatten).map E.e := by
    rw [List.map_flatten, List.map_replicate]
  rw [this]
  rfl
theorem sv_neg {a : XE K} {u : Int} (h : SV eI.v a st (.ok u)) : SV eI.v (.neg a) st (.ok (-u)) := by
  have h : a.ev st = .ok (eI.v u) := h
  show (a.ev st).bind _ = _
  rw [h]; rfl
theorem bv_si {a : XE K} {m : Rs Bool} (h : SV eB.v a st m) : Si (a.bv st) m id := by
  show Si ((a.ev st).bind fun x => Rs.of (bOf x)) m id
  cases m with
  | ok u => have h : a.ev st = .ok (eB.v u) := h; rw [h]; exact rfl
  | ex C n => have h : a.ev st = .ex C n := h; rw [h]; exact rfl
  | no => trivial
theorem st_test {a : XE K} {m : Rs Bool} (h : SV eB.v a st m) : ST (.test a) st m := bv_si h
theorem st_B {a : XE K} {m : Rs Bool} (h : SV eB.v a st m) : ST (.B a) st m := bv_si h
theorem st_yes : ST (.yes : XT K) st (.ok true) := rfl
theorem st_andI {a b : XT K} {m n : Rs Bool} (h : ST a st m) (h2 : ST b st n) : ST (.and a b) st (m.bind fun u => if u = true then n else .ok false) := by
  refine Si.bind (e := id) h fun u => ?_
  cases u with
  | true => exact h2
  | false => rfl
theorem st_andP {a b : XT K} {u : Bool} {n : Rs Bool} (h : ST a st (.ok u)) (h2 : ST b st n) : ST (.and a b) st (if u = true then n else .ok false) := st_andI h h2
theorem st_orI {a b : XT K} {m n : Rs Bool} (h : ST a st m) (h2 : ST b st n) : ST (.or a b) st (m.bind fun u => if u = true then .ok true else n) := by
  refine Si.bind (e := id) h fun u => ?_
  cases u with
  | true => rfl
  | false => exact h2
theorem st_orP {a b : XT K} {u : Bool} {n : Rs Bool} (h : ST a st (.ok u)) (h2 : ST b st n) : ST (.or a b) st (if u = true then .ok true else n) := st_orI h h2
theorem st_not {a : XT K} {u : Bool} (h : ST a st (.ok u)) : ST (.not a) st (.ok (!u)) := by
  have h : a.ev st = .ok u := h
  show (a.ev st).bind _ = _
  rw [h]; rfl
theorem st_notI {a : XT K} {m : Rs Bool} (h : ST a st m) : ST (.not a) st (m.bind fun u => .ok (!u)) := Si.bind (e := id) h fun u => rfl
theorem st_truthL {f : α → List PyData} {x : XE K} {a : α} {g : α → Bool} (h : SL f x st (.ok a)) (hx : ∀ b, (f b).isEmpty = g b) : ST (.truthL x) st (.ok (!g a)) := by
  have h : x.av true st = .ok (.l (f a)) := h
  have hl : x.el st = some (f a) := by
    have h' : (match x.el st with
      | some ds => Rs.ok (Av.l ds)
      | none => match x.ev st with
        | .ex C n => .ex C n
        | _ => .no) = Rs.ok (Av.l (f a)) := h
    cases he : x.el st with
    | some ds => rw [he] at h'; cases h'; rfl
    | none =>
      rw [he] at h'
      cases hv : x.ev st with
      | ok _ => rw [hv] at h'; cases h'
      | ex _ _ => rw [hv] at h'; cases h'
      | no => rw [hv] at h'; cases h'
  show Rs.of ((x.el st).map fun ds => !ds.isEmpty) = _
  rw [hl, ← hx a]
  rfl
theorem st_truth {E : En α} {x : XE K} {xs : List α} (h : SL (List.map E.e) x st (.ok xs)) : ST (.truthL x) st (.ok (!xs.isEmpty)) := st_truthL (g := List.isEmpty) h fun b => by cases b <;> rfl
theorem sv_ife {t : XT K} {a b : XE K} {c : Bool} {u v : α} {e : α → Vl} (h : ST t st (.ok c)) (h1 : SV e a st (.ok u)) (h2 : SV e b st (.ok v)) : SV e (.ife t a b) st (.ok (if c = true then u else v)) := by
  have h : t.ev st = .ok c := h
  show (t.ev st).bind _ = _
  rw [h]
  cases c with
  | true => exact h1
  | false => exact h2
theorem sv_chain {o o' : O2 K} {a b c : XE K} {x y z : Int} {p q : Bool} (hk : o.ka = false ∧ o.kb = false ∧ o'.kb = false) (ha : SV eI.v a st (.ok x)) (hb : SV eI.v b st (.ok y)) (hc : SV eI.v c st (.ok z))
    (h1 : Si (Rs.of (o.f (.v (eI.v x)) (.v (eI.v y)))) (.ok p) eB.v) (h2 : Si (Rs.of (o'.f (.v (eI.v y)) (.v (eI.v z)))) (.ok q) eB.v) : SV eB.v (.chain o o' a b c) st (.ok (p && q)) := by
  have ha : a.ev st = .ok (eI.v x) := ha
  have hb : b.ev st = .ok (eI.v y) := hb
  have hc : c.ev st = .ok (eI.v z) := hc
  have h1 : Rs.of (o.f (.v (eI.v x)) (.v (eI.v y))) = .ok (eB.v p) := h1
  have h2 : Rs.of (o'.f (.v (eI.v y)) (.v (eI.v z))) = .ok (eB.v q) := h2
  have h1' : o.f (.v (eI.v x)) (.v (eI.v y)) = some (eB.v p) := by
    cases hh : o.f (.v (eI.v x)) (.v (eI.v y)) with
    | none => rw [hh] at h1; cases h1
    | some w => rw [hh] at h1; cases h1; rfl
  have h2' : o'.f (.v (eI.v y)) (.v (eI.v z)) = some (eB.v q) := by
    cases hh : o'.f (.v (eI.v y)) (.v (eI.v z)) with
    | none => rw [hh] at h2; cases h2
    | some w => rw [hh] at h2; cases h2; rfl
  have va : a.av false st = .ok (.v (eI.v x)) := by show (a.ev st).bind _ = _; rw [ha]; rfl
  have vb : b.av false st = .ok (.v (eI.v y)) := by show (b.ev st).bind _ = _; rw [hb]; rfl
  have vc : c.av false st = .ok (.v (eI.v z)) := by show (c.ev st).bind _ = _; rw [hc]; rfl
  show (a.av o.ka st).bind _ = _
  rw [hk.1, va]
  show (b.av o.kb st).bind _ = _
  rw [hk.2.1, vb]
  show (match (o.f (.v (eI.v x)) (.v (eI.v y))).bind bOf with
    | some false => Rs.ok (Vl.d (.bool false))
    | some true => match okV (c.av o'.kb st) with
      | some w => Rs.of (((o'.f (.v (eI.v y)) w).bind bOf).map fun k => Vl.d (.bool k))
      | none => .no
    | none => .no) = _
  rw [h1']
  cases p with
  | false => rfl
  | true =>
    show (match okV (c.av o'.kb st) with
      | some w => Rs.of (((o'.f (.v (eI.v y)) w).bind bOf).map fun k => Vl.d (.bool k))
      | none => .no) = _
    rw [hk.2.2, vc]
    show Rs.of (((o'.f (.v (eI.v y)) (.v (eI.v z))).bind bOf).map fun k => Vl.d (.bool k)) = _
    rw [h2']
    rfl
end
end R

set_option Elab.async false
set_option linter.all false
set_option maxRecDepth 100000
set_option maxHeartbeats 2000000
namespace R
open PySem PySem.Spec PyProof.Rows L2 Z
section
variable {K : PySem.W.Frag} {α β γ δ : Type} {st : List Sv}
theorem qu_ok {a : α} : qu (.ok a) = .ok a := rfl
def tupF (xs : List Av) : Rs Vl := (match avD xs with
  | some ds => if ds.length ≤ 1000 then Rs.ok ds else .no
  | none => .no).bind fun ds => .ok (.d (.tuple ds))
def lstF (xs : List Av) : Rs (List PyData) := match avD xs with
  | some ds => if ds.length ≤ 1000 then Rs.ok ds else .no
  | none => .no
theorem sv_tup {as : XA K} {m : Rs α} {e : α → Vl} (h : SC as st tupF m e) : SV e (.tup as) st m := by
  show Si (((as.ev st).bind _).bind _) m e
  rw [bind_assoc]
  exact h
theorem sn_lst {as : XA K} {m : Rs α} {f : α → List PyData} (h : SC as st lstF m f) : SN f (.lst as) st m := h
theorem si_tup {xs : List Av} {ds : List PyData} {a : α} {e : α → Vl} (hd : avD xs = some ds) (he : e a = .d (.tuple ds)) (hl : Nat.ble ds.length 1000 = true := by rfl) : Si (tupF xs) (.ok a) e := by
  unfold tupF
  rw [hd]
  show (if ds.length ≤ 1000 then Rs.ok ds else .no).bind _ = Rs.ok (e a)
  rw [if_pos (Nat.le_of_ble_eq_true hl), he]
  rfl
theorem si_lst {xs : List Av} {ds : List PyData} {a : α} {f : α → List PyData} (hd : avD xs = some ds) (he : f a = ds) (hl : Nat.ble ds.length 1000 = true := by rfl) : Si (lstF xs) (.ok a) f := by
  unfold lstF
  rw [hd]
  show (if ds.length ≤ 1000 then Rs.ok ds else .no) = Rs.ok (f a)
  rw [if_pos (Nat.le_of_ble_eq_true hl), he]
theorem sv_call {F : Fn} {ho : F.own = false} {as : XA K} {m : Rs α} {e : α → Vl} (h : SC as st (fun xs => if xs.length = F.m then F.f xs else .no) m e) : SV e (.call F ho as) st m := h
theorem si_fn {F : Fn} {xs : List Av} {m : Rs α} {e : α → Vl} {n : Nat} (hm : F.m = n) (h : Si (F.f xs) m e) (hl : Nat.beq xs.length n = true := by rfl) : Si (if xs.length = F.m then F.f xs else .no) m e := by
  rw [if_pos ((Nat.eq_of_beq_eq_true hl).trans hm.symm)]; exact h
theorem sv_meth {C : Addr} {nm : Str} {F : Fn} {ho : F.own = false} {x : XE K} {as : XA K} {o : β} {eo : β → Vl} {fs : List (Str × PyData)} {m : Rs α} {e : α → Vl} (hx : SV eo x st (.ok o)) (hi : instOf C nm (eo o) = .ok fs)
    (h : SC as st (fun xs => if xs.length + 1 = F.m then F.f (.v (.i C fs) :: xs) else .no) m e) : SV e (.meth C nm F ho x as) st m := by
  have hx : x.ev st = .ok (eo o) := hx
  show Si ((x.ev st).bind _) m e
  rw [hx]
  show Si ((instOf C nm (eo o)).bind _) m e
  rw [hi]
  exact h
theorem si_me {F : Fn} {o : Av} {xs : List Av} {m : Rs α} {e : α → Vl} {n : Nat} (hm : F.m = n) (h : Si (F.f (o :: xs)) m e) (hl : Nat.beq (xs.length + 1) n = true := by rfl) : Si (if xs.length + 1 = F.m then F.f (o :: xs) else .no) m e := by
  rw [if_pos ((Nat.eq_of_beq_eq_true hl).trans hm.symm)]; exact h
theorem sv_make {C : Addr} {F : FnI} {as : XA K} {m : Rs α} {e : α → Vl} (h : SC as st (fun xs => if xs.length = F.m then (F.f xs).bind fun fs => .ok (.i C fs) else .no) m e) : SV e (.make C F as) st m := h
theorem si_make {C : Addr} {F : FnI} {xs : List Av} {m : Rs α} {fs : α → List (Str × PyData)} {n : Nat} (hm : F.m = n) (h : Si (F.f xs) m fs) (hl : Nat.beq xs.length n = true := by rfl) : Si (if xs.length = F.m then (F.f xs).bind fun fs => Rs.ok (Vl.i C fs) else .no) m (fun a => Vl.i C (fs a)) := by
  rw [if_pos ((Nat.eq_of_beq_eq_true hl).trans hm.symm)]
  cases m with
  | ok a => have h : F.f xs = .ok (fs a) := h; rw [h]; exact rfl
  | ex C k => have h : F.f xs = .ex C k := h; rw [h]; exact rfl
  | no => trivial
theorem inst_of {C : Addr} {nm : Str} {fs : List (Str × PyData)} (h : (fs.lookup nm).isNone = true) : instOf C nm (.i C fs) = .ok fs := if_pos ⟨rfl, h⟩
theorem sv_fld {C : Addr} {c : Cls K C} {f : Str} {hn : NoAttr K C f} {x : XE K} {o : β} {eo : β → Vl} {fs : List (Str × PyData)} {a : α} {E : En α} (hx : SV eo x st (.ok o)) (ho : eo o = .i C fs) (hl : fs.lookup f = some (E.e a)) : SV E.v (.fld C c f hn x) st (.ok a) := by
  have hx : x.ev st = .ok (eo o) := hx
  show (x.ev st).bind _ = _
  rw [hx, ho]
  show (if C = C then Rs.of ((fs.lookup f).map Vl.d) else .no) = _
  rw [if_pos rfl, hl]
  rfl
theorem sv_bi {b : Bi K} {as : XA K} {m : Rs α} {e : α → Vl} (h : SC as st (fun xs => Rs.of (b.f xs)) m e) : SV e (.bi b as) st m := h
theorem sn_bi {b : BiN K} {as : XA K} {m : Rs α} {f : α → List PyData} (h : SC as st (fun xs => Rs.of (b.f xs)) m f) : SN f (.bi b as) st m := h
def lenI (xs : List α) : Int := (xs.length : Nat)
def iabs (n : Int) : Int := if n < 0 then -n else n
def bInt (b : Bool) : Int := if b = true then 1 else 0
theorem so_len {E : En α} {xs : List α} : Si (Rs.of ((Bi.len : Bi K).f [.l (xs.map E.e)])) (.ok (lenI xs)) eI.v := by
  show Rs.of (some (Vl.d (.int ((xs.map E.e).length : Nat)))) = _
  rw [List.length_map]; rfl
theorem so_lenS {xs : List Int} : Si (Rs.of ((Bi.len : Bi K).f [.v (.s xs)])) (.ok (lenI xs)) eI.v := rfl
theorem so_abs {n : Int} : Si (Rs.of ((Bi.abs : Bi K).f [.v (eI.v n)])) (.ok (iabs n)) eI.v := rfl
theorem so_int {n : Int} : Si (Rs.of ((Bi.int : Bi K).f [.v (eI.v n)])) (.ok n) eI.v := rfl
theorem so_intB {b : Bool} : Si (Rs.of ((Bi.int : Bi K).f [.v (eB.v b)])) (.ok (bInt b)) eI.v := rfl
theorem so_sum {xs : List Int} : Si (Rs.of ((Bi.sum : Bi K).f [.l (xs.map eI.e)])) (.ok xs.sum) eI.v := by
  show Rs.of ((intsOf (xs.map .int)).map fun ns => Vl.d (.int ns.sum)) = _
  rw [intsOf_map]; rfl
theorem so_all {xs : List Bool} : Si (Rs.of ((Bi.all : Bi K).f [.l (xs.map eB.e)])) (.ok (xs.all id)) eB.v := by
  show Rs.of ((boolsOf (xs.map .bool)).map fun ns => Vl.d (.bool (ns.all id))) = _
  rw [boolsOf_map]; rfl
theorem so_gcd {a b : Int} : Si (Rs.of ((Bi.gcd : Bi K).f [.v (eI.v a), .v (eI.v b)])) (.ok ((Int.gcd a b : Nat) : Int)) eI.v := rfl
def lcmC (a b : Int) : Rs Int := grd (a.natAbs.log2 < 9000 ∧ b.natAbs.log2 < 9000) (.ok ((Int.lcm a b : Nat) : Int))
theorem so_lcm {a b : Int} : Si (Rs.of ((Bi.lcm : Bi K).f [.v (eI.v a), .v (eI.v b)])) (lcmC a b) eI.v := si_grd fun h => by
  show Rs.of (if a.natAbs.log2 < 9000 ∧ b.natAbs.log2 < 9000 then _ else _) = _
  rw [if_pos h]; rfl
theorem so_list {E : En α} {xs : List α} : Si (Rs.of ((BiN.list : BiN K).f [.l (xs.map E.e)])) (.ok xs) (List.map E.e) := rfl
def reprC (E : En α) (x : α) : Rs Str := grd (reprOk (E.e x) = true) (.ok (PyData.shown (E.e x)))
theorem so_repr {E : En α} {x : α} : Si (Rs.of ((Bi.repr : Bi K).f [.v (E.v x)])) (reprC E x) eS.v := si_grd fun h => by
  show Rs.of (if reprOk (E.e x) = true then _ else _) = _
  rw [if_pos h]; rfl
def SO (x : XO K) (st : List Sv) (m : Rs (Option Int)) : Prop := Si (x.ev st) m id
theorem so_none : SO (.none : XO K) st (.ok none) := rfl
theorem so_some {x : XE K} {i : Int} (h : SV eI.v x st (.ok i)) : SO (.some x) st (.ok (some i)) := by
  have h : x.ev st = .ok (eI.v i) := h
  show (((x.ev st).bind _).bind _) = _
  rw [h]; rfl
def cutT (xs : List α) (lo hi : Option Int) : List α := (xs.drop (HT.sIx xs.length 0 lo)).take (HT.sIx xs.length xs.length hi - HT.sIx xs.length 0 lo)
theorem cutD_map {f : α → PyData} {xs : List α} {lo hi : Option Int} : Z.cutD (xs.map f) lo hi = (cutT xs lo hi).map f := by
  unfold Z.cutD cutT
  rw [List.length_map, List.map_take, List.map_drop]
theorem el_of {f : α → List PyData} {x : XE K} {a : α} (h : SL f x st (.ok a)) : x.el st = some (f a) := by
  have h' : (match x.el st with
    | some ds => Rs.ok (Av.l ds)
    | none => match x.ev st with
      | .ex C n => .ex C n
      | _ => .no) = Rs.ok (Av.l (f a)) := h
  cases he : x.el st with
  | some ds => rw [he] at h'; cases h'; rfl
  | none =>
    rw [he] at h'
    cases hv : x.ev st with
    | ok _ => rw [hv] at h'; cases h'
    | ex _ _ => rw [hv] at h'; cases h'
    | no => rw [hv] at h'; cases h'
theorem sn_sl {E : En α} {x : XE K} {lo hi : XO K} {xs : List α} {l u : Option Int} (h : SL (List.map E.e) x st (.ok xs)) (h1 : SO lo st (.ok l)) (h2 : SO hi st (.ok u)) : SN (List.map E.e) (.sl x lo hi) st (.ok (cutT xs l u)) := by
  have e1 := Si.okV h1 rfl
  have e2 := Si.okV h2 rfl
  show (match x.el st, okV (lo.ev st), okV (hi.ev st) with
    | some ds, some l, some h => Rs.ok (Z.cutD ds l h)
    | _, _, _ => .no) = _
  rw [el_of h, e1, e2]
  show Rs.ok (Z.cutD (xs.map E.e) l u) = _
  rw [cutD_map]
theorem sn_slS {x : XE K} {lo hi : XO K} {xs : List Int} {l u : Option Int} (h : SV Vl.s x st (.ok xs)) (h1 : SO lo st (.ok l)) (h2 : SO hi st (.ok u)) : SN (List.map eI.e) (.slS x lo hi) st (.ok (cutT xs l u)) := by
  have e0 := Si.okV h rfl
  have e1 := Si.okV h1 rfl
  have e2 := Si.okV h2 rfl
  show (match okV (x.ev st), okV (lo.ev st), okV (hi.ev st) with
    | some (.s xs), some l, some h => Rs.ok (Z.cutD (xs.map .int) l h)
    | _, _, _ => .no) = _
  rw [e0, e1, e2]
  show Rs.ok (Z.cutD (xs.map PyData.int) l u) = _
  rw [cutD_map]
  rfl
theorem si_list {f : α → List PyData} {x : XE K} {m : Rs α} (h : SW f x st m) : SI f (.list x) st m := by
  show Si (match x.es st with
    | some ds => Rs.ok ds
    | none => match x.ev st with
      | .ex C n => .ex C n
      | _ => .no) m f
  cases m with
  | ok a => have h : x.es st = some (f a) := h; rw [h]; exact rfl
  | ex C n => have h : x.es st = none ∧ x.ev st = .ex C n := h; rw [h.1, h.2]; exact rfl
  | no => trivial
def enumL (xs : List α) : List (Int × α) := xs.zipIdx.map fun p => ((p.2 : Nat), p.1)
theorem enumD_map {f : α → PyData} {xs : List α} : enumD (xs.map f) = (enumL xs).map fun p => .tuple [.int p.1, f p.2] := by
  unfold enumD enumL
  rw [enum_map, List.map_map]
  rfl
theorem si_enum {E : En α} {x : XE K} {xs : List α} (h : SW (List.map E.e) x st (.ok xs)) : SI (List.map (eT2 eI E).e) (.enum x) st (.ok (enumL xs)) := by
  have h : x.es st = some (xs.map E.e) := h
  show (match x.es st with
    | some ds => Rs.ok (enumD ds)
    | none => .no) = _
  rw [h]
  show Rs.ok (enumD (xs.map E.e)) = _
  rw [enumD_map]
  rfl
def rngL (lo hi : Int) : List Int := (List.range (hi - lo).toNat).map fun (k : Nat) => lo + (k : Int)
def rng1F (xs : List Av) : Rs (List PyData) := match avI1 xs with
    | some n => if n.natAbs < 4611686018427387904 then .ok (irange 0 n.toNat) else .no
    | none => .no
def rng2F (xs : List Av) : Rs (List PyData) := match avI2 xs with
    | some n => if n.1.natAbs < 4611686018427387904 ∧ n.2.natAbs < 4611686018427387904 then .ok (irange n.1 (n.2 - n.1).toNat) else .no
    | none => .no
theorem si_range1 {as : XA K} {m : Rs α} {f : α → List PyData} (h : SC as st rng1F m f) : SI f (.range1 as) st m := h
theorem si_range2 {as : XA K} {m : Rs α} {f : α → List PyData} (h : SC as st rng2F m f) : SI f (.range2 as) st m := h
def rng1C (n : Int) : Rs (List Int) := grd (n.natAbs < 4611686018427387904) (.ok (rngL 0 n))
def rng2C (l n : Int) : Rs (List Int) := grd (l.natAbs < 4611686018427387904 ∧ n.natAbs < 4611686018427387904) (.ok (rngL l n))
theorem irange_map {l n : Int} : irange l (n - l).toNat = (rngL l n).map eI.e := by
  unfold irange rngL
  rw [List.map_map]
  rfl
theorem so_rng1p {n : Int} (h : n.natAbs < 4611686018427387904) : Si (rng1F [.v (eI.v n)]) (.ok (rngL 0 n)) (List.map eI.e) := by
  show (if n.natAbs < 4611686018427387904 then Rs.ok (irange 0 n.toNat) else .no) = _
  rw [if_pos h, ← irange_map]
  rw [Int.sub_zero]
theorem so_rng1 {n : Int} : Si (rng1F [.v (eI.v n)]) (rng1C n) (List.map eI.e) := si_grd so_rng1p
theorem so_rng2 {l n : Int} : Si (rng2F [.v (eI.v l), .v (eI.v n)]) (rng2C l n) (List.map eI.e) := si_grd fun h => by
  show (if l.natAbs < 4611686018427387904 ∧ n.natAbs < 4611686018427387904 then Rs.ok (irange l (n - l).toNat) else .no) = _
  rw [if_pos h, irange_map]
def lcG (p : α → Rs Bool) (q : α → Rs β) : List α → Rs (List β)
  | [] => .ok []
  | a :: as => (qu (p a)).bind fun c => if c = true then (qu (q a)).bind fun b => (lcG p q as).bind fun bs => .ok (b :: bs) else lcG p q as
def lcM (xs : List α) (p : α → Rs Bool) (q : α → Rs β) : Rs (List β) := grd (xs.length ≤ 100000) (lcG p q xs)
def cns (o : Option PyData) (r : List PyData) : List PyData := match o with
  | some x => x :: r
  | none => r
theorem lcL_cons {g : XG K} {c : XT K} {x : XE K} {d : PyData} {ds : List PyData} : lcL g c x st (d :: ds) = (lcOne g c x st d).bind fun o => (lcL g c x st ds).map (cns o) := by
  rw [lcL]
  congr 1
  funext o
  cases o <;> rfl
theorem sn_lcG {g : XG K} {c : XT K} {x : XE K} {α β : Type} {E : En β} {f : α → PyData} {p : α → Rs Bool} {q : α → Rs β} (hg : ∀ a, ∃ st1, g.ev (f a) st = some st1 ∧ ST c st1 (p a) ∧ SV E.v x st1 (q a)) :
    ∀ xs : List α, Si (Rs.of (lcL g c x st (xs.map f))) (lcG p q xs) (List.map E.e)
  | [] => rfl
  | a :: as => by
    obtain ⟨st1, h1, h2, h3⟩ := hg a
    have ih := sn_lcG hg as
    rw [List.map_cons, lcL_cons, lcG]
    have key : ∀ (o : Option PyData), lcOne g c x st (f a) = some o → ∀ (M : Rs (List β)), (∀ ds bs, lcL g c x st (as.map f) = some ds → lcG p q as = .ok bs → ds = bs.map E.e → ∃ r, M = .ok r ∧ cns o ds = r.map E.e) → (lcG p q as = .no → M = .no) → (∀ C n, lcG p q as = .ex C n → False) → Si (Rs.of ((lcOne g c x st (f a)).bind fun o => (lcL g c x st (as.map f)).map (cns o))) M (List.map E.e) := by
      intro o ho M h1 h2 h3
      rw [ho]
      cases hm : lcG p q as with
      | ok bs =>
        rw [hm] at ih
        have ih : Rs.of (lcL g c x st (as.map f)) = .ok (bs.map E.e) := ih
        cases hl : lcL g c x st (as.map f) with
        | none => rw [hl] at ih; cases ih
        | some ds =>
          rw [hl] at ih
          cases ih
          obtain ⟨r, hr, hr2⟩ := h1 _ bs hl hm rfl
          rw [hr]
          show Rs.of (some _) = _
          rw [hr2]; rfl
      | ex C n => exact (h3 C n hm).elim
      | no => rw [h2 hm]; trivial
    have noex : ∀ C n, lcG p q as = .ex C n → False := by
      intro C n he
      rw [he] at ih
      have ih : Rs.of (lcL g c x st (as.map f)) = .ex C n := ih
      cases hl : lcL g c x st (as.map f) with
      | none => rw [hl] at ih; cases ih
      | some ds => rw [hl] at ih; cases ih
    have ho : lcOne g c x st (f a) = (match okV (c.ev st1) with
      | some false => some none
      | some true => match okV (x.ev st1) with
        | some (.d x) => some (some x)
        | _ => none
      | none => none) := by
      unfold lcOne
      rw [h1]; rfl
    cases hp : p a with
    | no => trivial
    | ex _ _ => trivial
    | ok k =>
      rw [hp] at h2
      have h2 : okV (c.ev st1) = some k := Si.okV h2 rfl
      rw [h2] at ho
      cases k with
      | false =>
        refine key none ho _ (fun ds bs _ hb hd => ⟨bs, hb, hd⟩) (fun z => z) noex
      | true =>
        cases hq : q a with
        | no => trivial
        | ex _ _ => trivial
        | ok b =>
          rw [hq] at h3
          have h3 : okV (x.ev st1) = some (E.v b) := Si.okV h3 rfl
          rw [h3] at ho
          refine key (some (E.e b)) ho _ (fun ds bs _ hb hd => ⟨b :: bs, ?_, by rw [hd]; rfl⟩) (fun z => ?_) noex
          · show (lcG p q as).bind _ = _
            rw [hb]; rfl
          · show (lcG p q as).bind _ = _
            rw [z]; rfl
theorem sn_lc {it : XI K} {g : XG K} {c : XT K} {x : XE K} {vs : List Nat} {E : En β} {F : En α} {xs : List α} {p : α → Rs Bool} {q : α → Rs β} (hi : SI (List.map F.e) it st (.ok xs)) (hx : allXb st vs = true) (ht : (g.T.all fun i => decide (i ∈ vs)) = true)
    (hg : ∀ a, ∃ st1, g.ev (F.e a) st = some st1 ∧ ST c st1 (p a) ∧ SV E.v x st1 (q a)) : SN (List.map E.e) (.lc it g c x vs) st (lcM xs p q) := by
  have hi : it.ev st = .ok (xs.map F.e) := hi
  refine si_grd fun hl => ?_
  show Si ((it.ev st).bind fun ds => if ds.length ≤ 100000 ∧ allXb st vs = true ∧ (g.T.all fun i => decide (i ∈ vs)) = true then Rs.of (lcL g c x st ds) else .no) _ _
  rw [hi]
  show Si (if (xs.map F.e).length ≤ 100000 ∧ allXb st vs = true ∧ (g.T.all fun i => decide (i ∈ vs)) = true then Rs.of (lcL g c x st (xs.map F.e)) else .no) _ _
  rw [if_pos ⟨by rw [List.length_map]; exact hl, hx, ht⟩]
  exact sn_lcG hg xs
theorem sn_lcI {it : XI K} {g : XG K} {c : XT K} {x : XE K} {vs : List Nat} {E : En β} {F : En α} {m : Rs (List α)} {p : α → Rs Bool} {q : α → Rs β} (hi : SI (List.map F.e) it st m) (hx : allXb st vs = true) (ht : (g.T.all fun i => decide (i ∈ vs)) = true)
    (hg : ∀ a, ∃ st1, g.ev (F.e a) st = some st1 ∧ ST c st1 (p a) ∧ SV E.v x st1 (q a)) : SN (List.map E.e) (.lc it g c x vs) st (m.bind fun xs => lcM xs p q) := by
  cases m with
  | ok xs => exact sn_lc hi hx ht hg
  | ex C n => have hi : it.ev st = .ex C n := hi; show ((it.ev st).bind _) = _; rw [hi]; rfl
  | no => trivial
theorem sn_lend {i : Nat} {n : XN K} {ds : List PyData} {m : Rs α} {f : α → List PyData} (hi : st[i]? = some (.ol ds)) (h : SN f n (st.set i (.bl ds)) m) : SN f (.lend i n) st (qu m) := by
  show Si (match st[i]? with
    | some (.ol ds) => (match n.ev (st.set i (.bl ds)) with
      | .ok r => Rs.ok r
      | _ => .no)
    | _ => n.ev st) _ _
  rw [hi]
  cases m with
  | ok a => have h : n.ev (st.set i (.bl ds)) = .ok (f a) := h; show (match n.ev (st.set i (.bl ds)) with
      | .ok r => Rs.ok r
      | _ => .no) = _; rw [h]
  | ex _ _ => trivial
  | no => trivial
end
end R

set_option Elab.async false
set_option linter.all false
set_option maxRecDepth 100000
set_option maxHeartbeats 2000000
namespace R
open PySem PySem.Spec PyProof.Rows L2 Z
def blk (js : List Nat) (st : List Sv) : List Sv := match js with
  | [] => st
  | j :: js => blk js (st.set j .x)
section
variable {K : PySem.W.Frag}
theorem wk_trans : ∀ {a b c : List Sl}, Wk a b → Wk b c → Wk a c
  | _, _, _, .nil, .nil => .nil
  | _, _, _, .x w, .x v => .x (wk_trans w v)
  | _, _, _, .x w, .k v => .x (wk_trans w v)
  | _, _, _, .k w, .x v => .x (wk_trans w v)
  | _, _, _, .k w, .k v => .k (wk_trans w v)
theorem wk_set {st : List Sv} {j : Nat} : Wk (sls K st) (sls K (st.set j .x)) := wk_of (by rw [sls_len, sls_len, List.length_set]) fun i => by
  rw [sls_set]
  by_cases h : j = i
  · subst h
    rw [List.getElem?_set]
    by_cases hl : j < (sls K st).length
    · left; rw [if_pos rfl, if_pos hl]; rfl
    · right; rw [if_pos rfl, if_neg hl, List.getElem?_eq_none (by omega)]
  · right; rw [List.getElem?_set_ne h]
theorem wk_blk : ∀ (js : List Nat) (st : List Sv), Wk (sls K st) (sls K (blk js st))
  | [], st => Wk.refl _
  | j :: js, st => wk_trans wk_set (wk_blk js (st.set j .x))
theorem Ex.outbk {W : WX} {t : TS} {ρ ρ' ρ1 : List Sl} (w : Wk ρ' ρ1) (h : Ex W t ρ (.bk ρ')) : Ex W t ρ (.bk ρ1) := ⟨fun D s q => h.run D s (Nx.weak w q)⟩
theorem Ex.outct {W : WX} {t : TS} {ρ ρ' ρ1 : List Sl} (w : Wk ρ' ρ1) (h : Ex W t ρ (.ct ρ')) : Ex W t ρ (.ct ρ1) := ⟨fun D s q => h.run D s (Nx.weak w q)⟩
def XS.pre (js : List Nat) (a : XS K) : XS K where
  ts := a.ts
  ev := fun st => a.ev (blk js st)
  ok := fun md W st w => by
    have ha := a.ok md W (blk js st) w
    have k := wk_blk (K := K) js st
    show OcOk K md W _ _ (a.ev (blk js st))
    cases he : a.ev (blk js st) with
    | no => trivial
    | xc s C n => rw [he] at ha; exact fun l => Ex.weak k (ha l)
    | nx s => rw [he] at ha; exact Ex.weak k ha
    | rt s => rw [he] at ha; exact Ex.weak k ha
    | rw s2_ s => rw [he] at ha; exact Ex.weak k ha
    | ro s => rw [he] at ha; exact Ex.weak k ha
    | bk s => rw [he] at ha; exact Ex.weak k ha
    | ct s => rw [he] at ha; exact Ex.weak k ha
def postO (js : List Nat) : Oc → Oc
  | .nx st => .nx (blk js st)
  | .bk st => .bk (blk js st)
  | .ct st => .ct (blk js st)
  | o => o
def XS.post (js : List Nat) (a : XS K) : XS K where
  ts := a.ts
  ev := fun st => postO js (a.ev st)
  ok := fun md W st w => by
    have ha := a.ok md W st w
    show OcOk K md W _ _ (postO js (a.ev st))
    cases he : a.ev st with
    | no => trivial
    | xc s C n => rw [he] at ha; exact ha
    | nx s => rw [he] at ha; exact Ex.out (wk_blk js s) ha
    | rt s => rw [he] at ha; exact ha
    | rw s2_ s => rw [he] at ha; exact ha
    | ro s => rw [he] at ha; exact ha
    | bk s => rw [he] at ha; exact Ex.outbk (wk_blk js s) ha
    | ct s => rw [he] at ha; exact Ex.outct (wk_blk js s) ha
end
def Oc.isNx : Oc → Bool
  | .nx _ => true
  | _ => false
def Oc.isRet : Oc → Bool
  | .rt _ => true
  | .rw _ _ => true
  | .ro _ => true
  | _ => false
inductive J (τ α : Type) where
  | nx (t : τ) | ex (a : α)
inductive LO (σ α : Type) where
  | nx (s : σ) | bk (s : σ) | ex (a : α)
section
variable {K : PySem.W.Frag} {α β γ δ τ σ : Type} {st : List Sv}
def bindJ (m : Rs (J τ α)) (g : τ → Rs α) : Rs α := m.bind fun j => match j with
  | .nx t => g t
  | .ex a => .ok a
def SS (s : XS K) (st : List Sv) (m : Rs α) (P : α → Oc → Prop) : Prop := match m with
  | .ok a => P a (s.ev st)
  | .ex C n => ∃ st', st'.length = st.length ∧ s.ev st = .xc st' C n
  | .no => True
def PN (es : τ → List Sv) (t : τ) (o : Oc) : Prop := o = .nx (es t)
def PX (P : α → Oc → Prop) (a : α) (o : Oc) : Prop := P a o ∧ o.isNx = false
def PJ (es : τ → List Sv) (P : α → Oc → Prop) (j : J τ α) (o : Oc) : Prop := match j with
  | .nx t => o = .nx (es t)
  | .ex a => P a o ∧ o.isNx = false
def PC (es : σ → List Sv) (s : σ) (o : Oc) : Prop := o = .nx (es s) ∨ o = .ct (es s)
def PL (es : σ → List Sv) (P : α → Oc → Prop) (j : LO σ α) (o : Oc) : Prop := match j with
  | .nx s => o = .nx (es s) ∨ o = .ct (es s)
  | .bk s => o = .bk (es s)
  | .ex a => P a o ∧ o.isRet = true
def PF (own : Bool) (e : α → Vl) (a : α) (o : Oc) : Prop := o.res own = .ok (e a)
theorem si_runX {s : XS K} {own : Bool} {k : Nat} {xs : List Av} {m : Rs α} {e : α → Vl} (h : SS s (start xs k) m (PF own e)) : Si (runX s own k xs) m e := by
  cases m with
  | ok a => exact h
  | ex C n =>
    obtain ⟨st', _, h2⟩ := h
    show Oc.res own (s.ev (start xs k)) = _
    rw [h2]; rfl
  | no => trivial
theorem ss_last {a : XS K} {m : Rs α} {P : α → Oc → Prop} (h : SS (.seq a .nx) st m P) : SS a st m P := by
  have e : (XS.seq a .nx).ev st = a.ev st := by
    show (match a.ev st with
    | .nx st' => Oc.nx st'
    | o => o) = _
    cases a.ev st <;> rfl
  cases m with
  | ok x => have h : P x ((XS.seq a .nx).ev st) := h; rw [e] at h; exact h
  | ex C n => obtain ⟨st', h1, h2⟩ := h; rw [e] at h2; exact ⟨st', h1, h2⟩
  | no => trivial
theorem seq_nx {a b : XS K} {st1 : List Sv} (h : a.ev st = .nx st1) : (XS.seq a b).ev st = b.ev st1 := by
  show (match a.ev st with
    | .nx st' => b.ev st'
    | o => o) = _
  rw [h]
theorem seq_x {a b : XS K} {o : Oc} (h : a.ev st = o) (k : o.isNx = false) : (XS.seq a b).ev st = o := by
  show (match a.ev st with
    | .nx st' => b.ev st'
    | o => o) = _
  rw [h]
  cases o with
  | nx _ => cases k
  | _ => rfl
theorem ss_step {a b : XS K} {st1 : List Sv} {m : Rs α} {P : α → Oc → Prop} (h : a.ev st = .nx st1) (hl : st1.length = st.length) (k : SS b st1 m P) : SS (.seq a b) st m P := by
  have e := seq_nx (b := b) h
  cases m with
  | ok x => show P x ((XS.seq a b).ev st); rw [e]; exact k
  | ex C n => obtain ⟨st', h1, h2⟩ := k; exact ⟨st', h1.trans hl, by rw [e]; exact h2⟩
  | no => trivial
theorem ss_xc {a b : XS K} {C : Addr} {n : Int} {st1 : List Sv} {P : α → Oc → Prop} (h : a.ev st = .xc st1 C n) (hl : st1.length = st.length) : SS (.seq a b) st (.ex C n : Rs α) P := ⟨st1, hl, seq_x h rfl⟩
theorem ss_seq {a b : XS K} {m : Rs τ} {es : τ → List Sv} {g : τ → Rs α} {P : α → Oc → Prop} (h : SS a st m (PN es)) (hl : ∀ t, (es t).length = st.length) (k : ∀ t, SS b (es t) (g t) P) : SS (.seq a b) st (m.bind g) P := by
  cases m with
  | ok t => exact ss_step h (hl t) (k t)
  | ex C n => obtain ⟨st', h1, h2⟩ := h; exact ss_xc h2 h1
  | no => trivial
theorem ss_seqJ {a b : XS K} {m : Rs (J τ α)} {es : τ → List Sv} {g : τ → Rs α} {P : α → Oc → Prop} (h : SS a st m (PJ es P)) (hl : ∀ t, (es t).length = st.length) (k : ∀ t, SS b (es t) (g t) P) : SS (.seq a b) st (bindJ m g) P := by
  cases m with
  | ok j =>
    cases j with
    | nx t => exact ss_step h (hl t) (k t)
    | ex x =>
      obtain ⟨h1, h2⟩ := h
      show P x ((XS.seq a b).ev st)
      rw [seq_x rfl h2]
      exact h1
  | ex C n => obtain ⟨st', h1, h2⟩ := h; exact ss_xc h2 h1
  | no => trivial
theorem ss_nx {a : α} {P : α → Oc → Prop} (h : P a (.nx st)) : SS (.nx : XS K) st (.ok a) P := h
theorem ss_brk {a : α} {P : α → Oc → Prop} (h : P a (.bk st)) : SS (.brk : XS K) st (.ok a) P := h
theorem ss_post {js : List Nat} {a : XS K} {m : Rs α} {P : α → Oc → Prop} (h : SS a st m (fun t o => P t (postO js o))) : SS (.post js a) st m P := by
  cases m with
  | ok t => exact h
  | ex C n => obtain ⟨st', h1, h2⟩ := h; exact ⟨st', h1, by show postO js (a.ev st) = _; rw [h2]; rfl⟩
  | no => trivial
theorem frz_eq {i : Nat} {ds : List PyData} (hi : st[i]? = some (.ol ds)) : frz i st = st.set i (.v (.d (.list ds))) := by
  unfold frz
  rw [hi]
theorem ss_frz {i : Nat} {a : XS K} {ds : List PyData} {st1 : List Sv} {m : Rs α} {P : α → Oc → Prop} (hi : st[i]? = some (.ol ds)) (hs : st.set i (.v (.d (.list ds))) = st1) (h : SS a st1 m P) : SS (.frz i a) st m P := by
  have hl : st1.length = st.length := by rw [← hs, List.length_set]
  have e : (XS.frz i a).ev st = a.ev st1 := by
    show a.ev (frz i st) = _
    rw [frz_eq hi, hs]
  cases m with
  | ok t => show P t _; rw [e]; exact h
  | ex C n => obtain ⟨st', h1, h2⟩ := h; exact ⟨st', h1.trans hl, by rw [e]; exact h2⟩
  | no => trivial
theorem ss_set {i : Nat} {x : XE K} {b : XS K} {e : γ → Vl} {u : γ} {st1 : List Sv} {m : Rs α} {P : α → Oc → Prop} (h : SV e x st (.ok u)) (hs : st.set i (.v (e u)) = st1) (k : SS b st1 m P) : SS (.seq (.set i x) b) st m P := by
  have h : x.ev st = .ok (e u) := h
  refine ss_step (st1 := st1) ?_ (by rw [← hs, List.length_set]) k
  show (x.ev st).oc st _ = _
  rw [h]
  show Oc.nx _ = _
  rw [hs]
theorem oc_xc {r : Rs γ} {f : γ → Oc} {C : Addr} {n : Int} (h : r = .ex C n) : r.oc st f = .xc st C n := by rw [h]; rfl
theorem ss_setI {i : Nat} {x : XE K} {b : XS K} {e : γ → Vl} {n : Rs γ} {st1 : γ → List Sv} {g : γ → Rs α} {P : α → Oc → Prop} (h : SV e x st n) (hs : ∀ u, st.set i (.v (e u)) = st1 u) (k : ∀ u, SS b (st1 u) (g u) P) : SS (.seq (.set i x) b) st (n.bind g) P := by
  cases n with
  | ok u => exact ss_set h (hs u) (k u)
  | ex C n => exact ss_xc (oc_xc h) rfl
  | no => trivial
theorem ss_setN {i : Nat} {x : XN K} {b : XS K} {f : γ → List PyData} {u : γ} {st1 : List Sv} {m : Rs α} {P : α → Oc → Prop} (h : SN f x st (.ok u)) (hs : st.set i (.ol (f u)) = st1) (hi : Nat.blt i st.length = true) (k : SS b st1 m P) : SS (.seq (.setN i x) b) st m P := by
  have h : x.ev st = .ok (f u) := h
  refine ss_step (st1 := st1) ?_ (by rw [← hs, List.length_set]) k
  show (x.ev st).oc st _ = _
  rw [h]
  show (if i < st.length then Oc.nx _ else .no) = _
  rw [if_pos (show i < st.length from Nat.le_of_ble_eq_true hi), hs]
theorem ss_setNI {i : Nat} {x : XN K} {b : XS K} {f : γ → List PyData} {n : Rs γ} {st1 : γ → List Sv} {g : γ → Rs α} {P : α → Oc → Prop} (h : SN f x st n) (hs : ∀ u, st.set i (.ol (f u)) = st1 u) (hi : Nat.blt i st.length = true) (k : ∀ u, SS b (st1 u) (g u) P) : SS (.seq (.setN i x) b) st (n.bind g) P := by
  cases n with
  | ok u => exact ss_setN h (hs u) hi (k u)
  | ex C n => exact ss_xc (oc_xc h) rfl
  | no => trivial
theorem ss_asg {t : XG K} {x : XE K} {b : XS K} {e : γ → Vl} {u : γ} {d : PyData} {st1 : List Sv} {m : Rs α} {P : α → Oc → Prop} (h : SV e x st (.ok u)) (he : e u = .d d) (hs : t.ev d st = some st1) (hl : st1.length = st.length) (k : SS b st1 m P) : SS (.seq (.asg t x) b) st m P := by
  have h : x.ev st = .ok (e u) := h
  refine ss_step (st1 := st1) ?_ hl k
  show (x.ev st).oc st _ = _
  rw [h, he]
  show (match t.ev d st with
      | some st' => Oc.nx st'
      | none => .no) = _
  rw [hs]
theorem ss_asgI {t : XG K} {x : XE K} {b : XS K} {e : γ → Vl} {n : Rs γ} {d : γ → PyData} {st1 : γ → List Sv} {g : γ → Rs α} {P : α → Oc → Prop} (h : SV e x st n) (he : ∀ u, e u = .d (d u)) (hs : ∀ u, t.ev (d u) st = some (st1 u)) (hl : ∀ u, (st1 u).length = st.length) (k : ∀ u, SS b (st1 u) (g u) P) : SS (.seq (.asg t x) b) st (n.bind g) P := by
  cases n with
  | ok u => exact ss_asg h (he u) (hs u) (hl u) (k u)
  | ex C n => exact ss_xc (oc_xc h) rfl
  | no => trivial
theorem ss_parpp {i j : Nat} {x y : XE K} {b : XS K} {e1 : γ → Vl} {e2 : δ → Vl} {u : γ} {v : δ} {st1 : List Sv} {m : Rs α} {P : α → Oc → Prop} (h1 : SV e1 x st (.ok u)) (h2 : SV e2 y st (.ok v)) (hs : (st.set i (.v (e1 u))).set j (.v (e2 v)) = st1) (k : SS b st1 m P) : SS (.seq (.par i j (.cons false x (.cons false y .nil))) b) st m P := by
  refine ss_step (st1 := st1) ?_ (by rw [← hs, List.length_set, List.length_set]) k
  have h1 : x.ev st = .ok (e1 u) := h1
  have h2 : y.ev st = .ok (e2 v) := h2
  show (((x.ev st).bind _).bind _).oc st _ = _
  rw [h1]
  show ((((y.ev st).bind _).bind _).bind _).oc st _ = _
  rw [h2]
  show Oc.nx _ = _
  rw [hs]
theorem ss_parpi {i j : Nat} {x y : XE K} {b : XS K} {e1 : γ → Vl} {e2 : δ → Vl} {u : γ} {n2 : Rs δ} {st1 : δ → List Sv} {g : δ → Rs α} {P : α → Oc → Prop} (h1 : SV e1 x st (.ok u)) (h2 : SV e2 y st n2) (hs : ∀ v, (st.set i (.v (e1 u))).set j (.v (e2 v)) = st1 v) (k : ∀ v, SS b (st1 v) (g v) P) : SS (.seq (.par i j (.cons false x (.cons false y .nil))) b) st (n2.bind g) P := by
  cases n2 with
  | no => trivial
  | ok v => exact ss_parpp h1 h2 (hs v) (k v)
  | ex C n =>
    have h1 : x.ev st = .ok (e1 u) := h1
    have h2 : y.ev st = .ex C n := h2
    refine ss_xc (st1 := st) ?_ rfl
    show (((x.ev st).bind _).bind _).oc st _ = _
    rw [h1]
    show ((((y.ev st).bind _).bind _).bind _).oc st _ = _
    rw [h2]; rfl
theorem ss_drop {x : XE K} {b : XS K} {e : γ → Vl} {n : Rs γ} {m : Rs α} {P : α → Oc → Prop} (h : SV e x st n) (k : SS b st m P) : SS (.seq (.drop x) b) st (n.bind fun _ => m) P := by
  cases n with
  | ok u =>
    have h : x.ev st = .ok (e u) := h
    refine ss_step (st1 := st) ?_ rfl k
    show (x.ev st).oc st _ = _
    rw [h]; rfl
  | ex C n => exact ss_xc (oc_xc h) rfl
  | no => trivial
def pushC (xs : List α) (a : α) : Rs (List α) := grd (xs.length < 1000000) (.ok (xs ++ [a]))
theorem ss_app {i : Nat} {x : XE K} {b : XS K} {E : En γ} {xs : List γ} {u : γ} {st1 : List γ → List Sv} {g : List γ → Rs α} {P : α → Oc → Prop} (hi : st[i]? = some (.ol (xs.map E.e))) (h : SV E.v x st (.ok u)) (hs : ∀ ys : List γ, st.set i (.ol (ys.map E.e)) = st1 ys) (k : ∀ ys, SS b (st1 ys) (g ys) P) : SS (.seq (.app i x) b) st ((pushC xs u).bind g) P := by
  unfold pushC grd
  by_cases hc : xs.length < 1000000
  · rw [if_pos hc]
    have h : x.ev st = .ok (E.v u) := h
    refine ss_step (st1 := st1 (xs ++ [u])) ?_ (by rw [← hs, List.length_set]) (k _)
    show (match st[i]? with
    | some (.ol ds) => (x.ev st).oc st fun a => match a with
      | Vl.d d => if ds.length < 1000000 then Oc.nx (st.set i (.ol (ds ++ [d]))) else .no
      | _ => .no
    | _ => .no) = _
    rw [hi]
    show (x.ev st).oc st _ = _
    rw [h]
    show (if (xs.map E.e).length < 1000000 then Oc.nx (st.set i (.ol (xs.map E.e ++ [E.e u]))) else .no) = _
    rw [if_pos (by rw [List.length_map]; exact hc), ← hs, List.map_append]
    rfl
  · rw [if_neg hc]; trivial
theorem ss_appI {i : Nat} {x : XE K} {b : XS K} {E : En γ} {xs : List γ} {n : Rs γ} {st1 : List γ → List Sv} {g : List γ → Rs α} {P : α → Oc → Prop} (hi : st[i]? = some (.ol (xs.map E.e))) (h : SV E.v x st n) (hs : ∀ ys : List γ, st.set i (.ol (ys.map E.e)) = st1 ys) (k : ∀ ys, SS b (st1 ys) (g ys) P) : SS (.seq (.app i x) b) st (n.bind fun u => (pushC xs u).bind g) P := by
  cases n with
  | ok u => exact ss_app hi h hs k
  | ex C n =>
    have h : x.ev st = .ex C n := h
    refine ss_xc (st1 := st) ?_ rfl
    show (match st[i]? with
    | some (.ol ds) => (x.ev st).oc st fun a => match a with
      | Vl.d d => if ds.length < 1000000 then Oc.nx (st.set i (.ol (ds ++ [d]))) else .no
      | _ => .no
    | _ => .no) = _
    rw [hi]
    exact oc_xc h
  | no => trivial
def setC (xs : List α) (i : Int) (a : α) : Rs (List α) := match ixN xs.length i with
  | some j => .ok (xs.set j a)
  | none => .no
theorem ss_seti {i : Nat} {kx x : XE K} {b : XS K} {E : En γ} {xs : List γ} {u : γ} {z : Int} {st1 : List γ → List Sv} {g : List γ → Rs α} {P : α → Oc → Prop} (hi : st[i]? = some (.ol (xs.map E.e))) (h : SV E.v x st (.ok u)) (hk : SV eI.v kx st (.ok z)) (hs : ∀ ys : List γ, st.set i (.ol (ys.map E.e)) = st1 ys) (k : ∀ ys, SS b (st1 ys) (g ys) P) : SS (.seq (.seti i kx x) b) st ((setC xs z u).bind g) P := by
  unfold setC
  have h : x.ev st = .ok (E.v u) := h
  have hk : kx.ev st = .ok (eI.v z) := hk
  have hkv : okV (kx.iv st) = some z := by
    show okV ((kx.ev st).bind _) = _
    rw [hk]; rfl
  cases hj : ixN xs.length z with
  | none => trivial
  | some j =>
    refine ss_step (st1 := st1 (xs.set j u)) ?_ (by rw [← hs, List.length_set]) (k _)
    show (match st[i]? with
    | some (.ol ds) => (x.ev st).oc st fun a => match a with
      | Vl.d d => match okV (kx.iv st) with
        | some n => match ixN ds.length n with
          | some j => Oc.nx (st.set i (.ol (ds.set j d)))
          | none => .no
        | none => .no
      | _ => .no
    | _ => .no) = _
    rw [hi]
    show (x.ev st).oc st _ = _
    rw [h]
    show (match okV (kx.iv st) with
        | some n => match ixN (xs.map E.e).length n with
          | some j => Oc.nx (st.set i (.ol ((xs.map E.e).set j (E.e u))))
          | none => .no
        | none => .no) = _
    rw [hkv]
    show (match ixN (xs.map E.e).length z with
          | some j => Oc.nx (st.set i (.ol ((xs.map E.e).set j (E.e u))))
          | none => .no) = _
    rw [List.length_map, hj]
    show Oc.nx _ = _
    rw [← hs, List.map_set]
theorem ss_setiI {i : Nat} {kx x : XE K} {b : XS K} {E : En γ} {xs : List γ} {n : Rs γ} {z : Rs Int} {st1 : List γ → List Sv} {g : List γ → Rs α} {P : α → Oc → Prop} (hi : st[i]? = some (.ol (xs.map E.e))) (h : SV E.v x st n) (hk : SV eI.v kx st z) (hs : ∀ ys : List γ, st.set i (.ol (ys.map E.e)) = st1 ys) (k : ∀ ys, SS b (st1 ys) (g ys) P) : SS (.seq (.seti i kx x) b) st (n.bind fun u => (qu z).bind fun z => (setC xs z u).bind g) P := by
  cases n with
  | ok u =>
    cases z with
    | ok z => exact ss_seti hi h hk hs k
    | ex _ _ => trivial
    | no => trivial
  | ex C n =>
    have h : x.ev st = .ex C n := h
    refine ss_xc (st1 := st) ?_ rfl
    show (match st[i]? with
    | some (.ol ds) => (x.ev st).oc st fun a => match a with
      | Vl.d d => match okV (kx.iv st) with
        | some n => match ixN ds.length n with
          | some j => Oc.nx (st.set i (.ol (ds.set j d)))
          | none => .no
        | none => .no
      | _ => .no
    | _ => .no) = _
    rw [hi]
    exact oc_xc h
  | no => trivial
theorem ss_ret {x : XE K} {e : γ → Vl} {u : γ} {a : α} {P : α → Oc → Prop} (h : SV e x st (.ok u)) (hp : P a (.rt (e u))) : SS (.ret x) st (.ok a) P := by
  have h : x.ev st = .ok (e u) := h
  show P a ((x.ev st).oc st .rt)
  rw [h]; exact hp
theorem ss_retM {x : XE K} {e : α → Vl} {n : Rs α} {P : α → Oc → Prop} (h : SV e x st n) (hp : ∀ u, P u (.rt (e u))) : SS (.ret x) st n P := by
  cases n with
  | ok u => exact ss_ret h (hp u)
  | ex C n => exact ⟨st, rfl, oc_xc h⟩
  | no => trivial
theorem ss_raise {C : Addr} {hC : OexC K C} {hn : PySem.W.findIn K (.ref C) "at" = some none} {x : XE K} {n : Int} {P : α → Oc → Prop} (h : SV eI.v x st (.ok n)) : SS (.raise C hC hn (.cons false x .nil)) st (.ex C n : Rs α) P := by
  have h : x.ev st = .ok (eI.v n) := h
  refine ⟨st, rfl, ?_⟩
  show ((((x.ev st).bind _).bind _).oc st _) = _
  rw [h]; rfl
theorem ite_ev {t : XT K} {A B : XS K} {c : Bool} (h : ST t st (.ok c)) : (XS.ite t A B).ev st = if c = true then A.ev st else B.ev st := by
  have h : t.ev st = .ok c := h
  show (t.ev st).oc st _ = _
  rw [h]
  cases c <;> rfl
theorem ite_xc {t : XT K} {A B : XS K} {C : Addr} {n : Int} (h : ST t st (.ex C n)) : (XS.ite t A B).ev st = .xc st C n := oc_xc h
theorem ss_ite {t : XT K} {A B : XS K} {c : Bool} {m n : Rs α} {P : α → Oc → Prop} (h : ST t st (.ok c)) (hA : SS A st m P) (hB : SS B st n P) : SS (.ite t A B) st (if c = true then m else n) P := by
  have e := ite_ev (A := A) (B := B) h
  cases c with
  | true =>
    rw [if_pos rfl] at e ⊢
    cases m with
    | ok a => show P a _; rw [e]; exact hA
    | ex C n => obtain ⟨st', h1, h2⟩ := hA; exact ⟨st', h1, by rw [e]; exact h2⟩
    | no => trivial
  | false =>
    rw [if_neg (fun z => nomatch z)] at e ⊢
    cases n with
    | ok a => show P a _; rw [e]; exact hB
    | ex C n => obtain ⟨st', h1, h2⟩ := hB; exact ⟨st', h1, by rw [e]; exact h2⟩
    | no => trivial
theorem ss_iteI {t : XT K} {A B : XS K} {k : Rs Bool} {m n : Rs α} {P : α → Oc → Prop} (h : ST t st k) (hA : SS A st m P) (hB : SS B st n P) : SS (.ite t A B) st (k.bind fun c => if c = true then m else n) P := by
  cases k with
  | ok c => exact ss_ite h hA hB
  | ex C n => exact ⟨st, rfl, ite_xc h⟩
  | no => trivial
theorem ss_iteX {t : XT K} {A B b : XS K} {c : Bool} {m n : Rs α} {P : α → Oc → Prop} (h : ST t st (.ok c)) (hA : SS A st m (PX P)) (hB : SS (.seq B b) st n P) : SS (.seq (.ite t A B) b) st (if c = true then m else n) P := by
  have e := ite_ev (A := A) (B := B) h
  cases c with
  | true =>
    rw [if_pos rfl] at e ⊢
    cases m with
    | ok a =>
      obtain ⟨h1, h2⟩ := hA
      show P a _
      rw [seq_x e h2]; exact h1
    | ex C n => obtain ⟨st', h1, h2⟩ := hA; exact ss_xc (e.trans h2) h1
    | no => trivial
  | false =>
    rw [if_neg (fun z => nomatch z)] at e ⊢
    have e2 : (XS.seq (.ite t A B) b).ev st = (XS.seq B b).ev st := by
      show (match (XS.ite t A B).ev st with
    | .nx st' => b.ev st'
    | o => o) = _
      rw [e]; rfl
    cases n with
    | ok a => show P a _; rw [e2]; exact hB
    | ex C n => obtain ⟨st', h1, h2⟩ := hB; exact ⟨st', h1, by rw [e2]; exact h2⟩
    | no => trivial
theorem ss_iteXI {t : XT K} {A B b : XS K} {k : Rs Bool} {m n : Rs α} {P : α → Oc → Prop} (h : ST t st k) (hA : SS A st m (PX P)) (hB : SS (.seq B b) st n P) : SS (.seq (.ite t A B) b) st (k.bind fun c => if c = true then m else n) P := by
  cases k with
  | ok c => exact ss_iteX h hA hB
  | ex C n => exact ss_xc (ite_xc h) rfl
  | no => trivial
theorem ss_nxS {b : XS K} {m : Rs α} {P : α → Oc → Prop} (h : SS b st m P) : SS (.seq .nx b) st m P := ss_step rfl rfl h
end
end R

set_option Elab.async false
set_option linter.all false
set_option maxRecDepth 100000
set_option maxHeartbeats 2000000
namespace R
open PySem PySem.Spec PyProof.Rows L2 Z
section
variable {K : PySem.W.Frag} {α β γ δ τ σ : Type} {st : List Sv}
def SSo (o : Oc) (n : Nat) (m : Rs α) (P : α → Oc → Prop) : Prop := match m with
  | .ok a => P a o
  | .ex C k => ∃ st', st'.length = n ∧ o = .xc st' C k
  | .no => True
def forR (f : α → σ → Rs σ) : List α → σ → Rs σ
  | [], s => .ok s
  | x :: xs, s => (f x s).bind fun s => forR f xs s
def forJ (f : α → σ → Rs (LO σ β)) : List α → σ → Rs (J σ β)
  | [], s => .ok (.nx s)
  | x :: xs, s => (f x s).bind fun j => match j with
    | .nx s => forJ f xs s
    | .bk s => .ok (.nx s)
    | .ex a => .ok (.ex a)
theorem lp_cons {g : XG K} {b : XS K} {d : PyData} {ds : List PyData} {st1 : List Sv} (h : g.ev d st = some st1) : lp g b (d :: ds) st = match b.ev st1 with
      | .nx st2 => lp g b ds st2
      | .ct st2 => lp g b ds st2
      | .bk st2 => .nx st2
      | o => o := by
  rw [lp, h]
  all_goals rfl
theorem lp_forR {g : XG K} {b : XS K} {F : α → PyData} {f : α → σ → Rs σ} {es : σ → List Sv} {n : Nat} (hb : ∀ x s, ∃ st1, g.ev (F x) (es s) = some st1 ∧ st1.length = n ∧ SS b st1 (f x s) (PC es)) : ∀ (xs : List α) (s : σ), SSo (lp g b (xs.map F) (es s)) n (forR f xs s) (PN es)
  | [], s => rfl
  | x :: xs, s => by
    obtain ⟨st1, h1, hl, h2⟩ := hb x s
    rw [List.map_cons, lp_cons h1, forR]
    cases hf : f x s with
    | no => trivial
    | ex C k =>
      rw [hf] at h2
      obtain ⟨st', e1, e2⟩ := h2
      rw [e2]
      exact ⟨st', e1.trans hl, rfl⟩
    | ok s2 =>
      rw [hf] at h2
      have ih := lp_forR hb xs s2
      rcases h2 with h2 | h2 <;> rw [h2] <;> exact ih
theorem lp_forJ {g : XG K} {b : XS K} {F : α → PyData} {f : α → σ → Rs (LO σ β)} {es : σ → List Sv} {n : Nat} {P : β → Oc → Prop} (hb : ∀ x s, ∃ st1, g.ev (F x) (es s) = some st1 ∧ st1.length = n ∧ SS b st1 (f x s) (PL es P)) : ∀ (xs : List α) (s : σ), SSo (lp g b (xs.map F) (es s)) n (forJ f xs s) (PJ es P)
  | [], s => rfl
  | x :: xs, s => by
    obtain ⟨st1, h1, hl, h2⟩ := hb x s
    rw [List.map_cons, lp_cons h1, forJ]
    cases hf : f x s with
    | no => trivial
    | ex C k =>
      rw [hf] at h2
      obtain ⟨st', e1, e2⟩ := h2
      rw [e2]
      exact ⟨st', e1.trans hl, rfl⟩
    | ok j =>
      rw [hf] at h2
      cases j with
      | nx s2 =>
        have ih := lp_forJ hb xs s2
        have h2 : b.ev st1 = .nx (es s2) ∨ b.ev st1 = .ct (es s2) := h2
        rcases h2 with h2 | h2 <;> rw [h2] <;> exact ih
      | bk s2 =>
        have h2 : b.ev st1 = .bk (es s2) := h2
        rw [h2]; exact rfl
      | ex a =>
        obtain ⟨h3, h4⟩ := h2
        show P a _ ∧ _
        cases ho : b.ev st1 with
        | rt _ => rw [ho] at h3; exact ⟨h3, rfl⟩
        | rw _ _ => rw [ho] at h3; exact ⟨h3, rfl⟩
        | ro _ => rw [ho] at h3; exact ⟨h3, rfl⟩
        | _ => rw [ho] at h4; cases h4
theorem for_ev {it : XI K} {g : XG K} {b : XS K} {xs : List PyData} (h : it.ev st = .ok xs) : (XS.for_ it g b).ev st = lp g b xs st := by
  show (it.ev st).oc st _ = _
  rw [h]; rfl
theorem ss_forR {it : XI K} {tg : XG K} {b rest : XS K} {F : α → PyData} {f : α → σ → Rs σ} {es : σ → List Sv} {xs : List α} {s0 : σ} {g : σ → Rs β} {P : β → Oc → Prop} (hi : SI (List.map F) it st (.ok xs)) (h0 : es s0 = st) (hl : ∀ s, (es s).length = st.length)
    (hb : ∀ x s, ∃ st1, tg.ev (F x) (es s) = some st1 ∧ st1.length = st.length ∧ SS b st1 (f x s) (PC es)) (k : ∀ s, SS rest (es s) (g s) P) : SS (.seq (.for_ it tg b) rest) st ((forR f xs s0).bind g) P := by
  have hi : it.ev st = .ok (xs.map F) := hi
  refine ss_seq (es := es) ?_ hl k
  have := lp_forR hb xs s0
  rw [h0] at this
  have e := for_ev (g := tg) (b := b) hi
  cases hf : forR f xs s0 with
  | no => trivial
  | ok s => rw [hf] at this; exact e.trans this
  | ex C n => rw [hf] at this; obtain ⟨st', h1, h2⟩ := this; exact ⟨st', h1, e.trans h2⟩
theorem ss_forRI {it : XI K} {tg : XG K} {b rest : XS K} {F : α → PyData} {f : α → σ → Rs σ} {es : σ → List Sv} {m : Rs (List α)} {s0 : σ} {g : σ → Rs β} {P : β → Oc → Prop} (hi : SI (List.map F) it st m) (h0 : es s0 = st) (hl : ∀ s, (es s).length = st.length)
    (hb : ∀ x s, ∃ st1, tg.ev (F x) (es s) = some st1 ∧ st1.length = st.length ∧ SS b st1 (f x s) (PC es)) (k : ∀ s, SS rest (es s) (g s) P) : SS (.seq (.for_ it tg b) rest) st (m.bind fun xs => (forR f xs s0).bind g) P := by
  cases m with
  | ok xs => exact ss_forR hi h0 hl hb k
  | ex C n => exact ss_xc (oc_xc hi) rfl
  | no => trivial
theorem ss_forJ {it : XI K} {tg : XG K} {b rest : XS K} {F : α → PyData} {f : α → σ → Rs (LO σ β)} {es : σ → List Sv} {xs : List α} {s0 : σ} {g : σ → Rs β} {P : β → Oc → Prop} (hi : SI (List.map F) it st (.ok xs)) (h0 : es s0 = st) (hl : ∀ s, (es s).length = st.length)
    (hb : ∀ x s, ∃ st1, tg.ev (F x) (es s) = some st1 ∧ st1.length = st.length ∧ SS b st1 (f x s) (PL es P)) (k : ∀ s, SS rest (es s) (g s) P) : SS (.seq (.for_ it tg b) rest) st (bindJ (forJ f xs s0) g) P := by
  have hi : it.ev st = .ok (xs.map F) := hi
  refine ss_seqJ (es := es) ?_ hl k
  have := lp_forJ hb xs s0
  rw [h0] at this
  have e := for_ev (g := tg) (b := b) hi
  cases hf : forJ f xs s0 with
  | no => trivial
  | ok s => rw [hf] at this; show PJ es P s _; rw [e]; exact this
  | ex C n => rw [hf] at this; obtain ⟨st', h1, h2⟩ := this; exact ⟨st', h1, e.trans h2⟩
theorem ss_forJI {it : XI K} {tg : XG K} {b rest : XS K} {F : α → PyData} {f : α → σ → Rs (LO σ β)} {es : σ → List Sv} {m : Rs (List α)} {s0 : σ} {g : σ → Rs β} {P : β → Oc → Prop} (hi : SI (List.map F) it st m) (h0 : es s0 = st) (hl : ∀ s, (es s).length = st.length)
    (hb : ∀ x s, ∃ st1, tg.ev (F x) (es s) = some st1 ∧ st1.length = st.length ∧ SS b st1 (f x s) (PL es P)) (k : ∀ s, SS rest (es s) (g s) P) : SS (.seq (.for_ it tg b) rest) st (m.bind fun xs => bindJ (forJ f xs s0) g) P := by
  cases m with
  | ok xs => exact ss_forJ hi h0 hl hb k
  | ex C n => exact ss_xc (oc_xc hi) rfl
  | no => trivial
def wl (t : XT K) (b : XS K) : Nat → List Sv → Oc
  | 0, _ => .no
  | n + 1, st => match t.ev st with
    | .ok true => (match b.ev st with
      | .nx s => wl t b n s
      | .ct s => wl t b n s
      | .bk s => .nx s
      | o => o)
    | .ok false => .nx st
    | _ => .no
theorem wl_mono {t : XT K} {b : XS K} : ∀ (n : Nat) (st : List Sv), wl t b n st ≠ .no → ∀ k, wl t b (n + k) st = wl t b n st
  | 0, st, h, k => absurd rfl h
  | n + 1, st, h, k => by
    rw [Nat.add_right_comm]
    unfold wl at h ⊢
    cases ht : t.ev st with
    | ok c =>
      rw [ht] at h
      cases c with
      | false => rfl
      | true =>
        simp only at h ⊢
        cases hb : b.ev st with
        | nx s => rw [hb] at h; exact wl_mono n s h k
        | ct s => rw [hb] at h; exact wl_mono n s h k
        | _ => rfl
    | ex _ _ => rfl
    | no => rfl
open Classical in
noncomputable def wlv (t : XT K) (b : XS K) (st : List Sv) : Oc := if h : ∃ n, wl t b n st ≠ .no then wl t b (choose h) st else .no
theorem wlv_of {t : XT K} {b : XS K} {n : Nat} (h : wl t b n st ≠ .no) : wlv t b st = wl t b n st := by
  unfold wlv
  have hx : ∃ n, wl t b n st ≠ .no := ⟨n, h⟩
  rw [dif_pos hx]
  have h2 := Classical.choose_spec hx
  rcases Nat.le_total n (Classical.choose hx) with z | z
  · have := wl_mono n st h (Classical.choose hx - n)
    rw [Nat.add_sub_cancel' z] at this
    exact this
  · have := wl_mono _ st h2 (n - Classical.choose hx)
    rw [Nat.add_sub_cancel' z] at this
    exact this.symm
theorem wlv_ex {t : XT K} {b : XS K} (h : wlv t b st ≠ .no) : ∃ n, wl t b n st ≠ .no ∧ wlv t b st = wl t b n st := by
  by_cases hx : ∃ n, wl t b n st ≠ .no
  · obtain ⟨n, hn⟩ := hx
    exact ⟨n, hn, wlv_of hn⟩
  · unfold wlv at h
    rw [dif_neg hx] at h
    exact absurd rfl h
theorem wl_run {t : XT K} {b : XS K} {md : Md} {W : WX} (w : md.fits W) {O : Oc} (hO : O ≠ .no) (hx : md.loud = true ∨ ∀ s C n, O ≠ .xc s C n) {n : Nat} (h : wl t b n st = O) : Ex W (tWhile (t.tt md) (b.ts md)) (sls K st) (lpO K O) := by
  refine ExS.ex ?_
  refine ExS.whileI (S := fun o' => o' = lpO K O) (fun s : Nat × List Sv => sls K s.2) (fun s => wl t b s.1 s.2 = O) (fun s => s.1) (fun s => match t.ev s.2 with
    | .ok c => c
    | _ => false) (s0 := (n, st)) (Wk.refl _) h ?_ ?_ ?_
  · rintro ⟨n, s⟩ hi
    have ht := t.ok md s
    cases n with
    | zero => exact absurd hi.symm hO
    | succ n =>
      simp only at hi ⊢
      unfold wl at hi
      cases he : t.ev s with
      | ok c => rw [he] at ht; exact ht
      | ex _ _ => rw [he] at hi; exact absurd hi.symm hO
      | no => rw [he] at hi; exact absurd hi.symm hO
  · rintro ⟨n, s⟩ hi hb
    cases n with
    | zero => exact absurd hi.symm hO
    | succ n =>
      simp only at hi hb ⊢
      unfold wl at hi
      cases he : t.ev s with
      | ex _ _ => rw [he] at hi; exact absurd hi.symm hO
      | no => rw [he] at hi; exact absurd hi.symm hO
      | ok c =>
        rw [he] at hi hb
        simp only at hb
        subst hb
        simp only at hi
        have hk := b.ok md W s w
        cases hbv : b.ev s with
        | no => rw [hbv] at hi; exact absurd hi.symm hO
        | nx s2 => rw [hbv] at hi hk; exact ExS.of (Ex.go hk) (.inl ⟨(n, s2), hi, Nat.lt_succ_self n, rfl⟩)
        | ct s2 => rw [hbv] at hi hk; exact ExS.of (Ex.goc hk) (.inl ⟨(n, s2), hi, Nat.lt_succ_self n, rfl⟩)
        | bk s2 => rw [hbv] at hi hk; exact ExS.of hk (.inr ⟨rfl, by rw [← hi]; rfl⟩)
        | rt a => rw [hbv] at hi hk; exact ExS.of hk (.inr ⟨rfl, by rw [← hi]; rfl⟩)
        | rw s2_ a => rw [hbv] at hi hk; exact ExS.of hk (.inr ⟨rfl, by rw [← hi]; rfl⟩)
        | ro a => rw [hbv] at hi hk; exact ExS.of hk (.inr ⟨rfl, by rw [← hi]; rfl⟩)
        | xc s2 C k =>
          rw [hbv] at hi hk
          have l : md.loud = true := hx.resolve_right fun z => z _ _ _ hi.symm
          exact ExS.of (hk l) (.inr ⟨rfl, by rw [← hi]; rfl⟩)
  · rintro ⟨n, s⟩ hi hb
    cases n with
    | zero => exact absurd hi.symm hO
    | succ n =>
      simp only at hi hb ⊢
      unfold wl at hi
      cases he : t.ev s with
      | ex _ _ => rw [he] at hi; exact absurd hi.symm hO
      | no => rw [he] at hi; exact absurd hi.symm hO
      | ok c =>
        rw [he] at hi hb
        simp only at hb
        subst hb
        simp only at hi
        rw [← hi]; rfl
noncomputable def XS.while_ (t : XT K) (b : XS K) : XS K where
  ts := fun md => tWhile (t.tt md) (b.ts md)
  ev := fun st => wlv t b st
  ok := fun md W st w => by
    show OcOk K md W _ _ (wlv t b st)
    by_cases hno : wlv t b st = .no
    · rw [hno]; trivial
    · obtain ⟨n, h1, h2⟩ := wlv_ex hno
      by_cases hl : md.loud = true ∨ ∀ s C n, wlv t b st ≠ .xc s C n
      · have main := wl_run w hno hl h2.symm
        cases he : wlv t b st with
        | no => trivial
        | xc s C n => rw [he] at main; exact fun _ => main
        | nx s => rw [he] at main; exact main
        | rt s => rw [he] at main; exact main
        | rw s2_ s => rw [he] at main; exact main
        | ro s => rw [he] at main; exact main
        | bk s => rw [he] at main; exact main
        | ct s => rw [he] at main; exact main
      · cases he : wlv t b st with
        | xc s C n => exact fun l => absurd (.inl l) hl
        | no => trivial
        | nx s => exact absurd (.inr (by rw [he]; exact fun _ _ _ z => nomatch z)) hl
        | rt s => exact absurd (.inr (by rw [he]; exact fun _ _ _ z => nomatch z)) hl
        | rw s2_ s => exact absurd (.inr (by rw [he]; exact fun _ _ _ z => nomatch z)) hl
        | ro s => exact absurd (.inr (by rw [he]; exact fun _ _ _ z => nomatch z)) hl
        | bk s => exact absurd (.inr (by rw [he]; exact fun _ _ _ z => nomatch z)) hl
        | ct s => exact absurd (.inr (by rw [he]; exact fun _ _ _ z => nomatch z)) hl
def whN (c : σ → Rs Bool) (f : σ → Rs (LO σ β)) : Nat → σ → Rs (J σ β)
  | 0, _ => .no
  | n + 1, s => (qu (c s)).bind fun k => if k = true then (f s).bind fun j => match j with
    | .nx s => whN c f n s
    | .bk s => .ok (.nx s)
    | .ex a => .ok (.ex a) else .ok (.nx s)
open Classical in
noncomputable def whJ (c : σ → Rs Bool) (f : σ → Rs (LO σ β)) (s : σ) : Rs (J σ β) := if h : ∃ n, whN c f n s ≠ .no then whN c f (choose h) s else .no
theorem whN_mono {c : σ → Rs Bool} {f : σ → Rs (LO σ β)} : ∀ (n : Nat) (s : σ), whN c f n s ≠ .no → ∀ k, whN c f (n + k) s = whN c f n s
  | 0, s, h, k => absurd rfl h
  | n + 1, s, h, k => by
    rw [Nat.add_right_comm]
    unfold whN at h ⊢
    cases hc : c s with
    | ex _ _ => rfl
    | no => rfl
    | ok b =>
      rw [hc] at h
      cases b with
      | false => rfl
      | true =>
        show (f s).bind _ = (f s).bind _
        have h : (f s).bind _ ≠ .no := h
        cases hf : f s with
        | ex _ _ => rfl
        | no => rfl
        | ok j =>
          rw [hf] at h
          cases j with
          | nx s2 => exact whN_mono n s2 h k
          | bk _ => rfl
          | ex _ => rfl
theorem whJ_of {c : σ → Rs Bool} {f : σ → Rs (LO σ β)} {n : Nat} {s : σ} {r : Rs (J σ β)} (h : whN c f n s = r) (hr : r ≠ .no) : whJ c f s = r := by
  have h0 : whN c f n s ≠ .no := by rw [h]; exact hr
  unfold whJ
  have hx : ∃ n, whN c f n s ≠ .no := ⟨n, h0⟩
  rw [dif_pos hx]
  have h2 := Classical.choose_spec hx
  rcases Nat.le_total n (Classical.choose hx) with z | z
  · have := whN_mono n s h0 (Classical.choose hx - n)
    rw [Nat.add_sub_cancel' z] at this
    exact this.trans h
  · have := whN_mono _ s h2 (n - Classical.choose hx)
    rw [Nat.add_sub_cancel' z] at this
    exact this.symm.trans h
theorem wl_whN {t : XT K} {b : XS K} {c : σ → Rs Bool} {f : σ → Rs (LO σ β)} {es : σ → List Sv} {n : Nat} {P : β → Oc → Prop} (hl : ∀ s, (es s).length = n) (ht : ∀ s, ST t (es s) (c s)) (hb : ∀ s, SS b (es s) (f s) (PL es P)) : ∀ (k : Nat) (s : σ), SSo (wl t b k (es s)) n (whN c f k s) (PJ es P)
  | 0, s => trivial
  | k + 1, s => by
    unfold wl whN
    have h1 := ht s
    cases hc : c s with
    | no => trivial
    | ex _ _ => trivial
    | ok q =>
      rw [hc] at h1
      have h1 : t.ev (es s) = .ok q := h1
      rw [h1]
      cases q with
      | false => exact rfl
      | true =>
        have h2 := hb s
        show SSo (match b.ev (es s) with
          | .nx s => wl t b k s
          | .ct s => wl t b k s
          | .bk s => .nx s
          | o => o) n ((f s).bind _) _
        cases hf : f s with
        | no => trivial
        | ex C m =>
          rw [hf] at h2
          obtain ⟨st', e1, e2⟩ := h2
          rw [e2]
          exact ⟨st', e1.trans (hl s), rfl⟩
        | ok j =>
          rw [hf] at h2
          cases j with
          | nx s2 =>
            have ih := wl_whN hl ht hb k s2
            have h2 : b.ev (es s) = .nx (es s2) ∨ b.ev (es s) = .ct (es s2) := h2
            rcases h2 with h2 | h2 <;> rw [h2] <;> exact ih
          | bk s2 =>
            have h2 : b.ev (es s) = .bk (es s2) := h2
            rw [h2]; exact rfl
          | ex a =>
            obtain ⟨h3, h4⟩ := h2
            show P a _ ∧ _
            cases ho : b.ev (es s) with
            | rt _ => rw [ho] at h3; exact ⟨h3, rfl⟩
            | rw _ _ => rw [ho] at h3; exact ⟨h3, rfl⟩
            | ro _ => rw [ho] at h3; exact ⟨h3, rfl⟩
            | _ => rw [ho] at h4; cases h4
theorem sso_ne {o : Oc} {n : Nat} {m : Rs (J σ β)} {es : σ → List Sv} {P : β → Oc → Prop} (h : SSo o n m (PJ es (fun a o => P a o ∧ o.isRet = true))) (hm : m ≠ .no) : o ≠ .no := by
  cases m with
  | no => exact absurd rfl hm
  | ex C k => obtain ⟨st', _, e⟩ := h; rw [e]; exact fun z => nomatch z
  | ok j =>
    cases j with
    | nx s => have h : o = .nx (es s) := h; rw [h]; exact fun z => nomatch z
    | ex a => obtain ⟨⟨_, h2⟩, _⟩ := h; intro z; rw [z] at h2; cases h2
theorem ss_while {t : XT K} {b rest : XS K} {c : σ → Rs Bool} {f : σ → Rs (LO σ β)} {es : σ → List Sv} {s0 : σ} {g : σ → Rs β} {P : β → Oc → Prop} (h0 : es s0 = st) (hl : ∀ s, (es s).length = st.length) (ht : ∀ s, ST t (es s) (c s)) (hb : ∀ s, SS b (es s) (f s) (PL es P)) (k : ∀ s, SS rest (es s) (g s) P) : SS (.seq (.while_ t b) rest) st (bindJ (whJ c f s0) g) P := by
  refine ss_seqJ (es := es) ?_ hl k
  by_cases hx : ∃ n, whN c f n s0 ≠ .no
  · obtain ⟨n, hn⟩ := hx
    rw [whJ_of (n := n) rfl hn]
    have hb' : ∀ s, SS b (es s) (f s) (PL es (fun a o => P a o ∧ o.isRet = true)) := fun s => by
      have := hb s
      cases hf : f s with
      | no => trivial
      | ex C m => rw [hf] at this; exact this
      | ok j =>
        rw [hf] at this
        cases j with
        | nx _ => exact this
        | bk _ => exact this
        | ex a => exact ⟨this, this.2⟩
    have h1 := wl_whN hl ht hb' n s0
    have h2 := wlv_of (sso_ne h1 hn)
    rw [h0] at h1 h2
    have e : (XS.while_ t b).ev st = wl t b n st := h2
    cases hm : whN c f n s0 with
    | no => trivial
    | ex C m => rw [hm] at h1; obtain ⟨st', e1, e2⟩ := h1; exact ⟨st', e1, e.trans e2⟩
    | ok j =>
      rw [hm] at h1
      show PJ es P j _
      rw [e]
      cases j with
      | nx s => exact h1
      | ex a => exact ⟨h1.1.1, h1.2⟩
  · unfold whJ
    rw [dif_neg hx]
    trivial
def tryJ (m : Rs α) (H : Addr → Int → Rs α) : Rs α := match m with
  | .ex C n => H C n
  | r => r
def hndM (K : PySem.W.Frag) (cW C : Addr) (m : Rs β) (f : β → α) : Rs (J τ α) := if PySem.W.exmOne K (.ref C) (.ref cW) = some true then (qu m).bind fun a => .ok (.ex (f a)) else .no
theorem sv_errAt {i : Nat} {a d C : Addr} {kn : List Addr} {hk : ∀ C ∈ kn, XfC K C ∧ PySem.W.findIn K (.ref C) "at" = some none} {n : Int} (hi : st[i]? = some (.er a d n)) : SV eI.v (.errAt i a (.ref C) (some d) kn hk : XE K) st (grd (C ∈ kn) (.ok n)) := si_grd fun h => by
  show (match (Value.ref C : Value), (some d : Option Addr), st[i]? with
    | .ref C, some d', some (.er a' d'' n) => if (a' = a ∧ d'' = d') ∧ C ∈ kn then Rs.ok (Vl.d (.int n)) else .no
    | _, _, _ => .no) = _
  rw [hi]
  show (if (a = a ∧ d = d) ∧ C ∈ kn then Rs.ok (Vl.d (.int n)) else .no) = _
  rw [if_pos ⟨⟨rfl, rfl⟩, h⟩]
  rfl
def isXC (K : PySem.W.Frag) (kn : List Addr) (C D : Addr) : Rs Bool := grd (C ∈ kn) (Rs.of (PySem.W.kitOne K (.ref C) (.ref D)))
theorem sv_isX {i : Nat} {a d C D : Addr} {kn : List Addr} {hk : ∀ C ∈ kn, ExcC K C} {n : Int} (hi : st[i]? = some (.er a d n)) : SV eB.v (.isX i a (.ref C) (some d) D kn hk : XE K) st (isXC K kn C D) := si_grd fun h => by
  show Si (match (Value.ref C : Value), (some d : Option Addr), st[i]? with
    | .ref C, some d', some (.er a' d'' n) => if (a' = a ∧ d'' = d') ∧ C ∈ kn then Rs.of ((PySem.W.kitOne K (.ref C) (.ref D)).map fun b => Vl.d (.bool b)) else .no
    | _, _, _ => .no) _ _
  rw [hi]
  show Si (if (a = a ∧ d = d) ∧ C ∈ kn then Rs.of ((PySem.W.kitOne K (.ref C) (.ref D)).map fun b => Vl.d (.bool b)) else .no) _ _
  rw [if_pos ⟨⟨rfl, rfl⟩, h⟩]
  cases PySem.W.kitOne K (.ref C) (.ref D) with
  | none => trivial
  | some b => exact rfl
theorem EqV.inj {E : En α} [h : EqV E] {a b : α} (e : E.e a = E.e b) : a = b := (h.iff a b).mp (by rw [e]; exact (h.iff b b).mpr rfl)
def Rs.map (f : α → β) : Rs α → Rs β
  | .ok a => .ok (f a)
  | .ex C n => .ex C n
  | .no => .no
open Classical in
noncomputable def FnI.of (m : Nat) (dec : τ → List Av) (M : τ → Rs σ) (fs : σ → List (Str × PyData)) : FnI := ⟨m, fun as => if h : ∃ t, dec t = as then (M (choose h)).map fs else .no⟩
theorem FnI.of_si {m : Nat} {dec : τ → List Av} {M : τ → Rs σ} {fs : σ → List (Str × PyData)} (inj : ∀ t t', dec t = dec t' → t = t') (t : τ) : Si ((FnI.of m dec M fs).f (dec t)) (M t) fs := by
  have hx : ∃ t', dec t' = dec t := ⟨t, rfl⟩
  have e : (FnI.of m dec M fs).f (dec t) = (M (Classical.choose hx)).map fs := dif_pos hx
  rw [e, inj _ _ (Classical.choose_spec hx)]
  cases M t with
  | ok a => exact rfl
  | ex _ _ => exact rfl
  | no => trivial
theorem FnI.of_run {m : Nat} {dec : τ → List Av} {M : τ → Rs σ} {fs : σ → List (Str × PyData)} {s : XS K} {C : Addr} {k : Nat} (hr : ∀ t a, Si (runI s C a k (dec t)) (M t) fs) (xs : List Av) (hn : (FnI.of m dec M fs).f xs ≠ .no) (a : Addr) : runI s C a k xs = (FnI.of m dec M fs).f xs := by
  by_cases hx : ∃ t, dec t = xs
  · have e : (FnI.of m dec M fs).f xs = (M (Classical.choose hx)).map fs := dif_pos hx
    rw [e] at hn ⊢
    have h1 := hr (Classical.choose hx) a
    rw [Classical.choose_spec hx] at h1
    cases hm : M (Classical.choose hx) with
    | ok r => rw [hm] at h1; exact h1
    | ex _ _ => rw [hm] at h1; exact h1
    | no => rw [hm] at hn; exact absurd rfl hn
  · have e : (FnI.of m dec M fs).f xs = .no := dif_neg hx
    exact absurd e hn
def PIn (C a : Addr) (fs : α → List (Str × PyData)) (r : α) (o : Oc) : Prop := o.resI C a = .ok (fs r)
theorem si_runI {s : XS K} {C a : Addr} {k : Nat} {xs : List Av} {m : Rs α} {fs : α → List (Str × PyData)} (h : SS s (startI C a xs k) m (PIn C a fs)) : Si (runI s C a k xs) m fs := by
  cases m with
  | ok r => exact h
  | ex D n =>
    obtain ⟨st', _, h2⟩ := h
    show Oc.resI C a (s.ev (startI C a xs k)) = _
    rw [h2]; rfl
  | no => trivial
theorem pi_nx {C a : Addr} {fs : α → List (Str × PyData)} {r : α} {l : List (Str × PyData)} (h : st[(0 : Nat)]? = some (.oi C a l)) (he : fs r = l) : PIn C a fs r (.nx st) := by
  show (match st[(0 : Nat)]? with
    | some (.oi C' a' fs) => if C' = C ∧ a' = a then Rs.ok fs else .no
    | _ => .no) = _
  rw [h]
  show (if C = C ∧ a = a then Rs.ok l else .no) = _
  rw [if_pos ⟨rfl, rfl⟩, he]
theorem ss_setfld {i : Nat} {C a : Addr} {c : Cls K C} {f : Str} {hn : NoAttr K C f} {x : XE K} {b : XS K} {fs : List (Str × PyData)} {E : En γ} {u : γ} {st1 : List Sv} {m : Rs α} {P : α → Oc → Prop} (hi : st[i]? = some (.oi C a fs)) (hf : (fs.lookup f).isNone = true) (hz : Nat.blt fs.length 1000 = true) (h : SV E.v x st (.ok u)) (hs : st.set i (.oi C a (fs ++ [(f, E.e u)])) = st1) (k : SS b st1 m P) : SS (.seq (.setfld i C c f hn x) b) st m P := by
  have h : x.ev st = .ok (E.v u) := h
  refine ss_step (st1 := st1) ?_ (by rw [← hs, List.length_set]) k
  show (match st[i]? with
    | some (.oi C' a fs) => if C' = C ∧ (fs.lookup f).isNone = true ∧ fs.length < 1000 then (x.ev st).oc st fun v => match v with
      | Vl.d d => Oc.nx (st.set i (.oi C a (fs ++ [(f, d)])))
      | _ => .no else .no
    | _ => .no) = _
  rw [hi]
  show (if C = C ∧ (fs.lookup f).isNone = true ∧ fs.length < 1000 then (x.ev st).oc st _ else .no) = _
  rw [if_pos ⟨rfl, hf, Nat.le_of_ble_eq_true hz⟩, h]
  show Oc.nx _ = _
  rw [← hs]
theorem ss_setfldI {i : Nat} {C a : Addr} {c : Cls K C} {f : Str} {hn : NoAttr K C f} {x : XE K} {b : XS K} {fs : List (Str × PyData)} {E : En γ} {n : Rs γ} {st1 : γ → List Sv} {g : γ → Rs α} {P : α → Oc → Prop} (hi : st[i]? = some (.oi C a fs)) (hf : (fs.lookup f).isNone = true) (hz : Nat.blt fs.length 1000 = true) (h : SV E.v x st n) (hs : ∀ u, st.set i (.oi C a (fs ++ [(f, E.e u)])) = st1 u) (k : ∀ u, SS b (st1 u) (g u) P) : SS (.seq (.setfld i C c f hn x) b) st (n.bind g) P := by
  cases n with
  | ok u => exact ss_setfld hi hf hz h (hs u) (k u)
  | ex D n =>
    refine ss_xc (st1 := st) ?_ rfl
    show (match st[i]? with
    | some (.oi C' a fs) => if C' = C ∧ (fs.lookup f).isNone = true ∧ fs.length < 1000 then (x.ev st).oc st fun v => match v with
      | Vl.d d => Oc.nx (st.set i (.oi C a (fs ++ [(f, d)])))
      | _ => .no else .no
    | _ => .no) = _
    rw [hi]
    show (if C = C ∧ (fs.lookup f).isNone = true ∧ fs.length < 1000 then (x.ev st).oc st _ else .no) = _
    rw [if_pos ⟨rfl, hf, Nat.le_of_ble_eq_true hz⟩]
    exact oc_xc h
  | no => trivial
theorem sv_inK {neg : Bool} {x : XE K} {p : Addr} {ss : List Str} {hq : ∀ H : Hp, SqT K H p (ss.map V.str)} {s : Str} (h : SV eS.v x st (.ok s)) : SV eB.v (.inK neg x p ss hq) st (.ok (if neg then !decide (s ∈ ss) else decide (s ∈ ss))) := by
  have h : x.ev st = .ok (eS.v s) := h
  show (x.ev st).bind _ = _
  rw [h]; rfl
theorem sl_ofE {E : En α} {x : XE K} {m : Rs (List α)} (h : SV (eL E).v x st m) (hx : x.el st = (okV (x.ev st)).bind asL) : SL (List.map E.e) x st m := sl_of (f := List.map E.e) h hx
theorem sw_ofE {E : En α} {x : XE K} {m : Rs (List α)} (h : SV (eL E).v x st m) (hx : x.es st = (okV (x.ev st)).bind asS) : SW (List.map E.e) x st m := sw_of (f := List.map E.e) h hx
theorem sv_eE {E : En α} {n : XN K} {m : Rs (List α)} (h : SN (List.map E.e) n st m) : SV (eL E).v n.e st m := sv_e (f := List.map E.e) h
end
end R

set_option Elab.async false
set_option linter.all false
set_option maxRecDepth 100000
set_option maxHeartbeats 2000000
namespace ZD
open PySem PySem.Spec PyProof.Rows L2 Z PySem.W
section
variable {X : Cx}
variable {prog : Program} {w : World} {A : Around} {E : Value → Shared → Prop} {s : Shared}
def rBest (K : PySem.W.Frag) (best : PyData → List PyData → PyData) : List V → Hp → VK → Prop := fun vs H Q => ∃ (a : Addr) (ys : List V) (d : PyData) (ds : List PyData), vs = [V.ref a] ∧ SqL K H a ys ∧ L2.DpAll K H ys (d :: ds) ∧ AlikeAll (d :: ds) ∧ PyData.depthAll (d :: ds) ≤ 60 ∧
  ∀ (i : Nat) (y : V), ys[i]? = some y → (d :: ds)[i]? = some (best d ds) → Q y H
theorem getD_some {α : Type} {xs : List α} {i : Nat} {z x : α} (h : xs.getD i z = x) (hi : i < xs.length) : xs[i]? = some x := by
  rw [List.getD_eq_getElem?_getD, List.getElem?_eq_getElem hi] at h
  rw [List.getElem?_eq_getElem hi, ← h]
  rfl
theorem cr_maxD' (hc : X.calm = true) (hu : X.A.units + 64 < cLine) : CallR X (.builtin "max") (rBest X.K maxD) := by
  intro pins s σ H vs us Q I r ⟨a, ys, d, ds, e, hs, hd, ha, hk, q⟩
  subst e
  obtain ⟨its, rv, hl, hz⟩ := I.list hs
  rw [Vals.ref1 r]
  obtain ⟨as, hr⟩ := L2.Dp.readsAll I (d :: ds) ys its hd rv
  refine max_list_data (I.ok.hd hc) hl.isList (vs := its.toArray) (by rw [List.toList_toArray]; exact hr) ha (by omega) ?_
  intro i v h' tk bs hv rd kp
  have hv2 : its[i]? = some v := by rw [← hv]; simp
  have hlt : i < its.length := (List.getElem?_eq_some_iff.mp hv2).1
  obtain ⟨cs, r2, hi, _, _⟩ := readsAll_at hr i v hv2
  have same := (rd.unique _ _ (reads_keeps kp r2)).1
  have hi2 : i < ys.length := by rw [rv.length]; exact hlt
  obtain ⟨u, hu1, hu2⟩ := rv.get (List.getElem?_eq_getElem hi2)
  cases Option.some.inj (hu1.symm.trans hv2)
  exact ⟨ys[i], H, I.kept kp, hu2, q i _ (List.getElem?_eq_getElem hi2) (getD_some same.symm hi)⟩
theorem kcr_maxD (K : PySem.W.Frag) (hc : X.calm = true) (hu : X.A.units + 64 < cLine) (h : X.K = K := by rfl) : CallR X (.builtin "max") (rBest K maxD) := by subst h; exact cr_maxD' hc hu
def rSortD (K : PySem.W.Frag) : List V → Hp → VK → Prop := fun vs H Q => ∃ (a : Addr) (xs : List V) (ds : List PyData) (P : V → PyData → Prop), vs = [V.ref a] ∧ SqL K H a xs ∧ EachIs P xs ds ∧ (∀ x d, P x d → L2.Dp K H x d) ∧ (∀ d ∈ ds, d.depth ≤ 60) ∧ AllAlike ds ∧ Sortable ds ∧
  ∀ (ys : List V) (p : Addr), EachIs P ys (ds.mergeSort (dataLe false id)) → H p = none → Q (.ref p) (upd H p (.lst ys))
theorem each_len {α β : Type} {R : α → β → Prop} : ∀ {as : List α} {bs : List β}, EachIs R as bs → as.length = bs.length
  | _, _, .nil => rfl
  | _, _, .cons _ t => by rw [List.length_cons, List.length_cons, each_len t]
theorem each_vals {P : V → PyData → Prop} : ∀ {xs : List V} {us : List Value} {ds : List PyData}, Vals xs us → EachIs P xs ds → EachIs (fun u d => ∃ x, RelV x u ∧ P x d) us ds
  | _, _, _, .nil, .nil => .nil
  | _, _, _, .cons r1 r2, .cons h1 h2 => .cons ⟨_, r1, h1⟩ (each_vals r2 h2)
theorem vals_each {P : V → PyData → Prop} : ∀ {us : List Value} {ds : List PyData}, EachIs (fun u d => ∃ x, RelV x u ∧ P x d) us ds → ∃ xs : List V, Vals xs us ∧ EachIs P xs ds
  | _, _, .nil => ⟨[], .nil, .nil⟩
  | _, _, .cons ⟨x, r, p⟩ t => by
    obtain ⟨xs, h1, h2⟩ := vals_each t
    exact ⟨x :: xs, .cons r h1, .cons p h2⟩
theorem each_imp {α β : Type} {R S : α → β → Prop} (k : ∀ a b, R a b → S a b) : ∀ {as : List α} {bs : List β}, EachIs R as bs → EachIs S as bs
  | _, _, .nil => .nil
  | _, _, .cons h t => .cons (k _ _ h) (each_imp k t)
theorem cr_sortD (hu : X.A.units + 64 < cLine) : CallR X (.builtin "sorted") (rSortD X.K) := by
  intro pins s σ H vs us Q I r h
  obtain ⟨a, xs, ds, P, rfl, hs, hp, hd, hk, ha, hso, q⟩ := h
  obtain ⟨its, rv, hl, hz⟩ := I.list hs
  rw [Vals.ref1 r]
  have hv := each_vals rv hp
  have hlen : xs.length = ds.length := each_len hp
  refine sorted_data (R := fun u d => ∃ x, RelV x u ∧ P x d) (enc := id) hl.isList hv (each_imp (fun u d ⟨x, h1, h2⟩ => L2.Dp.reads I d x u (hd x d h2) h1) hv) (by rw [List.map_id]; exact ha) (by rw [List.map_id]; exact hso) (by rw [← hlen]; exact hz) (fun d hd' => by have := hk d hd'; show _ + d.depth < _; omega) fun out h1 h2 => ?_
  obtain ⟨ys, k1, k2⟩ := vals_each h2
  obtain ⟨ep, he'⟩ := PyProof.Rows.sortedAll_at s.heap its out.toArray
  have hzl : ys.length ≤ sizeLine := by
    rw [k1.length, h1, ← hlen]
    exact hz
  exact ⟨.ref _, upd H (s.heap.objs.size + 1) (.lst ys), I.laid (t' := s.toks) (fun _ _ => PyProof.Rows.sortedAll_old) (Nat.le_succ _) ⟨hzl, out, ep, k1, he'⟩, rfl, q ys _ k2 (I.hok.fresh (Nat.le_succ _))⟩
theorem kcr_sortD (K : PySem.W.Frag) (hu : X.A.units + 64 < cLine) (h : X.K = K := by rfl) : CallR X (.builtin "sorted") (rSortD K) := by subst h; exact cr_sortD hu
end
end ZD

set_option Elab.async false
set_option linter.all false
set_option maxRecDepth 100000
set_option maxHeartbeats 2000000
namespace R
open PySem PySem.Spec PyProof.Rows L2 Z PySem.W
section
variable {K : PySem.W.Frag}
def alikeB (ds : List PyData) : Bool := ds.all fun x => ds.all (alike x) && !isNone x
theorem alikeB_ok {ds : List PyData} (h : alikeB ds = true) : AlikeAll ds := by
  unfold alikeB at h
  rw [List.all_eq_true] at h
  refine ⟨fun x hx y hy => ?_, fun x hx z => ?_⟩
  · have := h x hx
    rw [Bool.and_eq_true, List.all_eq_true] at this
    exact this.1 y hy
  · have := h x hx
    rw [z] at this
    simp [isNone] at this
def Bi.bestD (best : PyData → List PyData → PyData) : Bi K where
  r := ZD.rBest K best
  f := fun as => match as with
    | [.l (d :: ds)] => if alikeB (d :: ds) = true ∧ PyData.depthAll (d :: ds) ≤ 60 then some (.d (best d ds)) else none
    | _ => none
  ok := fun as z h => by
    split at h
    · split at h
      · rename_i d ds hc
        cases h
        exact fun G H L vs Q l r q => by
          cases r with
          | cons h1 t =>
            cases t
            obtain ⟨a, ys, rfl, hH, hd⟩ := bl_sq l h1
            refine ⟨a, ys, d, ds, rfl, .inl (.inl hH), dqAll_dp (dpAll_up l.same hd), alikeB_ok hc.1, hc.2, fun i y hy hi => ?_⟩
            obtain ⟨v, hv, dv⟩ := dpAll_get hd hi
            have e : v = y := Option.some.inj (hv.symm.trans hy)
            rw [← e]
            exact q _ dv
      · cases h
    · cases h
theorem each_dq {G : Hp} : ∀ {vs : List V} {ds : List PyData}, DqAll G vs ds → EachIs (fun v d => Dq G v d) vs ds
  | _, _, .nil => .nil
  | _, _, .cons h t => .cons h (each_dq t)
theorem dq_each {G : Hp} : ∀ {vs : List V} {ds : List PyData}, EachIs (fun v d => Dq G v d) vs ds → DqAll G vs ds
  | _, _, .nil => .nil
  | _, _, .cons h t => .cons h (dq_each t)
def isTup1 : PyData → Bool
  | .tuple (_ :: _) => true
  | _ => false
def isTup : PyData → Bool
  | .tuple _ => true
  | _ => false
def sortB (ds : List PyData) : Bool := (ds.all fun x => ds.all (alike x)) && (ds.all isTup1 || ds.all fun x => !isNone x && !isTup x) && decide (PyData.depthAll ds ≤ 60)
theorem depthAll_mem {ds : List PyData} {k : Nat} (h : PyData.depthAll ds ≤ k) : ∀ d ∈ ds, d.depth ≤ k := by
  induction ds with
  | nil => exact fun _ z => (nomatch z)
  | cons x xs ih =>
    rw [PyData.depthAll] at h
    intro d hd
    rcases List.mem_cons.mp hd with rfl | hd
    · exact Nat.le_trans (Nat.le_max_left _ _) h
    · exact ih (Nat.le_trans (Nat.le_max_right _ _) h) d hd
theorem sortB_ok {ds : List PyData} (h : sortB ds = true) : (∀ d ∈ ds, d.depth ≤ 60) ∧ AllAlike ds ∧ Sortable ds := by
  unfold sortB at h
  rw [Bool.and_eq_true, Bool.and_eq_true, decide_eq_true_eq, List.all_eq_true, Bool.or_eq_true, List.all_eq_true, List.all_eq_true] at h
  obtain ⟨⟨h1, h2⟩, h3⟩ := h
  refine ⟨depthAll_mem h3, fun d hd d' hd' => List.all_eq_true.mp (h1 d hd) d' hd', ?_⟩
  rcases h2 with h2 | h2
  · left
    intro d hd
    have := h2 d hd
    unfold isTup1 at this
    split at this
    · exact ⟨_, _, rfl⟩
    · cases this
  · right
    intro d hd
    have := h2 d hd
    rw [Bool.and_eq_true] at this
    refine ⟨fun z => ?_, fun xs z => ?_⟩
    · rw [z] at this; simp [isNone] at this
    · rw [z] at this; simp [isTup] at this
def BiN.sortD : BiN K where
  r := ZD.rSortD K
  f := fun as => match as with
    | [.l ds] => if sortB ds = true then some (ds.mergeSort (dataLe false id)) else none
    | _ => none
  ok := fun as z h => by
    split at h
    · split at h
      · rename_i ds hc
        cases h
        obtain ⟨k1, k2, k3⟩ := sortB_ok hc
        exact fun G H L vs Q l r q => by
          cases r with
          | cons h1 t =>
            cases t
            obtain ⟨a, ys, rfl, hH, hd⟩ := bl_sq l h1
            exact ⟨a, ys, ds, fun v d => Dq G v d, rfl, .inl (.inl hH), each_dq hd, fun x d hx => dq_dp (dp_up l.same hx), k1, k2, k3, fun zs p hz hp => q p zs hp (dq_each hz)⟩
      · cases h
    · cases h
end
class OrdE {α : Type} (E : En α) where
  lt : α → α → Bool
  al : ∀ a b, alike (E.e a) (E.e b) = true
  eq : ∀ a b, dataLt (E.e a) (E.e b) = lt a b
theorem dataLt_irr (d : PyData) : dataLt d d = false := lex_irrefl _
theorem dataLt_tup (xs ys : List PyData) : dataLt (.tuple xs) (.tuple ys) = rowLt xs ys := by
  unfold dataLt rowLt
  rw [keyToks, keyToks]
theorem dataLt_lst (xs ys : List PyData) : dataLt (.list xs) (.list ys) = rowLt xs ys := by
  unfold dataLt rowLt
  rw [keyToks, keyToks]
theorem rowLt_cons {x y : PyData} (h : alike x y = true) (xs ys : List PyData) : rowLt (x :: xs) (y :: ys) = if PyData.eqv x y = true then rowLt xs ys else dataLt x y := dataLt_cons h xs ys
instance : OrdE eI where
  lt a b := decide (a < b)
  al a b := by show alike (.int a) (.int b) = true; rw [alike]
  eq a b := dataLt_int a b
theorem rowLt_nil : rowLt [] [] = false := by unfold rowLt; exact lex_irrefl _
theorem one_lt {α : Type} {E : En α} [EqV E] [o : OrdE E] [DecidableEq α] (a b : α) : (if PyData.eqv (E.e a) (E.e b) = true then false else dataLt (E.e a) (E.e b)) = o.lt a b := by
  rw [EqV.dec, ← o.eq]
  by_cases h : a = b
  · subst h
    rw [decide_eq_true rfl, if_pos rfl, dataLt_irr]
  · rw [decide_eq_false h, if_neg (fun z => nomatch z)]
instance {α : Type} {A : En α} [EqV A] [oa : OrdE A] [DecidableEq α] : OrdE (eT1 A) where
  lt p q := oa.lt p q
  al p q := by
    show alike (.tuple _) (.tuple _) = true
    simp [alike, alikeAll, oa.al]
  eq p q := by
    show dataLt (.tuple _) (.tuple _) = _
    rw [dataLt_tup, rowLt_cons (oa.al _ _), rowLt_nil, one_lt]
instance {α β : Type} {A : En α} {B : En β} [EqV A] [EqV B] [oa : OrdE A] [ob : OrdE B] [DecidableEq α] [DecidableEq β] : OrdE (eT2 A B) where
  lt p q := if p.1 = q.1 then ob.lt p.2 q.2 else oa.lt p.1 q.1
  al p q := by
    show alike (.tuple _) (.tuple _) = true
    simp [alike, alikeAll, oa.al, ob.al]
  eq p q := by
    show dataLt (.tuple _) (.tuple _) = _
    rw [dataLt_tup, rowLt_cons (oa.al _ _), rowLt_cons (ob.al _ _), rowLt_nil, one_lt, EqV.dec, oa.eq]
    by_cases h : p.1 = q.1 <;> simp [h]
instance {α β γ : Type} {A : En α} {B : En β} {C : En γ} [EqV A] [EqV B] [EqV C] [oa : OrdE A] [ob : OrdE B] [oc : OrdE C] [DecidableEq α] [DecidableEq β] [DecidableEq γ] : OrdE (eT3 A B C) where
  lt p q := if p.1 = q.1 then (if p.2.1 = q.2.1 then oc.lt p.2.2 q.2.2 else ob.lt p.2.1 q.2.1) else oa.lt p.1 q.1
  al p q := by
    show alike (.tuple _) (.tuple _) = true
    simp [alike, alikeAll, oa.al, ob.al, oc.al]
  eq p q := by
    show dataLt (.tuple _) (.tuple _) = _
    rw [dataLt_tup, rowLt_cons (oa.al _ _), rowLt_cons (ob.al _ _), rowLt_cons (oc.al _ _), rowLt_nil, one_lt, EqV.dec, EqV.dec, oa.eq, ob.eq]
    by_cases h : p.1 = q.1 <;> by_cases h2 : p.2.1 = q.2.1 <;> simp [h, h2]
def ltL {α : Type} [DecidableEq α] (lt : α → α → Bool) : List α → List α → Bool
  | [], [] => false
  | [], _ :: _ => true
  | _ :: _, [] => false
  | x :: xs, y :: ys => if x = y then ltL lt xs ys else lt x y
theorem alikeAll_map {α : Type} {A : En α} [oa : OrdE A] : ∀ xs ys : List α, alikeAll (xs.map A.e) (ys.map A.e) = true
  | [], _ => by simp [alikeAll]
  | _ :: _, [] => by simp [alikeAll]
  | x :: xs, y :: ys => by
    rw [List.map_cons, List.map_cons, alikeAll, oa.al, alikeAll_map xs ys]; rfl
theorem rowLt_map {α : Type} {A : En α} [EqV A] [oa : OrdE A] [DecidableEq α] : ∀ xs ys : List α, rowLt (xs.map A.e) (ys.map A.e) = ltL oa.lt xs ys
  | [], [] => rowLt_nil
  | [], y :: ys => by
    unfold rowLt
    rw [List.map_nil, List.map_cons, keyToksAll, keyToksAll]
    rfl
  | x :: xs, [] => by
    unfold rowLt
    rw [List.map_nil, List.map_cons, keyToksAll, keyToksAll]
    rfl
  | x :: xs, y :: ys => by
    rw [List.map_cons, List.map_cons, rowLt_cons (oa.al _ _), rowLt_map xs ys, EqV.dec, oa.eq, ltL]
    by_cases h : x = y <;> simp [h]
instance {α : Type} {A : En α} [EqV A] [oa : OrdE A] [DecidableEq α] : OrdE (eL A) where
  lt := ltL oa.lt
  al p q := by
    show alike (.list _) (.list _) = true
    rw [alike]
    exact alikeAll_map p q
  eq p q := by
    show dataLt (.list _) (.list _) = _
    rw [dataLt_lst, rowLt_map]
class SortE {α : Type} (E : En α) : Prop where
  so : (∀ a, isTup1 (E.e a) = true) ∨ ∀ a, isNone (E.e a) = false ∧ isTup (E.e a) = false
instance : SortE eI := ⟨.inr fun _ => ⟨rfl, rfl⟩⟩
instance {α : Type} {A : En α} : SortE (eL A) := ⟨.inr fun _ => ⟨rfl, rfl⟩⟩
instance {α : Type} {A : En α} : SortE (eT1 A) := ⟨.inl fun _ => rfl⟩
instance {α β : Type} {A : En α} {B : En β} : SortE (eT2 A B) := ⟨.inl fun _ => rfl⟩
instance {α β γ : Type} {A : En α} {B : En β} {C : En γ} : SortE (eT3 A B C) := ⟨.inl fun _ => rfl⟩
section
variable {K : PySem.W.Frag} {α β : Type}
def maxT (lt : α → α → Bool) : List α → Rs α
  | [] => .no
  | x :: xs => .ok (xs.foldl (fun a y => if lt a y = true then y else a) x)
def sortT (lt : α → α → Bool) (xs : List α) : List α := xs.mergeSort fun a b => !lt b a
theorem depthAll_map {E : En α} {k : Nat} [p : ShP E k] (xs : List α) : PyData.depthAll (xs.map E.e) ≤ k := deepAll fun d hd => by
  obtain ⟨x, _, rfl⟩ := List.mem_map.mp hd
  exact (p.sh x).deep
theorem alikeB_map {E : En α} [o : OrdE E] [n : NoNone E] (xs : List α) : alikeB (xs.map E.e) = true := by
  unfold alikeB
  rw [List.all_eq_true]
  intro d hd
  obtain ⟨x, _, rfl⟩ := List.mem_map.mp hd
  rw [Bool.and_eq_true, List.all_eq_true, n.nn]
  refine ⟨fun e he => ?_, rfl⟩
  obtain ⟨y, _, rfl⟩ := List.mem_map.mp he
  exact o.al x y
theorem fold_map {E : En α} (g : PyData → PyData → Bool) (f : α → α → Bool) (h : ∀ a b, g (E.e a) (E.e b) = f a b) : ∀ (xs : List α) (x : α), (xs.map E.e).foldl (fun a y => if g y a = true then y else a) (E.e x) = E.e (xs.foldl (fun a y => if f y a = true then y else a) x)
  | [], x => rfl
  | y :: ys, x => by
    rw [List.map_cons, List.foldl_cons, List.foldl_cons, h, ← fold_map g f h ys]
    congr 1
    cases f y x <;> rfl
theorem so_maxD {E : En α} [o : OrdE E] [n : NoNone E] {k : Nat} [p : ShP E k] {xs : List α} (hk : k ≤ 60 := by decide) : Si (Rs.of ((Bi.bestD maxD : Bi K).f [.l (xs.map E.e)])) (maxT o.lt xs) E.v := by
  cases xs with
  | nil => trivial
  | cons x xs =>
    show Rs.of (if alikeB ((x :: xs).map E.e) = true ∧ PyData.depthAll ((x :: xs).map E.e) ≤ 60 then _ else _) = _
    rw [if_pos ⟨alikeB_map _, Nat.le_trans (depthAll_map _) hk⟩]
    show Rs.ok (Vl.d (maxD (E.e x) (xs.map E.e))) = _
    unfold maxD
    rw [fold_map (fun a b => dataLt b a) (fun a b => o.lt b a) (fun a b => o.eq b a)]
    rfl
theorem so_sortD {E : En α} [o : OrdE E] [q : SortE E] {k : Nat} [p : ShP E k] {xs : List α} (hk : k ≤ 60 := by decide) : Si (Rs.of ((BiN.sortD : BiN K).f [.l (xs.map E.e)])) (.ok (sortT o.lt xs)) (List.map E.e) := by
  have hs : sortB (xs.map E.e) = true := by
    unfold sortB
    rw [Bool.and_eq_true, Bool.and_eq_true, decide_eq_true_eq, List.all_eq_true, Bool.or_eq_true, List.all_eq_true, List.all_eq_true]
    refine ⟨⟨fun d hd => ?_, ?_⟩, Nat.le_trans (depthAll_map _) hk⟩
    · obtain ⟨x, _, rfl⟩ := List.mem_map.mp hd
      rw [List.all_eq_true]
      intro e he
      obtain ⟨y, _, rfl⟩ := List.mem_map.mp he
      exact o.al x y
    · rcases q.so with q | q
      · left
        intro d hd
        obtain ⟨x, _, rfl⟩ := List.mem_map.mp hd
        exact q x
      · right
        intro d hd
        obtain ⟨x, _, rfl⟩ := List.mem_map.mp hd
        rw [(q x).1, (q x).2]; rfl
  show Rs.of (if sortB (xs.map E.e) = true then some ((xs.map E.e).mergeSort (dataLe false id)) else none) = _
  rw [if_pos hs]
  show Rs.ok _ = Rs.ok _
  unfold sortT
  rw [List.map_mergeSort (f := E.e) (s := dataLe false id)]
  intro a _ b _
  show _ = !dataLt (E.e b) (E.e a)
  rw [o.eq]
theorem ss_theO {γ : Type} {o : Option γ} {b : XS K} {st : Option γ → List Sv} {g : γ → Rs α} {P : α → Oc → Prop} (k : ∀ v, SS b (st (some v)) (g v) P) : SS b (st o) ((theO o).bind g) P := by
  cases o with
  | none => trivial
  | some v => exact k v
end
end R

set_option Elab.async false
set_option linter.all false
set_option maxRecDepth 100000
set_option maxHeartbeats 2000000
namespace ZI
open PySem PySem.Spec PyProof.Rows L2 Z
abbrev Tri (h : Heap) (T : Addr) (a b c : Value) : Prop := h.get? T = some { cls := .type "tuple", data := .seq #[a, b, c] }
structure Ap (z TI TO : Addr) (j1 j2 j3 m1 m2 m3 : Addr) : Prop where
  zO : z ≠ TO
  z1 : z ≠ j1
  z2 : z ≠ j2
  z3 : z ≠ j3
  O1 : TO ≠ j1
  O2 : TO ≠ j2
  O3 : TO ≠ j3
  e12 : j1 ≠ j2
  e13 : j1 ≠ j3
  e23 : j2 ≠ j3
  I : TI ≠ z ∧ TI ≠ TO ∧ TI ≠ j1 ∧ TI ≠ j2 ∧ TI ≠ j3
  a1 : m1 ≠ z ∧ m1 ≠ TO ∧ m1 ≠ j1 ∧ m1 ≠ j2 ∧ m1 ≠ j3
  a2 : m2 ≠ z ∧ m2 ≠ TO ∧ m2 ≠ j1 ∧ m2 ≠ j2 ∧ m2 ≠ j3
  a3 : m3 ≠ z ∧ m3 ≠ TO ∧ m3 ≠ j1 ∧ m3 ≠ j2 ∧ m3 ≠ j3
section
variable {prog : Program} {w : World} {A : Around} {E : Value → Shared → Prop} {s : Shared}
end
abbrev itObj (m : Addr) : Obj := { cls := .type "list_iterator", data := .fields #[.ref m, .int 0 0] }
abbrev g1 (h : Heap) (m1 : Addr) : Heap := h.push (itObj m1)
abbrev g2 (h : Heap) (m1 m2 : Addr) : Heap := (g1 h m1).push (itObj m2)
abbrev g3 (h : Heap) (m1 m2 m3 : Addr) : Heap := (g2 h m1 m2).push (itObj m3)
abbrev g4 (h : Heap) (m1 m2 m3 : Addr) : Heap := (g3 h m1 m2 m3).push { cls := .type "tuple", data := .seq #[.ref h.objs.size, .ref (g1 h m1).objs.size, .ref (g2 h m1 m2).objs.size] }
abbrev g5 (h : Heap) (m1 m2 m3 : Addr) : Heap := (g4 h m1 m2 m3).push { cls := .type "tuple", data := .seq #[.none, .none, .none] }
abbrev g6 (h : Heap) (m1 m2 m3 : Addr) : Heap := (g5 h m1 m2 m3).push { cls := .type "zip", data := .fields #[.none, .bool false, .bool false, .ref (g3 h m1 m2 m3).objs.size, .ref (g4 h m1 m2 m3).objs.size] }
section
variable {prog : Program} {w : World} {A : Around} {E : Value → Shared → Prop} {s : Shared}
end
end ZI

set_option Elab.async false
set_option linter.all false
set_option maxRecDepth 100000
set_option maxHeartbeats 2000000
namespace R
open PySem PySem.Spec PyProof.Rows L2 Z
section
variable {K : PySem.W.Frag}
end
section
variable {K : PySem.W.Frag} {α β γ : Type} {st : List Sv}
end
end R

set_option Elab.async false
set_option linter.all false
set_option maxRecDepth 100000
set_option maxHeartbeats 2000000
namespace R
open PySem PySem.Spec PyProof.Rows L2 Z
section
variable {α β γ σ τ : Type}
theorem ok_bind {a : α} {f : α → Rs β} : (Rs.ok a).bind f = f a := rfl
theorem grd_t {c : Prop} [Decidable c] {m : Rs α} (h : c) : grd c m = m := if_pos h
theorem bindJ_nx {t : τ} {g : τ → Rs α} : bindJ (.ok (.nx t)) g = g t := rfl
theorem ixN_in {n : Nat} {i : Int} (h0 : 0 ≤ i) (h : i < n) : ixN n i = some i.toNat := by
  unfold ixN
  rw [if_pos h0, if_pos (by omega)]
theorem ix_n {xs : List α} {i : Int} {a : α} (h0 : 0 ≤ i) (h : xs[i.toNat]? = some a) : ixC xs i = .ok a := by
  obtain ⟨hl, _⟩ := List.getElem?_eq_some_iff.mp h
  unfold ixC atI
  rw [ixN_in h0 (by omega)]
  show Rs.of (xs[i.toNat]?) = _
  rw [h]; rfl
theorem ix_d {xs : List α} {i : Int} (d : α) (h0 : 0 ≤ i) (h : i < xs.length) : ixC xs i = .ok (xs.getD i.toNat d) := by
  refine ix_n h0 ?_
  have : i.toNat < xs.length := by omega
  rw [List.getD_eq_getElem?_getD, List.getElem?_eq_getElem this]; rfl
theorem ix_k {xs : List α} {k : Nat} (d : α) (h : k < xs.length) : ixC xs (k : Int) = .ok (xs.getD k d) := by
  have := ix_d (xs := xs) (i := (k : Int)) d (by omega) (by omega)
  rw [this]
  rfl
theorem gD_mem {xs : List α} {k : Nat} {d : α} (h : k < xs.length) : xs.getD k d ∈ xs := by
  rw [List.getD_eq_getElem?_getD, List.getElem?_eq_getElem h]
  exact List.getElem_mem h
theorem set_ok {xs : List α} {i : Int} {a : α} (h0 : 0 ≤ i) (h : i < xs.length) : setC xs i a = .ok (xs.set i.toNat a) := by
  unfold setC
  rw [ixN_in h0 h]
theorem push_ok {xs : List α} {a : α} (h : xs.length < 1000000) : pushC xs a = .ok (xs ++ [a]) := grd_t h
theorem cat_ok {xs ys : List α} (h : xs.length + ys.length ≤ 1000000) : catC xs ys = .ok (xs ++ ys) := grd_t h
theorem rep_ok {a : α} {k : Nat} (h : k ≤ 1000000) : repC [a] (k : Int) = .ok (List.replicate k a) := by
  unfold repC
  have e : ((k : Nat) : Int).toNat = k := rfl
  rw [grd_t (by rw [e]; exact ⟨by simp only [List.length_cons, List.length_nil]; omega, by omega⟩), e]
  congr 1
  induction k with
  | zero => rfl
  | succ k ih => rw [List.replicate_succ, List.flatten_cons, ih (by omega) rfl]; rfl
theorem mod_ok {x y : Int} (h : 0 < y) : modC x y = .ok (x % y) := grd_t h
theorem mul_r {x y : Int} (h : y.natAbs < 18446744073709551616) : mulC x y = .ok (x * y) := grd_t (.inr (.inl h))
theorem div_ok {x y : Int} (h : 0 < y) (h2 : y.natAbs < 18446744073709551616) : divC x y = .ok (x / y) := grd_t (div_lit ⟨h, h2⟩)
theorem log_lt {n : Nat} (h : n < 18446744073709551616) : n.log2 < 9000 := by
  by_cases z : n = 0
  · rw [z]; decide
  · have : n.log2 < 64 := (Nat.log2_lt z).mpr h
    omega
theorem lcm_ok {x y : Int} (h : x.natAbs < 18446744073709551616) (h2 : y.natAbs < 18446744073709551616) : lcmC x y = .ok ((Int.lcm x y : Nat) : Int) := grd_t ⟨log_lt h, log_lt h2⟩
theorem rng_ok {n : Int} (h : n.natAbs < 4611686018427387904) : rng1C n = .ok (rngL 0 n) := grd_t h
def upto (n : Nat) : List Int := (List.range n).map fun (k : Nat) => (k : Int)
theorem rngL_upto {n : Nat} : rngL 0 (n : Int) = upto n := by
  unfold rngL upto
  rw [Int.sub_zero]
  show (List.range n).map _ = _
  congr 1
  funext k
  omega
theorem rng_up {n : Nat} (h : n < 4611686018427387904) : rng1C (n : Int) = .ok (upto n) := by
  rw [rng_ok (by omega), rngL_upto]
theorem upto_len {n : Nat} : (upto n).length = n := by unfold upto; simp
theorem upto_succ {n : Nat} : upto (n + 1) = upto n ++ [(n : Int)] := by unfold upto; rw [List.range_succ, List.map_append]; rfl
theorem mem_upto {n : Nat} {i : Int} : i ∈ upto n ↔ 0 ≤ i ∧ i < n := by
  unfold upto
  rw [List.mem_map]
  constructor
  · rintro ⟨k, hk, rfl⟩
    have := List.mem_range.mp hk
    omega
  · intro h
    exact ⟨i.toNat, List.mem_range.mpr (by omega), by omega⟩
theorem map_upto {n : Nat} {f : Int → β} : (upto n).map f = (List.range n).map fun (k : Nat) => f (k : Int) := by unfold upto; rw [List.map_map]; rfl
theorem lcG_ok {p : α → Rs Bool} {q : α → Rs β} {f : α → β} : ∀ xs : List α, (∀ a ∈ xs, p a = .ok true ∧ q a = .ok (f a)) → lcG p q xs = .ok (xs.map f)
  | [], _ => rfl
  | a :: as, h => by
    rw [lcG, (h a (List.mem_cons_self ..)).1, qu_ok, ok_bind, if_pos rfl, (h a (List.mem_cons_self ..)).2, qu_ok, ok_bind, lcG_ok as fun x hx => h x (List.mem_cons_of_mem _ hx)]
    rfl
theorem lc_ok {xs : List α} {q : α → Rs β} (f : α → β) (hl : xs.length ≤ 100000) (h : ∀ a ∈ xs, q a = .ok (f a)) : lcM xs (fun _ => .ok true) q = .ok (xs.map f) := by
  unfold lcM
  rw [grd_t hl]
  exact lcG_ok xs fun a ha => ⟨rfl, h a ha⟩
theorem lcG_flt {p : α → Rs Bool} {q : α → Rs β} {c : α → Bool} {f : α → β} : ∀ xs : List α, (∀ a ∈ xs, p a = .ok (c a) ∧ q a = .ok (f a)) → lcG p q xs = .ok ((xs.filter c).map f)
  | [], _ => rfl
  | a :: as, h => by
    have ih := lcG_flt as fun x hx => h x (List.mem_cons_of_mem _ hx)
    have h1 := h a (List.mem_cons_self ..)
    rw [lcG, h1.1, qu_ok, ok_bind]
    cases hc : c a with
    | true => rw [if_pos rfl, h1.2, qu_ok, ok_bind, ih, List.filter_cons, hc]; rfl
    | false => rw [if_neg (fun z => nomatch z), ih, List.filter_cons, hc]; rfl
theorem lc_flt {xs : List α} {p : α → Rs Bool} {q : α → Rs β} (c : α → Bool) (f : α → β) (hl : xs.length ≤ 100000) (h : ∀ a ∈ xs, p a = .ok (c a) ∧ q a = .ok (f a)) : lcM xs p q = .ok ((xs.filter c).map f) := by
  unfold lcM
  rw [grd_t hl]
  exact lcG_flt xs h
theorem for_inv {f : α → σ → Rs σ} (I : List α → σ → Prop) {xs : List α} {s : σ} (h0 : I [] s) (h : ∀ pre a suf s, xs = pre ++ a :: suf → I pre s → ∃ s', f a s = .ok s' ∧ I (pre ++ [a]) s') : ∃ s', forR f xs s = .ok s' ∧ I xs s' := by
  have : ∀ (suf pre : List α) (s : σ), xs = pre ++ suf → I pre s → ∃ s', forR f suf s = .ok s' ∧ I xs s' := by
    intro suf
    induction suf with
    | nil => intro pre s e i; rw [List.append_nil] at e; subst e; exact ⟨s, rfl, i⟩
    | cons a suf ih =>
      intro pre s e i
      obtain ⟨s', h1, h2⟩ := h pre a suf s e i
      obtain ⟨s2, h3, h4⟩ := ih (pre ++ [a]) s' (by rw [e, List.append_assoc]; rfl) h2
      exact ⟨s2, by rw [forR, h1, ok_bind, h3], h4⟩
  exact this xs [] s rfl h0
theorem for_upto {f : Int → σ → Rs σ} {n : Nat} (I : Nat → σ → Prop) {s : σ} (h0 : I 0 s) (h : ∀ k s, k < n → I k s → ∃ s', f (k : Int) s = .ok s' ∧ I (k + 1) s') : ∃ s', forR f (upto n) s = .ok s' ∧ I n s' := by
  obtain ⟨s', h1, h2⟩ := for_inv (f := f) (xs := upto n) (fun pre s => I pre.length s) h0 (by
    intro pre a suf s e i
    have hl : pre.length < n := by have := congrArg List.length e; rw [upto_len, List.length_append, List.length_cons] at this; omega
    have ha : a = (pre.length : Int) := by
      have h2 : (upto n)[pre.length]? = some a := by rw [e]; simp
      unfold upto at h2
      rw [List.getElem?_map, List.getElem?_range hl] at h2
      exact (Option.some.inj h2).symm
    obtain ⟨s', h1, h2⟩ := h _ s hl i
    exact ⟨s', by rw [ha]; exact h1, by rw [List.length_append]; exact h2⟩)
  rw [upto_len] at h2
  exact ⟨s', h1, h2⟩
theorem forJ_nx {f : α → σ → Rs (LO σ β)} (I : List α → σ → Prop) {xs : List α} {s : σ} (h0 : I [] s) (h : ∀ pre a suf s, xs = pre ++ a :: suf → I pre s → ∃ s', f a s = .ok (.nx s') ∧ I (pre ++ [a]) s') : ∃ s', forJ f xs s = .ok (.nx s') ∧ I xs s' := by
  have : ∀ (suf pre : List α) (s : σ), xs = pre ++ suf → I pre s → ∃ s', forJ f suf s = .ok (.nx s') ∧ I xs s' := by
    intro suf
    induction suf with
    | nil => intro pre s e i; rw [List.append_nil] at e; subst e; exact ⟨s, rfl, i⟩
    | cons a suf ih =>
      intro pre s e i
      obtain ⟨s', h1, h2⟩ := h pre a suf s e i
      obtain ⟨s2, h3, h4⟩ := ih (pre ++ [a]) s' (by rw [e, List.append_assoc]; rfl) h2
      exact ⟨s2, by rw [forJ, h1, ok_bind]; exact h3, h4⟩
  exact this xs [] s rfl h0
end
end R

set_option Elab.async false
set_option linter.all false
set_option maxRecDepth 100000
set_option maxHeartbeats 2000000
namespace ZS
open PySem PySem.Spec PyProof.Rows L2
def many (ns : List Int) : Nat := (firstMet (fun i => ns.getD i 0) ns.length).length
def rLenSet (K : PySem.W.Frag) : List V → Hp → VK → Prop := fun vs H Q => ∃ (l : Addr) (ns : List Int), vs = [.ref l] ∧ SqL K H l (ns.map V.int) ∧ ns.length ≤ 4000 ∧ Q (.int (many ns : Nat)) H
variable {X : Cx}
theorem pe_lenSet {a : Expr} {ta : TE} {p p2 q pos : Pos} (hg : Gl X "len") (hm : X.mg "len" = none) (hg2 : Gl X "set") (hm2 : X.mg "set" = none) (ha : PE X a ta) (hc : X.calm = true := by rfl)
    (na : starEach [a] X.env = (false, eval a X.env) :: starEach [] X.env := by rfl) : PE X (.Call (.Name "len" p) [.Call (.Name "set" p2) [a] [] q] [] pos) (tCB (rLenSet X.K) (tCons ta tNil)) := by
  refine ⟨fun pins s σ H Q I h => ?_⟩
  refine Call_ (ld_blt I hg hm boot_len ?_)
  refine PyProof.Rows.callWith_builtin1 (PyProof.Rows.args_cons ?_ rfl) rfl rfl
  refine Call_ (ld_blt I hg2 hm2 boot_set ?_)
  refine PyProof.Rows.callWith_type1 (PyProof.Rows.args_cons (thn (ha.run pins s σ H _ I h) fun v s1 ⟨x, H1, I1, r1, q1⟩ => PyProof.Rows.args_nil ?_) na) na rfl
  obtain ⟨l, ns, e, hq, hl, q1⟩ := q1
  cases e
  cases r1
  obtain ⟨its, r, pl, hz⟩ := I1.list hq
  have hlen : its.toArray.size = ns.length := by rw [List.size_toArray, ← r.length, List.length_map]
  refine call_set_list (I1.ok.hd hc) pl.isList (by simpa using RZ.intsAre_vals r) (by rw [hlen]; unfold scanBound; omega) fun h' tk hS hk => ?_
  refine PyProof.Rows.args_nil ?_
  rw [hlen] at hS
  obtain ⟨o, es, ep, t, ho, hex, hd, _, _, _, hf, hn⟩ := hS
  have I2 : Inv X pins σ H1 { s1 with heap := h', toks := tk } := I1.kept fun b o e => hk b o (Heap.lt_size e) e
  have hm : many ns ≤ 4000 := Nat.le_trans (firstMet_length_le _ _) hl
  unfold many at hm
  exact call_len_set ho hex hd hf (by rw [hn] <;> omega) ⟨.int (many ns), H1, I2.tok _, ⟨_, by rw [hn]; rfl⟩, q1⟩
theorem kpe_lenSet (K : PySem.W.Frag) {a : Expr} {ta : TE} {p p2 q pos : Pos} (hg : Gl X "len") (hm : X.mg "len" = none) (hg2 : Gl X "set") (hm2 : X.mg "set" = none) (ha : PE X a ta) (h : X.K = K := by rfl) (hc : X.calm = true := by rfl)
    (na : starEach [a] X.env = (false, eval a X.env) :: starEach [] X.env := by rfl) : PE X (.Call (.Name "len" p) [.Call (.Name "set" p2) [a] [] q] [] pos) (tCB (rLenSet K) (tCons ta tNil)) := by subst h; exact pe_lenSet hg hm hg2 hm2 ha hc na
end ZS

set_option Elab.async false
set_option linter.all false
set_option maxRecDepth 100000
set_option maxHeartbeats 2000000
namespace R
open PySem PySem.Spec PyProof.Rows L2 Z
section
variable {K : PySem.W.Frag}
def Bi.lenSet : Bi K where
  r := ZS.rLenSet K
  f := fun as => match as with
    | [.l ds] => (intsOf ds).bind fun ns => if ns.length ≤ 4000 then some (.d (.int (ZS.many ns : Nat))) else none
    | _ => none
  ok := fun as z h => by
    split at h
    · obtain ⟨ns, h1, h2⟩ := Option.bind_eq_some_iff.mp h
      split at h2
      · rename_i hl
        cases h2
        rw [intsOf_some h1]
        exact fun G H L vs Q l r q => by
          cases r with
          | cons h t =>
            cases t
            obtain ⟨a, ws, rfl, hv, d⟩ := bl_sq l h
            rw [dpAll_ints d] at hv
            exact ⟨a, ns, rfl, .inl (.inl hv), hl, q _ (Dq.int _)⟩
      · cases h2
    · cases h
def lenSetC (ns : List Int) : Rs Int := grd (ns.length ≤ 4000) (.ok ((ZS.many ns : Nat) : Int))
theorem so_lenSet {xs : List Int} : Si (Rs.of ((Bi.lenSet : Bi K).f [.l (xs.map eI.e)])) (lenSetC xs) eI.v := si_grd fun h => by
  show Rs.of ((intsOf (xs.map .int)).bind fun ns => if ns.length ≤ 4000 then some (Vl.d (.int (ZS.many ns : Nat))) else none) = _
  rw [intsOf_map]
  show Rs.of (if xs.length ≤ 4000 then _ else _) = _
  rw [if_pos h]
  rfl
end
end R

set_option Elab.async false
set_option linter.all false
set_option maxRecDepth 100000
set_option maxHeartbeats 2000000
namespace Z
open PySem PySem.Spec PyProof.Rows L2
theorem Slots.rebor {G : Hp} {L0 L1 : List Cell} : ∀ {σ : L2.St} {ρ : List Sl} {L}, Slots G L1 σ ρ L → (∀ (j : Nat) B, ρ[j]? = some (.b B) → ∃ v, σ[j]? = some (some v) ∧ B.p G L0 v) → Slots G L0 σ ρ L
  | _, _, _, .nil, _ => .nil
  | _, _, _, .x s, h => .x (s.rebor fun j B hj => by simpa using h (j + 1) B (by simpa using hj))
  | _, _, _, .p q s, h => .p q (s.rebor fun j B hj => by simpa using h (j + 1) B (by simpa using hj))
  | _, _, _, .o q s, h => .o q (s.rebor fun j B hj => by simpa using h (j + 1) B (by simpa using hj))
  | _, _, _, .b q s, h => by
    obtain ⟨v, e, r⟩ := h 0 _ (by simp; rfl)
    simp at e
    subst e
    exact .b r (s.rebor fun j B hj => by simpa using h (j + 1) B (by simpa using hj))
theorem tyes_then {σ : L2.St} {H : Hp} {A B : Hp → Prop} (h : A H) : tYes σ H (fun b H' => if b = true then A H' else B H') := by
  unfold tYes
  show (if true = true then A H else B H)
  rw [if_pos rfl]
  exact h
section
variable {K : PySem.W.Frag} {ρ : List Sl} {te ts : TE}
theorem en_lc2 {α : Type} {wi : TI} {g g1 : TG} {vs vs1 : List Nat} {xs : List α} {en : α → PyData} {ys : α → List PyData} {f : α → PyData → PyData} (hi : EvI K wi ρ (xs.map en)) (hx : AllX ρ vs) (hz : xs.length ≤ 1000)
    (hb : ∀ x ∈ xs, ∃ T ρ1, EvG g T ρ (dat (en x)) ρ1 ∧ (∀ i ∈ T, i ∈ vs) ∧ Wk ρ1 ρ ∧ (∀ (j : Nat) B, ρ1[j]? = some (.b B) → ρ[j]? = some (.b B)) ∧ Ev ts ρ1 (pu (dat (.list (ys x)))) ∧ (ys x).length ≤ 1000 ∧ AllX ρ1 vs1 ∧
      ∀ y ∈ ys x, ∃ T1 ρ2, EvG g1 T1 ρ1 (dat y) ρ2 ∧ (∀ i ∈ T1, i ∈ vs1) ∧ Wk ρ2 ρ1 ∧ Ev te ρ2 (pu (dat (f x y)))) : EvN (tLc2 wi g tYes (iList K ts) g1 tYes te vs vs1) ρ (xs.flatMap fun x => (ys x).map (f x)) := ⟨fun {G σ L0 H} Q s q => hi.run _ s fun G1 H1 J e1 s1 gv D hD => by
  obtain ⟨L1, sl1, la1⟩ := id s1
  refine ⟨fun i m H => m = xs.length - i ∧ i ≤ xs.length ∧ ∃ G' ws L', Same G1 G' ∧ Slots G' L0 σ ρ L' ∧ Lay G' (L' ++ ((D, HO.lst ws) :: L0)) H ∧ DqAll G' ws ((xs.take i).flatMap fun x => (ys x).map (f x)), ⟨xs.length, by simp, Nat.zero_le _, G1, [], L1, Same.refl _, sl1, ?_, .nil⟩, ?_⟩
  · exact (la1.cell hD).perm List.perm_middle.symm
  rintro i m H2 ⟨rfl, hi, G2, ws, L2', e2, sl2, la2, d2⟩
  have la2' : Lay G2 ((L2' ++ [(D, HO.lst ws)]) ++ L0) H2 := by
    rw [List.append_assoc]
    exact la2
  have hsz : ∀ l : List α, (∀ x ∈ l, x ∈ xs) → (l.flatMap fun x => (ys x).map (f x)).length ≤ l.length * 1000 := by
    intro l
    induction l with
    | nil => intro _; exact Nat.le_refl _
    | cons a l ih =>
      intro h
      obtain ⟨_, _, _, _, _, _, _, hl, _⟩ := hb a (h a (List.mem_cons_self ..))
      have := ih fun x hx => h x (List.mem_cons_of_mem _ hx)
      rw [List.flatMap_cons, List.length_append, List.length_map, List.length_cons, Nat.succ_mul]
      omega
  by_cases hlt : i < xs.length
  · right
    have hxe : xs[i]? = some xs[i] := List.getElem?_eq_getElem hlt
    obtain ⟨gg1, g2⟩ := gv.go i G2 _ H2 e2 la2' (by simpa using hlt)
    refine ⟨gg1, fun H => ∃ G' ws L', Same G1 G' ∧ Slots G' L0 σ ρ L' ∧ Lay G' (L' ++ ((D, HO.lst ws) :: L0)) H ∧ DqAll G' ws ((xs.take (i + 1)).flatMap fun x => (ys x).map (f x)), fun H' ⟨G', ws, L', a, b, c, d⟩ => ⟨xs.length - (i + 1), by omega, rfl, hlt, G', ws, L', a, b, c, d⟩, fun x H3 y => ?_⟩
    obtain ⟨G3, e3, l3, d3⟩ := g2 x H3 y
    have d3 : Dq G3 x (en xs[i]) := by simpa using d3
    have la3 : Lay G3 (L2' ++ ((D, HO.lst ws) :: L0)) H3 := by
      have := l3 _ la2'
      rw [List.append_assoc] at this
      exact this
    obtain ⟨T, ρ1, hg, hT, hwk, hnb, hsrc, hyl, hx1, hin⟩ := hb xs[i] (List.getElem_mem hlt)
    have sw : Stt G3 ρ (wipe σ vs) ((D, HO.lst ws) :: L0) H3 := ⟨L2', ((sl2.up e3).mono fun c hc => List.mem_cons_of_mem _ hc).agree (wipe_length σ vs) (wipe_agree hx), la3⟩
    refine hg.run x _ sw d3 fun G4 σ4 H4 e4 s4 w4 => ?_
    have hw4 : wipe σ4 vs = wipe σ vs := by
      rw [w4 vs hT]
      apply List.ext_getElem?
      intro j
      rw [wipe_get, wipe_get]
      by_cases hj : j ∈ vs
      · simp only [if_pos hj]
        cases σ[j]? <;> rfl
      · simp only [if_neg hj]
    refine ⟨hw4, ?_⟩
    have back : ∀ {G5 H5 ws}, Same G3 G5 → Stt G5 ρ1 σ4 ((D, HO.lst ws) :: L0) H5 → ∃ G6 L6, Same G5 G6 ∧ Slots G6 L0 σ ρ L6 ∧ Lay G6 (L6 ++ ((D, HO.lst ws) :: L0)) H5 := fun {G5 H5 ws} e5 s5 => by
      obtain ⟨G6, e6, L6, sl6, la6⟩ := s5.weak hwk
      have sl6' := sl6.agree (σ' := σ) (len_two hw4).symm fun j hj => (wipe_two hx hw4 j hj).symm
      exact ⟨G6, L6, e6, (sl2.up e3).mix (e5.trans e6) sl6', la6⟩
    refine tyes_then ?_
    show ts σ4 H4 _
    refine hsrc.atp s4 fun G5 H5 v e5 s5 r5 => ?_
    have r5 : Dq G5 v (.list (ys xs[i])) := r5
    cases r5 with
    | @lst av us _ hv dv =>
    have sq : ∀ {G'' H'' : Hp} {L'' : List Cell}, Same G5 G'' → Lay G'' L'' H'' → SqL K H'' av us := fun e2 l => .inl (.inl (l.same _ _ (e2 _ _ hv)))
    obtain ⟨L5, sl5, la5⟩ := id s5
    refine ⟨av, rfl, ⟨us, sq (Same.refl _) la5⟩, ?_⟩
    have bor : ∀ {G'' : Hp}, Same G5 G'' → ∀ (j : Nat) B, ρ1[j]? = some (.b B) → ∃ v, σ4[j]? = some (some v) ∧ B.p G'' L0 v := fun e' j B hj => by
      have hr := hnb j B hj
      obtain ⟨v, hv, hp⟩ := sl2.get_b hr
      refine ⟨v, ?_, B.up ((e3.trans (e4.trans e5)).trans e') (fun _ z => z) hp⟩
      rw [wipe_two hx hw4 j (by rw [hr]; exact fun z => nomatch z), hv]
    have base : Slots G5 L0 σ4 ρ1 L5 := sl5.rebor (bor (Same.refl _))
    refine ⟨fun j k H => k = (ys xs[i]).length - j ∧ j ≤ (ys xs[i]).length ∧ ∃ G' ws L', Same G5 G' ∧ Slots G' L0 σ4 ρ1 L' ∧ Lay G' (L' ++ ((D, HO.lst ws) :: L0)) H ∧ DqAll G' ws (((xs.take i).flatMap fun x => (ys x).map (f x)) ++ ((ys xs[i]).take j).map (f xs[i])), ⟨(ys xs[i]).length, by simp, Nat.zero_le _, G5, ws, L5, Same.refl _, base, la5, by simpa using dpAll_up ((e3.trans e4).trans e5) d2⟩, ?_⟩
    rintro j k H6 ⟨rfl, hj, G6, ws6, L6, e6, sl6, la6, d6⟩
    by_cases hjl : j < (ys xs[i]).length
    · right
      have hye : (ys xs[i])[j]? = some (ys xs[i])[j] := List.getElem?_eq_getElem hjl
      have hq := sq e6 la6
      obtain ⟨yv, hyv, dyv⟩ := dpAll_get dv hye
      refine ⟨⟨us, yv, hq, hyv⟩, fun H => ∃ G' ws L', Same G5 G' ∧ Slots G' L0 σ4 ρ1 L' ∧ Lay G' (L' ++ ((D, HO.lst ws) :: L0)) H ∧ DqAll G' ws (((xs.take i).flatMap fun x => (ys x).map (f x)) ++ ((ys xs[i]).take (j + 1)).map (f xs[i])), fun H' ⟨G', ws, L', a, b, c, d⟩ => ⟨(ys xs[i]).length - (j + 1), by omega, rfl, hjl, G', ws, L', a, b, c, d⟩, fun x2 H7 y2 => ?_⟩
      obtain ⟨rfl, y2⟩ := y2
      have ex : x2 = yv := Option.some.inj ((y2 us hq).symm.trans hyv)
      subst ex
      obtain ⟨T1, ρ2, hg1, hT1, hwk1, hf⟩ := hin _ (List.getElem_mem hjl)
      have sw7 : Stt G6 ρ1 (wipe σ4 vs1) ((D, HO.lst ws6) :: L0) H7 := ⟨L6, (sl6.mono fun c hc => List.mem_cons_of_mem _ hc).agree (wipe_length σ4 vs1) (wipe_agree hx1), la6⟩
      refine hg1.run x2 _ sw7 (dp_up e6 dyv) fun G8 σ8 H8 e8 s8 w8 => ?_
      have hw8 : wipe σ8 vs1 = wipe σ4 vs1 := by
        rw [w8 vs1 hT1]
        apply List.ext_getElem?
        intro j
        rw [wipe_get, wipe_get]
        by_cases hj : j ∈ vs1
        · simp only [if_pos hj]
          cases σ4[j]? <;> rfl
        · simp only [if_neg hj]
      refine ⟨hw8, ?_⟩
      refine tyes_then ?_
      refine hf.atp s8 fun G9 H9 y9 e9 s9 r9 => ?_
      obtain ⟨Ga, ea, La, sla, laa⟩ := s9.weak hwk1
      have sla' : Slots Ga L0 σ4 ρ1 La := (sl6).mix ((e8.trans e9).trans ea) (sla.agree (σ' := σ4) (len_two hw8).symm fun j hj => (wipe_two hx1 hw8 j hj).symm)
      have hc : H9 D = some (HO.lst ws6) := (laa.on (D, HO.lst ws6) (List.mem_append_right _ (List.mem_cons_self ..))).1
      refine ⟨ws6, hc, ?_, Ga, ws6 ++ [y9], La, e6.trans ((e8.trans e9).trans ea), sla', ?_, ?_⟩
      · rw [dpAll_len d6, List.length_append, List.length_map, List.length_take]
        have h1 := hsz (xs.take i) fun x hx => List.mem_of_mem_take hx
        have h2 : (xs.take i).length ≤ 1000 := by rw [List.length_take]; omega
        have h3 : (xs.take i).length * 1000 ≤ 1000 * 1000 := Nat.mul_le_mul_right _ h2
        exact Nat.lt_of_lt_of_le (by omega : _ < 1001001) (by decide)
      · exact ((laa.perm List.perm_middle).store).perm List.perm_middle.symm
      · have : (ys xs[i]).take (j + 1) = (ys xs[i]).take j ++ [(ys xs[i])[j]] := by rw [List.take_add_one, hye]; rfl
        rw [this, List.map_append, ← List.append_assoc]
        exact dpAll_app (dpAll_up ((e8.trans e9).trans ea) d6) (.cons (dp_up ea r9) .nil)
    · left
      have ej : j = (ys xs[i]).length := by omega
      subst ej
      refine ⟨⟨us, sq e6 la6, by rw [dpAll_len dv]; exact Nat.le_refl _⟩, ?_⟩
      have s6 : Stt G6 ρ1 σ4 ((D, HO.lst ws6) :: L0) H6 := ⟨L6, sl6.mono fun c hc => List.mem_cons_of_mem _ hc, la6⟩
      obtain ⟨G7, L7, e7, sl7, la7⟩ := back ((e4.trans e5).trans e6) s6
      refine ⟨G7, ws6, L7, (e2.trans e3).trans (((e4.trans e5).trans e6).trans e7), sl7, la7, ?_⟩
      rw [List.take_length] at d6
      have : xs.take (i + 1) = xs.take i ++ [xs[i]] := by rw [List.take_add_one, hxe]; rfl
      rw [this, List.flatMap_append]
      simpa using dpAll_up e7 d6
  · left
    have ei : i = xs.length := by omega
    subst ei
    refine ⟨gv.stop _ G2 _ H2 e2 la2' (by simp), ?_⟩
    rw [List.take_length] at d2
    have la4 : Lay G2 ((D, HO.lst ws) :: (L2' ++ L0)) H2 := la2.perm List.perm_middle
    have hne := la4.ne
    have eH : H2 = upd (fun b => if b = D then none else H2 b) D (.lst ws) := by
      funext b
      by_cases hb : b = D
      · rw [hb, upd_same]; exact (la4.on _ (List.mem_cons_self ..)).1
      · rw [upd_ne hb, if_neg hb]
    have la5 : Lay G2 (L2' ++ L0) (fun b => if b = D then none else H2 b) := by
      refine ⟨fun b hb => ?_, fun c hc => ?_, ?_⟩
      · by_cases h : b = D
        · rw [h, if_pos rfl]; exact ((la4.on _ (List.mem_cons_self ..)).2).symm
        · rw [if_neg h]
          refine la4.off b fun c hc => ?_
          rcases List.mem_cons.mp hc with z | z
          · subst z; exact fun z => h z.symm
          · exact hb c z
      · rw [if_neg (hne c hc)]; exact la4.on c (List.mem_cons_of_mem _ hc)
      · have := la4.nd
        rw [List.map_cons, List.nodup_cons] at this
        exact this.2
    rw [eH]
    exact q G2 _ D ws (e1.trans e2) ⟨L2', sl2, la5⟩ (if_pos rfl) d2⟩
end
theorem kpt_truth (K : PySem.W.Frag) {X : Cx} {a : Expr} {ta : TE} (ha : PE X a ta) (he : ∀ whole, isTrue a X.env whole = (do let v ← whole; standAt a.pos; holding [v] (truthy v))) (h : X.K = K := by rfl) : PT X a (tTruth K ta) := by subst h; exact pt_truth ha he
end Z

set_option Elab.async false
set_option linter.all false
set_option maxRecDepth 100000
set_option maxHeartbeats 2000000
namespace R
open PySem PySem.Spec PyProof.Rows L2 Z
section
variable {K : PySem.W.Frag}
def nobl (st : List Sv) (T : List Nat) : Bool := T.all fun j => match st[j]? with
  | some (.bl _) => false
  | some (.bll _) => false
  | some (.bo _ _) => false
  | some (.pin _ _) => false
  | _ => true
section
variable (g1 : XG K) (e : XE K) (st1 : List Sv)
def lcY (y : PyData) : Option PyData := (g1.ev y st1).bind fun st2 => match okV (e.ev st2) with
  | some (.d x) => some x
  | _ => none
def lcYs : List PyData → Option (List PyData)
  | [] => some []
  | y :: ys => (lcY g1 e st1 y).bind fun x => (lcYs ys).map fun r => x :: r
theorem lcYs_some : ∀ {ys r : List PyData}, lcYs g1 e st1 ys = some r → r = ys.map (fun y => (lcY g1 e st1 y).getD .none) ∧ ∀ y ∈ ys, ∃ x, lcY g1 e st1 y = some x
  | [], r, h => by cases h; exact ⟨rfl, fun _ z => nomatch z⟩
  | y :: ys, r, h => by
    rw [lcYs] at h
    obtain ⟨x, h1, h2⟩ := Option.bind_eq_some_iff.mp h
    obtain ⟨r', h3, rfl⟩ := Option.map_eq_some_iff.mp h2
    obtain ⟨h4, h5⟩ := lcYs_some h3
    refine ⟨by rw [List.map_cons, h1, h4]; rfl, ?_⟩
    intro z hz
    rcases List.mem_cons.mp hz with rfl | hz
    · exact ⟨x, h1⟩
    · exact h5 z hz
end
section
variable (g : XG K) (src : XE K) (g1 : XG K) (e : XE K) (vs1 : List Nat) (st : List Sv)
def lcS (d : PyData) : Option (List Sv × List PyData) := (g.ev d st).bind fun st1 => match okV (src.ev st1) with
  | some (.d (.list ys)) => if ys.length ≤ 1000 ∧ allXb st1 vs1 = true ∧ nobl st1 g.T = true then some (st1, ys) else none
  | _ => none
def lcX (d : PyData) : Option (List PyData) := (lcS g src vs1 st d).bind fun p => lcYs g1 e p.1 p.2
def lcXs : List PyData → Option (List PyData)
  | [] => some []
  | d :: ds => (lcX g src g1 e vs1 st d).bind fun r => (lcXs ds).map fun rs => r ++ rs
def ysF (d : PyData) : List PyData := match lcS g src vs1 st d with
  | some p => p.2
  | none => []
def yfF (d y : PyData) : PyData := match lcS g src vs1 st d with
  | some p => (lcY g1 e p.1 y).getD .none
  | none => .none
theorem lcXs_some : ∀ {ds r : List PyData}, lcXs g src g1 e vs1 st ds = some r → r = ds.flatMap (fun d => (ysF g src vs1 st d).map (yfF g src g1 e vs1 st d)) ∧ ∀ d ∈ ds, ∃ p, lcS g src vs1 st d = some p ∧ ∀ y ∈ p.2, ∃ x, lcY g1 e p.1 y = some x
  | [], r, h => by cases h; exact ⟨rfl, fun _ z => nomatch z⟩
  | d :: ds, r, h => by
    rw [lcXs] at h
    obtain ⟨x, h1, h2⟩ := Option.bind_eq_some_iff.mp h
    obtain ⟨r', h3, rfl⟩ := Option.map_eq_some_iff.mp h2
    obtain ⟨h4, h5⟩ := lcXs_some h3
    obtain ⟨p, h6, h7⟩ := Option.bind_eq_some_iff.mp (show (lcS g src vs1 st d).bind _ = some x from h1)
    obtain ⟨h8, h9⟩ := lcYs_some g1 e p.1 h7
    refine ⟨?_, ?_⟩
    · rw [List.flatMap_cons, ← h4]
      congr 1
      unfold ysF yfF
      rw [h6]
      exact h8
    · intro z hz
      rcases List.mem_cons.mp hz with rfl | hz
      · exact ⟨p, h6, h9⟩
      · exact h5 z hz
end
theorem nob_of {g : XG K} {d : PyData} {st st1 : List Sv} (h : g.ev d st = some st1) (hn : nobl st1 g.T = true) : ∀ (j : Nat) (B : Bw), (sls K st1)[j]? = some (.b B) → (sls K st)[j]? = some (.b B) := by
  intro j B hj
  have ag := (g.ok d st st1 h).2
  by_cases hT : j ∈ g.T
  · have := List.all_eq_true.mp hn j hT
    unfold sls at hj
    rw [List.getElem?_map] at hj
    cases hs : st1[j]? with
    | none => rw [hs] at hj; cases hj
    | some s =>
      rw [hs] at hj this
      cases s with
      | bl _ => cases this
      | bll _ => cases this
      | bo _ _ => cases this
      | pin _ _ => cases this
      | oo o => cases o <;> cases hj
      | oto o => cases o <;> cases hj
      | _ => cases hj
  · unfold sls at hj ⊢
    rw [List.getElem?_map] at hj ⊢
    rw [← ag.2 j hT]
    exact hj
def XN.lc2 (it : XI K) (g : XG K) (src : XE K) (g1 : XG K) (e : XE K) (vs vs1 : List Nat) : XN K where
  te := fun md => tLc2 (it.ti md) g.tg tYes (iList K (src.te .qu)) g1.tg tYes (e.te .qu) vs vs1
  ev := fun st => (it.ev st).bind fun ds => if ds.length ≤ 1000 ∧ allXb st vs = true ∧ (g.T.all fun i => decide (i ∈ vs)) = true ∧ (g1.T.all fun i => decide (i ∈ vs1)) = true then Rs.of (lcXs g src g1 e vs1 st ds) else .no
  ok := fun md st => (it.ok md st).bind (fun C n W h => fun Q s q => h _ s q) fun ds h => by
    split
    · rename_i hc
      cases hl : lcXs g src g1 e vs1 st ds with
      | none => trivial
      | some r =>
        obtain ⟨h1, h2⟩ := lcXs_some g src g1 e vs1 st hl
        show EvN _ _ r
        rw [h1]
        have hts : ∀ i ∈ g.T, i ∈ vs := fun i hi => of_decide_eq_true (List.all_eq_true.mp hc.2.2.1 i hi)
        have hts1 : ∀ i ∈ g1.T, i ∈ vs1 := fun i hi => of_decide_eq_true (List.all_eq_true.mp hc.2.2.2 i hi)
        refine en_lc2 (en := id) (by rw [List.map_id]; exact h) (allXb_ok hc.2.1) hc.1 fun d hd => ?_
        obtain ⟨p, hp, hy⟩ := h2 d hd
        obtain ⟨st1, g1e, g2⟩ := Option.bind_eq_some_iff.mp (show (g.ev d st).bind _ = some p from hp)
        have ey : ysF g src vs1 st d = p.2 := by unfold ysF; rw [hp]
        have ef : ∀ y, yfF g src g1 e vs1 st d y = (lcY g1 e p.1 y).getD .none := fun y => by unfold yfF; rw [hp]
        split at g2
        · rename_i ys hs
          split at g2
          · rename_i hg
            cases g2
            obtain ⟨eg, ag⟩ := g.ok d st st1 g1e
            rw [ey]
            refine ⟨g.T, sls K st1, eg, hts, wk_agree ag hc.2.1 hts, nob_of g1e hg.2.2, ?_, hg.1, allXb_ok hg.2.1, fun y hyy => ?_⟩
            · have hs' := src.ok .qu st1
              rw [okV_some hs] at hs'
              exact hs'
            · obtain ⟨x, hx⟩ := hy y hyy
              rw [ef, hx]
              obtain ⟨st2, k1, k2⟩ := Option.bind_eq_some_iff.mp (show (g1.ev y st1).bind _ = some x from hx)
              obtain ⟨eg1, ag1⟩ := g1.ok y st1 st2 k1
              refine ⟨g1.T, sls K st2, eg1, hts1, wk_agree ag1 hg.2.1 hts1, ?_⟩
              have he := e.ok .qu st2
              split at k2
              · rename_i x' hx'
                cases k2
                rw [okV_some hx'] at he
                exact he
              · cases k2
          · cases g2
        · cases g2
    · trivial
variable {α β γ : Type} {st : List Sv}
def lcG2 (src : α → Rs (List β)) (q : α → β → Rs γ) : List α → Rs (List γ)
  | [] => .ok []
  | a :: as => (qu (src a)).bind fun ys => if ys.length ≤ 1000 then (lcG (fun _ => .ok true) (q a) ys).bind fun r => (lcG2 src q as).bind fun rs => .ok (r ++ rs) else .no
def lcM2 (xs : List α) (src : α → Rs (List β)) (q : α → β → Rs γ) : Rs (List γ) := grd (xs.length ≤ 1000) (lcG2 src q xs)
theorem lcG_ne {p : α → Rs Bool} {q : α → Rs β} {C : Addr} {n : Int} : ∀ xs, lcG p q xs ≠ .ex C n
  | [], h => nomatch h
  | a :: as, h => by
    rw [lcG] at h
    cases hp : p a with
    | ok c =>
      rw [hp] at h
      cases c with
      | true =>
        cases hq : q a with
        | ok b =>
          rw [hq] at h
          cases hl : lcG p q as with
          | ok bs => rw [hl] at h; cases h
          | ex C' n' => exact lcG_ne as hl
          | no => rw [hl] at h; cases h
        | ex _ _ => rw [hq] at h; cases h
        | no => rw [hq] at h; cases h
      | false => exact lcG_ne as h
    | ex _ _ => rw [hp] at h; cases h
    | no => rw [hp] at h; cases h
theorem lcG2_ne {src : α → Rs (List β)} {q : α → β → Rs γ} {C : Addr} {n : Int} : ∀ xs, lcG2 src q xs ≠ .ex C n
  | [], h => nomatch h
  | a :: as, h => by
    rw [lcG2] at h
    cases hp : src a with
    | ok ys =>
      rw [hp] at h
      replace h : (if ys.length ≤ 1000 then _ else _) = _ := h
      split at h
      · cases hl : lcG (fun _ => .ok true) (q a) ys with
        | ok bs =>
          rw [hl] at h
          cases hm : lcG2 src q as with
          | ok rs => rw [hm] at h; cases h
          | ex C' n' => exact lcG2_ne as hm
          | no => rw [hm] at h; cases h
        | ex C' n' => exact lcG_ne ys hl
        | no => rw [hl] at h; cases h
      · cases h
    | ex _ _ => rw [hp] at h; cases h
    | no => rw [hp] at h; cases h
theorem sn_Ys {g1 : XG K} {x : XE K} {E : En γ} {G : En β} {q : β → Rs γ} {st1 : List Sv} (hg : ∀ b, ∃ st2, g1.ev (G.e b) st1 = some st2 ∧ SV E.v x st2 (q b)) : ∀ (ys : List β) (r : List γ), lcG (fun _ => .ok true) q ys = .ok r → lcYs g1 x st1 (ys.map G.e) = some (r.map E.e)
  | [], r, h => by cases h; rfl
  | b :: ys, r, h => by
    rw [lcG] at h
    obtain ⟨st2, h1, h2⟩ := hg b
    replace h : (qu (q b)).bind (fun c => (lcG (fun _ => .ok true) q ys).bind fun bs => .ok (c :: bs)) = .ok r := h
    cases hq : q b with
    | ok c =>
      rw [hq] at h h2
      have h2 : x.ev st2 = .ok (E.v c) := h2
      cases hl : lcG (fun _ => .ok true) q ys with
      | ok bs =>
        rw [hl] at h
        cases h
        rw [List.map_cons, lcYs, sn_Ys hg ys bs hl]
        unfold lcY
        rw [h1]
        show (Option.bind (match okV (x.ev st2) with
          | some (.d x) => some x
          | _ => none) _) = _
        rw [h2]
        rfl
      | ex _ _ => rw [hl] at h; cases h
      | no => rw [hl] at h; cases h
    | ex _ _ => rw [hq] at h; cases h
    | no => rw [hq] at h; cases h
theorem sn_Xs {g : XG K} {s : XE K} {g1 : XG K} {x : XE K} {vs1 : List Nat} {E : En γ} {G : En β} {f : α → PyData} {src : α → Rs (List β)} {q : α → β → Rs γ} (hg : ∀ a, ∃ st1, g.ev (f a) st = some st1 ∧ allXb st1 vs1 = true ∧ nobl st1 g.T = true ∧ SV (eL G).v s st1 (src a) ∧ ∀ b, ∃ st2, g1.ev (G.e b) st1 = some st2 ∧ SV E.v x st2 (q a b)) :
    ∀ (xs : List α) (r : List γ), lcG2 src q xs = .ok r → lcXs g s g1 x vs1 st (xs.map f) = some (r.map E.e)
  | [], r, h => by cases h; rfl
  | a :: as, r, h => by
    rw [lcG2] at h
    obtain ⟨st1, h1, h2, h3, h4, h5⟩ := hg a
    cases hs : src a with
    | ok ys =>
      rw [hs] at h h4
      have h4 : s.ev st1 = .ok ((eL G).v ys) := h4
      replace h : (if ys.length ≤ 1000 then (lcG (fun _ => .ok true) (q a) ys).bind fun r => (lcG2 src q as).bind fun rs => .ok (r ++ rs) else .no) = .ok r := h
      split at h
      · rename_i hy
        cases hl : lcG (fun _ => .ok true) (q a) ys with
        | ok bs =>
          rw [hl] at h
          cases hm : lcG2 src q as with
          | ok rs =>
            rw [hm] at h
            cases h
            have e1 : lcS g s vs1 st (f a) = some (st1, ys.map G.e) := by
              unfold lcS
              rw [h1]
              show (match okV (s.ev st1) with
                | some (.d (.list ys)) => if ys.length ≤ 1000 ∧ allXb st1 vs1 = true ∧ nobl st1 g.T = true then some (st1, ys) else none
                | _ => none) = _
              rw [h4]
              show (if (ys.map G.e).length ≤ 1000 ∧ _ then _ else _) = _
              rw [if_pos ⟨by rw [List.length_map]; exact hy, h2, h3⟩]
            rw [List.map_cons, lcXs, sn_Xs hg as rs hm]
            unfold lcX
            rw [e1]
            show (Option.bind (lcYs g1 x st1 (ys.map G.e)) _) = _
            rw [sn_Ys h5 ys bs hl, List.map_append]
            rfl
          | ex _ _ => rw [hm] at h; cases h
          | no => rw [hm] at h; cases h
        | ex _ _ => rw [hl] at h; cases h
        | no => rw [hl] at h; cases h
      · cases h
    | ex _ _ => rw [hs] at h; cases h
    | no => rw [hs] at h; cases h
theorem sn_lc2 {it : XI K} {g : XG K} {s : XE K} {g1 : XG K} {x : XE K} {vs vs1 : List Nat} {E : En γ} {G : En β} {F : En α} {xs : List α} {src : α → Rs (List β)} {q : α → β → Rs γ} (hi : SI (List.map F.e) it st (.ok xs)) (hx : allXb st vs = true) (ht : (g.T.all fun i => decide (i ∈ vs)) = true) (ht1 : (g1.T.all fun i => decide (i ∈ vs1)) = true)
    (hg : ∀ a, ∃ st1, g.ev (F.e a) st = some st1 ∧ allXb st1 vs1 = true ∧ nobl st1 g.T = true ∧ SV (eL G).v s st1 (src a) ∧ ∀ b, ∃ st2, g1.ev (G.e b) st1 = some st2 ∧ SV E.v x st2 (q a b)) : SN (List.map E.e) (.lc2 it g s g1 x vs vs1) st (lcM2 xs src q) := by
  have hi : it.ev st = .ok (xs.map F.e) := hi
  refine si_grd fun hl => ?_
  show Si ((it.ev st).bind fun ds => if ds.length ≤ 1000 ∧ allXb st vs = true ∧ (g.T.all fun i => decide (i ∈ vs)) = true ∧ (g1.T.all fun i => decide (i ∈ vs1)) = true then Rs.of (lcXs g s g1 x vs1 st ds) else .no) _ _
  rw [hi]
  show Si (if (xs.map F.e).length ≤ 1000 ∧ allXb st vs = true ∧ (g.T.all fun i => decide (i ∈ vs)) = true ∧ (g1.T.all fun i => decide (i ∈ vs1)) = true then Rs.of (lcXs g s g1 x vs1 st (xs.map F.e)) else .no) _ _
  rw [if_pos ⟨by rw [List.length_map]; exact hl, hx, ht, ht1⟩]
  cases hm : lcG2 src q xs with
  | ok r => show Rs.of _ = _; rw [sn_Xs hg xs r hm]; rfl
  | ex C n => exact absurd hm (lcG2_ne xs)
  | no => trivial
end
end R

set_option Elab.async false
set_option linter.all false
set_option maxRecDepth 100000
set_option maxHeartbeats 2000000
namespace R
open PySem PySem.Spec PyProof.Rows L2 Z
section
variable {K : PySem.W.Frag} {α : Type} {st : List Sv}
end
end R

set_option Elab.async false
set_option linter.all false
set_option maxRecDepth 100000
set_option maxHeartbeats 2000000
namespace R
open PySem PySem.Spec PyProof.Rows L2 Z
section
variable {K : PySem.W.Frag} {α β γ δ : Type} {st : List Sv}
theorem okV_iv {k : XE K} {z : Int} (h : SV eI.v k st (.ok z)) : okV (k.iv st) = some z := by
  have h : k.ev st = .ok (eI.v z) := h
  show okV ((k.ev st).bind _) = _
  rw [h]; rfl
end
end R

set_option Elab.async false
set_option linter.all false
set_option maxRecDepth 100000
set_option maxHeartbeats 2000000
namespace R
open PySem PySem.Spec PyProof.Rows L2 Z
section
variable {K : PySem.W.Frag} {α β γ δ : Type} {st : List Sv}
def lrg2C (m n : Int) : Rs (List Int) := grd (m.natAbs < 1000000 ∧ n.natAbs < 1000000) (.ok (rngL m n))
theorem rngL_irange {m n : Int} : irange m (n - m).toNat = (rngL m n).map eI.e := by
  unfold irange rngL
  rw [List.map_map]; rfl
theorem sn_lrg2 {a b : XE K} {m n : Rs Int} (h : SV eI.v a st m) (h' : SV eI.v b st n) : SN (List.map eI.e) (.lrg2 a b) st ((qu m).bind fun y => (qu n).bind fun z => lrg2C y z) := by
  cases m with
  | ex _ _ => trivial
  | no => trivial
  | ok y =>
    cases n with
    | ex _ _ => trivial
    | no => trivial
    | ok z =>
      refine si_grd fun hc => ?_
      have h1 := okV_iv h
      have h2 := okV_iv h'
      show (match okV (a.iv st), okV (b.iv st) with
        | some m, some n => if m.natAbs < 1000000 ∧ n.natAbs < 1000000 then Rs.ok (irange m (n - m).toNat) else .no
        | _, _ => .no) = _
      rw [h1, h2]
      show (if y.natAbs < 1000000 ∧ z.natAbs < 1000000 then Rs.ok (irange y (z - y).toNat) else .no) = _
      rw [if_pos hc, ← rngL_irange]
theorem any_eqv {E : En α} [EqV E] [DecidableEq α] {x : α} : ∀ {ys : List α}, ((ys.map E.e).any fun z => PyData.eqv z (E.e x)) = decide (x ∈ ys)
  | [] => by simp
  | y :: ys => by
    rw [List.map_cons, List.any_cons, any_eqv (ys := ys), EqV.dec]
    by_cases h : y = x
    · subst h; simp
    · have h2 : ¬ x = y := fun z => h z.symm
      simp [h, h2]
theorem so_inLD {E : En α} [EqV E] {k : Nat} [p : ShP E k] [DecidableEq α] {x : α} {ys : List α} [dm : Decidable (x ∈ ys)] (hk : k + 1 ≤ 64 := by decide) : Si (Rs.of ((O2.inLD : O2 K).f (.v (E.v x)) (.l (ys.map E.e)))) (.ok (decide (x ∈ ys))) eB.v := by
  have q : ShP (eL E) (k + 1) := inferInstance
  show Rs.of (if SeqAt.shaped (E.e x) = true ∧ SeqAt.shaped ((eL E).e ys) = true then some (Vl.d (.bool ((ys.map E.e).any fun z => PyData.eqv z (E.e x)))) else none) = _
  rw [if_pos ⟨(p.sh x).shaped (by omega), (q.sh ys).shaped hk⟩, any_eqv]
  show Rs.ok (Vl.d (.bool _)) = Rs.ok (Vl.d (.bool _))
  congr 3
  exact decide_eq_decide.mpr Iff.rfl
end
end R

set_option Elab.async false
set_option linter.all false
set_option maxRecDepth 100000
set_option maxHeartbeats 2000000
namespace R
open PySem PySem.Spec PyProof.Rows L2 Z
section
variable {K : PySem.W.Frag} {α β γ δ : Type} {st : List Sv}
end
end R

set_option Elab.async false
set_option linter.all false
set_option maxRecDepth 100000
set_option maxHeartbeats 2000000
namespace R
open PySem PySem.Spec PyProof.Rows L2 Z
section
variable {K : PySem.W.Frag} {α β γ δ τ : Type} {st : List Sv}
open Classical in
noncomputable def XH.any (i : Nat) (suite : Addr → Value → Option Addr → XS K) : XH K i where
  ts := fun a cls d => (suite a cls d).ts .qu
  ev := fun C n st => if h : ∃ r, ∀ a d, mute ((suite a (.ref C) (some d)).ev (st.set i (.er a d n))) = r then choose h else .no
  ok := fun W a d C n st => by
    have := (suite a (.ref C) (some d)).ok .qu W (st.set i (.er a d n)) trivial
    rw [sls_set] at this
    by_cases h : ∃ r, ∀ a d, mute ((suite a (.ref C) (some d)).ev (st.set i (.er a d n))) = r
    · rw [dif_pos h, ← choose_spec h a d]
      cases he : (suite a (.ref C) (some d)).ev (st.set i (.er a d n)) with
      | xc _ _ _ => trivial
      | no => trivial
      | nx s => rw [he] at this; exact this
      | rt s => rw [he] at this; exact this
      | rw s2_ s => rw [he] at this; exact this
      | ro s => rw [he] at this; exact this
      | bk s => rw [he] at this; exact this
      | ct s => rw [he] at this; exact this
    · rw [dif_neg h]; trivial
def KeepX (b : XS K) : Prop := ∀ st st' C n, b.ev st = .xc st' C n → st' = st
theorem oc_keep {σ : Type} {st st' : List Sv} {k : σ → Oc} {C : Addr} {n : Int} {r : Rs σ} (h : r.oc st k = .xc st' C n) (hk : ∀ a st' C n, k a ≠ .xc st' C n) : st' = st := by
  cases r with
  | ok a => exact absurd h (hk a _ _ _)
  | ex _ _ => cases h; rfl
  | no => cases h
theorem kx_drop {e : XE K} : KeepX (.drop e) := fun st st' C n h => oc_keep (r := e.ev st) h fun a _ _ _ z => by cases z
theorem kx_ite {t : XT K} {a b : XS K} (ha : KeepX a) (hb : KeepX b) : KeepX (.ite t a b) := fun st st' C n h => by
  have h : (t.ev st).oc st (fun x => match x with
    | true => a.ev st
    | false => b.ev st) = .xc st' C n := h
  cases ht : t.ev st with
  | ok x =>
    rw [ht] at h
    cases x with
    | true => exact ha st st' C n h
    | false => exact hb st st' C n h
  | ex _ _ => rw [ht] at h; cases h; rfl
  | no => rw [ht] at h; cases h
theorem ss_tryK {i : Nat} {cW : Addr} {b rest : XS K} {suite : Addr → Value → Option Addr → XS K} {M : Addr → Int → Rs β} {e : β → Vl} {f : β → α} {mb : Rs (J τ α)} {es : τ → List Sv} {g : τ → Rs α} {P : α → Oc → Prop} (kx : KeepX b)
    (hM : ∀ (a d C : Addr) (n : Int), SS (suite a (.ref C) (some d)) (st.set i (.er a d n)) (M C n) (fun v o => o = .rt (e v)))
    (h : SS b st mb (PJ es (fun a o => P a o ∧ o.isRet = true))) (hl : ∀ t, (es t).length = st.length)
    (hp : ∀ v, P (f v) (.rt (e v))) (k : ∀ t, SS rest (es t) (g t) P) : SS (.seq (.try_ i cW b (XH.any i suite)) rest) st (bindJ (tryJ mb fun C n => hndM K cW C (M C n) f) g) P := by
  refine ss_seqJ (es := es) ?_ hl k
  cases mb with
  | no => trivial
  | ok j =>
    show PJ es P j (match b.ev st with
    | .xc st1 C n => if PySem.W.exmOne K (.ref C) (.ref cW) = some true then clr i ((XH.any i suite).ev C n st1) else .no
    | o => o)
    cases j with
    | nx t => have h : b.ev st = .nx (es t) := h; rw [h]; exact rfl
    | ex a =>
      obtain ⟨⟨h1, h2⟩, _⟩ := h
      cases ho : b.ev st with
      | rt v => rw [ho] at h1; exact ⟨h1, rfl⟩
      | rw _ v => rw [ho] at h1; exact ⟨h1, rfl⟩
      | ro v => rw [ho] at h1; exact ⟨h1, rfl⟩
      | _ => rw [ho] at h2; cases h2
  | ex C n =>
    obtain ⟨st1, e1, e2⟩ := h
    obtain rfl := kx _ _ _ _ e2
    have ev : (XS.try_ i cW b (XH.any i suite)).ev st1 = if PySem.W.exmOne K (.ref C) (.ref cW) = some true then clr i ((XH.any i suite).ev C n st1) else .no := by
      show (match b.ev st1 with
    | .xc st1 C n => if PySem.W.exmOne K (.ref C) (.ref cW) = some true then clr i ((XH.any i suite).ev C n st1) else .no
    | o => o) = _
      rw [e2]
    show SS _ st1 (hndM K cW C (M C n) f) _
    unfold hndM
    by_cases hm : PySem.W.exmOne K (.ref C) (.ref cW) = some true
    · rw [if_pos hm] at ev ⊢
      cases hH : M C n with
      | no => trivial
      | ex _ _ => trivial
      | ok a =>
        have hs : ∀ x d, mute ((suite x (.ref C) (some d)).ev (st1.set i (.er x d n))) = .rt (e a) := fun x d => by
          have := hM x d C n
          rw [hH] at this
          have this : (suite x (.ref C) (some d)).ev (st1.set i (.er x d n)) = .rt (e a) := this
          rw [this]; rfl
        have hany : (XH.any i suite).ev C n st1 = .rt (e a) := by
          unfold XH.any
          dsimp only
          have hx : ∃ r, ∀ a d, mute ((suite a (.ref C) (some d)).ev (st1.set i (.er a d n))) = r := ⟨_, hs⟩
          rw [dif_pos hx, ← Classical.choose_spec hx 0 0, hs]
        show P (f a) _ ∧ _
        rw [ev, hany]
        exact ⟨hp a, rfl⟩
    · rw [if_neg hm] at ev ⊢
      trivial
end

section
variable {K : PySem.W.Frag} {α β γ δ τ : Type} {st : List Sv}
theorem sn_lrg2E {a b : XE K} {m n : Rs Int} {M : Rs (List Int)} (h : SV eI.v a st m) (h' : SV eI.v b st n) (hM : M = (qu m).bind fun y => (qu n).bind fun z => lrg2C y z) : SN (List.map eI.e) (.lrg2 a b) st M := by
  rw [hM]; exact sn_lrg2 h h'
end
end R

set_option Elab.async false
set_option linter.all false
set_option maxRecDepth 100000
set_option maxHeartbeats 2000000
namespace R
open PySem PySem.Spec PyProof.Rows L2 Z
section
variable {K : PySem.W.Frag} {α β γ δ : Type} {st : List Sv}
end
end R

set_option Elab.async false
set_option linter.all false
set_option maxRecDepth 100000
set_option maxHeartbeats 2000000
namespace R
open PySem PySem.Spec PyProof.Rows L2 Z
section
variable {K : PySem.W.Frag} {α β γ δ : Type} {st : List Sv}
theorem ss_appT {i : Nat} {k : Nat} {e : XE K} {b : XS K} {E : En γ} {ps : List Cp} {xs : List γ} {r : Rs γ} {st1 : List γ → List Sv} {g : List γ → Rs α} {P : α → Oc → Prop} (hi : st[i]? = some (.otc ps)) (hk : ps[k]? = some (.l (xs.map E.e))) (he : SV E.v e (st.set i .x) r) (hs : ∀ ys : List γ, st.set i (.otc (ps.set k (.l (ys.map E.e)))) = st1 ys) (c : ∀ ys, SS b (st1 ys) (g ys) P) : SS (.seq (.appT i (.int ((k : Nat) : Int)) e) b) st ((qu r).bind fun u => (pushC xs u).bind g) P := by
  cases r with
  | no => trivial
  | ex C n => trivial
  | ok u =>
    have he : e.ev (st.set i .x) = .ok (E.v u) := he
    show SS _ _ ((pushC xs u).bind g) _
    unfold pushC grd
    by_cases hl : xs.length < 1000000
    · rw [if_pos hl]
      refine ss_step (st1 := st1 (xs ++ [u])) ?_ (by rw [← hs, List.length_set]) (c _)
      have hj : ixN ps.length ((k : Nat) : Int) = some k := by
        have := (List.getElem?_eq_some_iff.mp hk).1
        unfold ixN
        rw [if_pos (Int.natCast_nonneg k), if_pos (by omega)]
        rfl
      show (match st[i]? with
        | some (.otc ps) => match okV ((XE.int ((k : Nat) : Int) : XE K).iv st), okV (e.ev (st.set i .x)) with
          | some n, some (.d d) => match ixN ps.length n with
            | some j => match ps[j]? with
              | some (.l ds) => if ds.length < 1000000 then Oc.nx (st.set i (.otc (ps.set j (.l (ds ++ [d]))))) else .no
              | _ => .no
            | none => .no
          | _, _ => .no
        | _ => .no) = _
      rw [hi, he]
      show (match ixN ps.length ((k : Nat) : Int) with
            | some j => match ps[j]? with
              | some (.l ds) => if ds.length < 1000000 then Oc.nx (st.set i (.otc (ps.set j (.l (ds ++ [E.e u]))))) else .no
              | _ => .no
            | none => .no) = _
      rw [hj]
      show (match ps[k]? with
              | some (.l ds) => if ds.length < 1000000 then Oc.nx (st.set i (.otc (ps.set k (.l (ds ++ [E.e u]))))) else .no
              | _ => .no) = _
      rw [hk]
      show (if (xs.map E.e).length < 1000000 then Oc.nx (st.set i (.otc (ps.set k (.l (xs.map E.e ++ [E.e u]))))) else .no) = _
      rw [if_pos (by rw [List.length_map]; exact hl)]
      have := hs (xs ++ [u])
      rw [List.map_append] at this
      exact congrArg Oc.nx this
    · rw [if_neg hl]; trivial
end
end R

set_option Elab.async false
set_option linter.all false
set_option maxRecDepth 100000
set_option maxHeartbeats 2000000
namespace R
open PySem PySem.Spec PyProof.Rows L2 Z
section
variable {α β γ σ τ : Type}
theorem wh_runE {c : σ → Rs Bool} {f : σ → Rs (LO σ β)} (I : σ → Prop) (μ : σ → Nat) (Q : σ → Prop) (A : β → Prop)
    (h : ∀ s, I s → (c s = .ok false ∧ Q s) ∨ (c s = .ok true ∧ ((∃ s', f s = .ok (.nx s') ∧ I s' ∧ μ s' < μ s) ∨ (∃ s', f s = .ok (.bk s') ∧ Q s') ∨ ∃ a, f s = .ok (.ex a) ∧ A a))) :
    ∀ s, I s → (∃ s', whJ c f s = .ok (.nx s') ∧ Q s') ∨ ∃ a, whJ c f s = .ok (.ex a) ∧ A a := by
  have key : ∀ n s, I s → μ s ≤ n → (∃ s' k, whN c f k s = .ok (.nx s') ∧ Q s') ∨ ∃ a k, whN c f k s = .ok (.ex a) ∧ A a := by
    intro n
    induction n with
    | zero =>
      intro s hs hn
      rcases h s hs with ⟨h1, h2⟩ | ⟨h1, ⟨s', h2, h3, h4⟩ | ⟨s', h2, h3⟩ | ⟨a, h2, h3⟩⟩
      · exact .inl ⟨s, 1, by rw [whN, h1]; rfl, h2⟩
      · omega
      · exact .inl ⟨s', 1, by rw [whN, h1]; show Rs.bind (f s) _ = _; rw [h2]; rfl, h3⟩
      · exact .inr ⟨a, 1, by rw [whN, h1]; show Rs.bind (f s) _ = _; rw [h2]; rfl, h3⟩
    | succ n ih =>
      intro s hs hn
      rcases h s hs with ⟨h1, h2⟩ | ⟨h1, ⟨s', h2, h3, h4⟩ | ⟨s', h2, h3⟩ | ⟨a, h2, h3⟩⟩
      · exact .inl ⟨s, 1, by rw [whN, h1]; rfl, h2⟩
      · rcases ih s' h3 (by omega) with ⟨s2, k, h5, h6⟩ | ⟨a, k, h5, h6⟩
        · refine .inl ⟨s2, k + 1, ?_, h6⟩
          rw [whN, h1]
          show Rs.bind (f s) _ = _
          rw [h2]
          exact h5
        · refine .inr ⟨a, k + 1, ?_, h6⟩
          rw [whN, h1]
          show Rs.bind (f s) _ = _
          rw [h2]
          exact h5
      · exact .inl ⟨s', 1, by rw [whN, h1]; show Rs.bind (f s) _ = _; rw [h2]; rfl, h3⟩
      · exact .inr ⟨a, 1, by rw [whN, h1]; show Rs.bind (f s) _ = _; rw [h2]; rfl, h3⟩
  intro s hs
  rcases key (μ s) s hs (Nat.le_refl _) with ⟨s', k, h1, h2⟩ | ⟨a, k, h1, h2⟩
  · exact .inl ⟨s', whJ_of h1 (fun z => nomatch z), h2⟩
  · exact .inr ⟨a, whJ_of h1 (fun z => nomatch z), h2⟩
theorem gset {d : α} {xs : List α} {k j : Nat} {a : α} (h : k < xs.length) : (xs.set k a).getD j d = if k = j then a else xs.getD j d := by
  rw [List.getD_eq_getElem?_getD, List.getElem?_set]
  by_cases e : k = j
  · rw [if_pos e, if_pos e, if_pos h]; rfl
  · rw [if_neg e, if_neg e, List.getD_eq_getElem?_getD]
def Rt (m : Rs α) (P : α → Prop) : Prop := ∃ a, m = .ok a ∧ P a
theorem rt_ok {a : α} {P : α → Prop} (h : P a) : Rt (.ok a) P := ⟨a, rfl, h⟩
theorem rt_bind {m : Rs α} {f : α → Rs β} {P : α → Prop} {Q : β → Prop} (h : Rt m P) (k : ∀ a, P a → Rt (f a) Q) : Rt (m.bind f) Q := by
  obtain ⟨a, rfl, p⟩ := h
  exact k a p
theorem rt_eq {m : Rs α} {a : α} {f : α → Rs β} {Q : β → Prop} (h : m = .ok a) (k : Rt (f a) Q) : Rt (m.bind f) Q := by
  rw [h]; exact k
theorem rt_imp {m : Rs α} {P Q : α → Prop} (h : Rt m P) (k : ∀ a, P a → Q a) : Rt m Q := by
  obtain ⟨a, e, p⟩ := h
  exact ⟨a, e, k a p⟩
theorem rt_val {m : Rs α} {a : α} (h : Rt m (fun x => x = a)) : m = .ok a := by
  obtain ⟨b, e, rfl⟩ := h
  exact e
theorem rt_of {m : Rs α} {a : α} {P : α → Prop} (h : m = .ok a) (p : P a) : Rt m P := ⟨a, h, p⟩
theorem rt_for {f : α → σ → Rs σ} {xs : List α} {s : σ} (I : List α → σ → Prop) (h0 : I [] s) (h : ∀ pre a suf s, xs = pre ++ a :: suf → I pre s → Rt (f a s) (I (pre ++ [a]))) : Rt (forR f xs s) (I xs) := for_inv I h0 h
theorem rt_forU {f : Int → σ → Rs σ} {n : Nat} {s : σ} (I : Nat → σ → Prop) (h0 : I 0 s) (h : ∀ (k : Nat) s, k < n → I k s → Rt (f (k : Int) s) (I (k + 1))) : Rt (forR f (upto n) s) (I n) := for_upto I h0 h
theorem rt_forJ {f : α → σ → Rs (LO σ β)} {xs : List α} {s : σ} (I : List α → σ → Prop) (h0 : I [] s) (h : ∀ pre a suf s, xs = pre ++ a :: suf → I pre s → Rt (f a s) (fun o => ∃ s', o = .nx s' ∧ I (pre ++ [a]) s')) : Rt (forJ f xs s) (fun j => ∃ s', j = .nx s' ∧ I xs s') := by
  obtain ⟨s', h1, h2⟩ := forJ_nx (f := f) I h0 fun pre a suf s e i => by
    obtain ⟨o, h1, s', rfl, h2⟩ := h pre a suf s e i
    exact ⟨s', h1, h2⟩
  exact ⟨_, h1, s', rfl, h2⟩
theorem rt_bJ {m : Rs (J τ α)} {g : τ → Rs α} {P : τ → Prop} {Q : α → Prop} (h : Rt m (fun j => ∃ s', j = .nx s' ∧ P s')) (k : ∀ s, P s → Rt (g s) Q) : Rt (bindJ m g) Q := by
  obtain ⟨j, e, s', rfl, p⟩ := h
  rw [e, bindJ_nx]
  exact k s' p
end
end R

set_option Elab.async false
set_option linter.all false
set_option maxRecDepth 100000
set_option maxHeartbeats 2000000
namespace HQ
open PySem PySem.Spec PyProof.Rows L2 PySem.W
variable {prog : Program} {w : World} {A : Around} {R : Result → Shared → Prop} {s : Shared}
end HQ

set_option Elab.async false
set_option linter.all false
set_option maxRecDepth 100000
set_option maxHeartbeats 2000000
namespace HQ
open PySem PySem.Spec PyProof.Rows L2 PySem.W
section
variable {α β : Type} (lt : α → α → Bool)
def swp (xs : List α) (i j : Nat) : List α := match xs[i]?, xs[j]? with
  | some x, some y => (xs.set i y).set j x
  | _, _ => xs
def up : Nat → List α → Nat → Nat → List α
  | 0, xs, _, _ => xs
  | n + 1, xs, pos, top => if pos > top then (match xs[pos]?, xs[(pos - 1) / 2]? with
    | some x, some p => if lt x p = true then up n (swp xs ((pos - 1) / 2) pos) ((pos - 1) / 2) top else xs
    | _, _ => xs) else xs
variable (lt' : β → β → Bool) (f : α → β) (hf : ∀ x y, lt' (f x) (f y) = lt x y)
end
abbrev P2 := V × PyData
structure Gd (K : PySem.W.Frag) (G : Hp) (ps : List P2) : Prop where
  d : ∀ p ∈ ps, Z.Dq G p.1 p.2 ∧ p.2 ≠ .none ∧ p.2.depth ≤ 60
  a : ∀ p ∈ ps, ∀ q ∈ ps, alike p.2 q.2 = true
theorem mem_swp {α : Type} {xs : List α} {i j : Nat} {z : α} (h : z ∈ swp xs i j) : z ∈ xs := by
  unfold swp at h
  split at h
  · rename_i x y hx hy
    rcases List.mem_or_eq_of_mem_set h with h | h
    · rcases List.mem_or_eq_of_mem_set h with h | h
      · exact h
      · rw [h]; exact List.mem_of_getElem? hy
    · rw [h]; exact List.mem_of_getElem? hx
  · exact h
theorem Gd.swp {K : PySem.W.Frag} {G : Hp} {ps : List P2} (g : Gd K G ps) (i j : Nat) : Gd K G (swp ps i j) := ⟨fun p h => g.d p (mem_swp h), fun p h q k => g.a p (mem_swp h) q (mem_swp k)⟩
section
variable {X : Cx} {pins : List (Addr × Obj)} {σ : L2.St} {G H : Hp} {a : Addr} {A : Around} {R : Result → Shared → Prop}
theorem upd2 {H : Hp} {a : Addr} {o u : HO} : upd (upd H a o) a u = upd H a u := by
  funext b
  by_cases e : b = a
  · rw [e, upd_same, upd_same]
  · rw [upd_ne e, upd_ne e, upd_ne e]
end
end HQ
namespace HQ
open PySem PySem.Spec PyProof.Rows L2 PySem.W
section
variable {X : Cx}
end
end HQ

set_option Elab.async false
set_option linter.all false
set_option maxRecDepth 100000
set_option maxHeartbeats 2000000
namespace Z
open PySem PySem.Spec PyProof.Rows L2 PySem.W
section
variable {K : PySem.W.Frag} {W : WX} {ρ ρ' : List Sl} {te : TE} {i : Nat}
theorem Stt.lst {G : Hp} {σ : L2.St} {L0 : List Cell} {H : Hp} {ds : List PyData} (s : Stt G ρ σ L0 H) (hi : ρ[i]? = some (.o (oL ds))) : ∃ a vs, σ[i]? = some (some (.ref a)) ∧ H a = some (.lst vs) ∧ DqAll G vs ds ∧ (∀ b o, G b = some o → b ≠ a ∧ H b = some o) ∧
    ∀ ys es, DqAll G ys es → Stt G (ρ.set i (.o (oL es))) σ L0 (upd H a (.lst ys)) := by
  obtain ⟨L, sl, la⟩ := id s
  obtain ⟨a, cs, M, e1, ⟨vs, e2, d⟩, pm, _⟩ := sl.get_o hi
  obtain ⟨a', cs', e1', ⟨vs', e2', d'⟩, hh, k1, _⟩ := s.get_o hi
  rw [e1] at e1'
  injection e1' with e1'; injection e1' with e1'; injection e1' with e1'
  subst e1' e2 e2'
  have hm : (a, HO.lst vs) ∈ L ++ L0 := List.mem_append_left _ (pm.mem_iff.mpr (List.mem_append_left _ (List.mem_cons_self ..)))
  have h2 := la.on _ hm
  refine ⟨a, vs, e1, h2.1, d, fun b o hb => ⟨fun z => ?_, la.same _ _ hb⟩, fun ys es hd => k1 (oL es) [(a, .lst ys)] _ ⟨_, rfl, hd⟩ fun M l => l.store⟩
  rw [z] at hb
  rw [h2.2] at hb
  cases hb
end
end Z
namespace R
open PySem PySem.Spec PyProof.Rows L2 Z PySem.W
section
variable {K : PySem.W.Frag}
end
section
variable {K : PySem.W.Frag} {α γ δ : Type} {st : List Sv}
end
end R

set_option Elab.async false
set_option linter.all false
set_option maxRecDepth 100000
set_option maxHeartbeats 2000000
namespace ZEZ
open PySem PySem.Spec PyProof.Rows L2 Z
abbrev Zo (h : Heap) (z TI TO : Addr) (x : Value) (b : Bool) : Prop :=
  h.get? z = some { cls := .type "zip", dict := none, data := .fields #[x, .bool b, .bool false, .ref TI, .ref TO], slots := #[] }
def Own (x : Value) : Prop := x = .none ∨ ∃ T : Addr, x = rawInt T
section
variable {prog : Program} {w : World} {A : Around} {E : Value → Shared → Prop} {s : Shared}
structure ApE (e z TI TO j1 j2 : Addr) : Prop where
  z : e ≠ z
  I : e ≠ TI
  O : e ≠ TO
  a : e ≠ j1
  b : e ≠ j2
end
section
variable {prog : Program} {w : World} {A : Around} {E : Value → Shared → Prop} {s : Shared}
end
end ZEZ

set_option Elab.async false
set_option linter.all false
set_option maxRecDepth 100000
set_option maxHeartbeats 2000000
namespace Z
open PySem PySem.Spec PyProof.Rows L2
section
variable {K : PySem.W.Frag} {W : WX} {ρ : List Sl}
end
end Z

set_option Elab.async false
set_option linter.all false
set_option maxRecDepth 100000
set_option maxHeartbeats 2000000
namespace R
open PySem PySem.Spec PyProof.Rows L2 Z
section
variable {K : PySem.W.Frag}
end
section
variable {K : PySem.W.Frag}
end
section
variable {K : PySem.W.Frag} {α β γ : Type} {st : List Sv}
end
section
variable {K : PySem.W.Frag}
variable {α γ : Type} {st : List Sv}
end
end R

set_option Elab.async false
set_option linter.all false
set_option maxRecDepth 100000
set_option maxHeartbeats 2000000
namespace Z
open PySem PySem.Spec PyProof.Rows L2
section
variable {K : PySem.W.Frag} {ρ : List Sl} {i : Nat}
end
end Z
namespace R
open PySem PySem.Spec PyProof.Rows L2 Z
section
variable {K : PySem.W.Frag}
end
section
variable {K : PySem.W.Frag} {α γ : Type} {st : List Sv}
end
end R

set_option Elab.async false
set_option linter.all false
set_option maxRecDepth 100000
set_option maxHeartbeats 3200000
namespace ZSS
open PySem PySem.Spec PyProof.Rows L2
def put (x : Int) : List Int → List Int
  | [] => [x]
  | y :: l => if x < y then x :: y :: l else if x = y then y :: l else y :: put x l
def asc (ns : List Int) : List Int := ns.foldr put []
section
variable {P : Program} {w : World} {A : Around} {E : Value → Shared → Prop} {s : Shared}
abbrev blank (w : World) : Obj := { cls := .type "set", dict := none, data := .set #[] 0 (.fresh 0 0 (!w.params.followText "set-order")) }
end
variable {X : Cx}
end ZSS

set_option Elab.async false
set_option linter.all false
set_option maxRecDepth 100000
set_option maxHeartbeats 2000000
namespace R
open PySem PySem.Spec PyProof.Rows L2 Z
section
variable {K : PySem.W.Frag}
end
end R

set_option Elab.async false
set_option linter.all false
set_option maxRecDepth 100000
set_option maxHeartbeats 2000000
namespace Z
open PySem PySem.Spec PyProof.Rows L2
theorem Lay.freezeX {G H : Hp} : ∀ {L M : List Cell}, Lay G (L ++ M) H → ∃ G', Same G G' ∧ Lay G' M H ∧ (∀ c ∈ L, G' c.1 = some c.2) ∧ ∀ b, (∀ c ∈ L, c.1 ≠ b) → G' b = G b
  | [], M, l => ⟨G, Same.refl G, l, fun _ h => (by cases h), fun _ _ => rfl⟩
  | (p, o) :: L, M, l => by
    have hp := (l.on (p, o) (List.mem_cons_self ..)).2
    have l' : Lay (upd G p o) (L ++ M) H := Lay.freeze l
    obtain ⟨G', s, l'', k, z⟩ := Lay.freezeX l'
    refine ⟨G', (same_upd hp).trans s, l'', fun c hc => ?_, fun b hb => ?_⟩
    · rcases List.mem_cons.mp hc with z | z
      · subst z; exact s _ _ upd_same
      · exact k c z
    · rw [z b fun c hc => hb c (List.mem_cons_of_mem _ hc), upd_ne (fun e => hb (p, o) (List.mem_cons_self ..) e.symm)]
end Z
namespace R
open PySem PySem.Spec PyProof.Rows L2 Z
section
variable {K : PySem.W.Frag}
def pinV (u : V) : Sv → Sv
  | .x => .x
  | .v a => .pin u (.v a)
  | .bl ds => .pin u (.bl ds)
  | .ol ds => .pin u (.v (.d (.list ds)))
  | .oll dss => .pin u (.ll dss)
  | .oo o => .pin u (.oo o)
  | .oto o => .pin u (.v (.d (otD o)))
  | .otc ps => .pin u (.v (.d (.tuple (ps.map Cp.d))))
  | .pin w p => .pin w p
  | .er _ _ _ => .pin u .x
  | .oi _ _ _ => .pin u .x
  | .ob _ _ _ => .pin u .x
  | .bo _ _ => .pin u .x
  | .bll _ => .pin u .x
  | .odk _ => .pin u .x
def pinF (J : List Nat) (p : Nat → V) : Nat → List Sv → List Sv
  | _, [] => []
  | k, s :: r => (if J.contains k = true then s else pinV (p k) s) :: pinF J p (k + 1) r
def ownless : Sv → Bool
  | .x => true
  | .v _ => true
  | .bl _ => true
  | .bll _ => true
  | .bo _ _ => true
  | .er _ _ _ => true
  | .pin _ _ => true
  | _ => false
def flatD : PyData → Bool
  | .none => true
  | .bool _ => true
  | .int _ => true
  | .str _ => true
  | _ => false
def flatS : Sv → Bool
  | .x => true
  | .v (.d d) => flatD d
  | _ => false
def backOk (J : List Nat) : Nat → List Sv → List Sv → Prop
  | _, [], [] => True
  | k, s :: r, s' :: r' => (if J.contains k = true then ownless s = true ∧ flatS s' = true else s' = s) ∧ backOk J (k + 1) r r'
  | _, _, _ => False
def freeJ (J : List Nat) : Nat → List Sv → Bool
  | _, [] => true
  | k, s :: r => (!J.contains k || ownless s) && freeJ J (k + 1) r
theorem flat_dq {G G' : Hp} {v : V} {d : PyData} (h : flatD d = true) (q : Dq G v d) : Dq G' v d := by
  cases q <;> first | (cases h; done) | constructor
theorem backOk_refl {J : List Nat} : ∀ {k : Nat} {st : List Sv}, J = [] → backOk J k st st
  | _, [], _ => trivial
  | k, s :: r, h => ⟨by subst h; rfl, backOk_refl h⟩
theorem pin_into {J : List Nat} {G G1 : Hp} {L0 : List Cell} (e : Same G G1) (p : Nat → V) : ∀ {st : List Sv} {σ : L2.St} {L : List Cell} {k : Nat}, Slots G L0 σ (sls K st) L → (∀ c ∈ L, G1 c.1 = some c.2) → freeJ J k st = true → (∀ i v, σ[i]? = some (some v) → p (k + i) = v) → Slots G1 L0 σ (sls K (pinF J p k st)) []
  | [], _, _, k, h, hc, hf, hv => by cases h; exact .nil
  | s :: r, σ, L, k, h, hc, hf, hv => by
    have hf2 : (!J.contains k || ownless s) = true ∧ freeJ J (k + 1) r = true := by
      have : ((!J.contains k || ownless s) && freeJ J (k + 1) r) = true := hf
      rw [Bool.and_eq_true] at this
      exact this
    have h : Slots G L0 σ (sl K s :: sls K r) L := h
    show Slots G1 L0 σ (sl K (if J.contains k = true then s else pinV (p k) s) :: sls K (pinF J p (k + 1) r)) []
    have tl : ∀ {o : Option V} {σ' : L2.St} {L' : List Cell}, σ = o :: σ' → Slots G L0 σ' (sls K r) L' → (∀ c ∈ L', c ∈ L) → Slots G1 L0 σ' (sls K (pinF J p (k + 1) r)) [] := fun {o σ' L'} es t hm =>
      pin_into e p t (fun c hx => hc c (hm c hx)) hf2.2 fun i v hi => by
        have := hv (i + 1) v (by rw [es]; simpa using hi)
        rw [← this]; congr 1; omega
    have hd : ∀ {v : V} {σ' : L2.St}, σ = some v :: σ' → p k = v := fun {v σ'} es => by
      have := hv 0 v (by rw [es]; rfl)
      simpa using this
    by_cases hJ : J.contains k = true
    · rw [if_pos hJ]
      have ho : ownless s = true := by
        have := hf2.1
        rw [hJ] at this
        simpa using this
      cases s with
      | x => cases h with | x t => exact .x (tl rfl t fun _ z => z)
      | v a => cases h with | p q t => exact .p (Rp.up _ e q) (tl rfl t fun _ z => z)
      | bl ds => cases h with | b q t => exact .b (Bw.up _ e (fun _ z => z) q) (tl rfl t fun _ z => z)
      | bll ds => cases h with | b q t => exact .b (Bw.up _ e (fun _ z => z) q) (tl rfl t fun _ z => z)
      | bo _ _ => cases h with | b q t => exact .b (Bw.up _ e (fun _ z => z) q) (tl rfl t fun _ z => z)
      | er a b c => cases h with | p q t => exact .p (Rp.up _ e q) (tl rfl t fun _ z => z)
      | pin u q =>
        cases q with
        | x => cases h with | p q t => exact .p (Rp.up _ e q) (tl rfl t fun _ z => z)
        | v a => cases h with | p q t => exact .p (Rp.up _ e q) (tl rfl t fun _ z => z)
        | ll a => cases h with | p q t => exact .p (Rp.up _ e q) (tl rfl t fun _ z => z)
        | oo a => cases h with | p q t => exact .p (Rp.up _ e q) (tl rfl t fun _ z => z)
        | bl ds => cases h with | b q t => exact .b (Bw.up _ e (fun _ z => z) q) (tl rfl t fun _ z => z)
      | ol _ => cases ho
      | oi _ _ _ => cases ho
      | ob _ _ _ => cases ho
      | oll _ => cases ho
      | odk _ => cases ho
      | otc _ => cases ho
      | oo _ => cases ho
      | oto _ => cases ho
    · rw [if_neg hJ]
      cases s with
      | oo o =>
        cases o with
        | none => cases h with | p q t => exact .p ⟨(hd rfl).symm, Rp.up _ e q⟩ (tl rfl t fun _ z => z)
        | some ds => cases h with | o q t =>
          obtain ⟨vs, rfl, d⟩ := q
          exact .p ⟨(hd rfl).symm, Dq.lst (hc _ (List.mem_append_left _ (List.mem_singleton.mpr rfl))) (dpAll_up e d)⟩ (tl rfl t fun _ z => List.mem_append_right _ z)
      | oto o =>
        cases o with
        | none => cases h with | p q t => exact .p ⟨(hd rfl).symm, Rp.up _ e q⟩ (tl rfl t fun _ z => z)
        | some ps => cases h with | o q t =>
          obtain ⟨xs, hG, hN⟩ := q
          exact .p ⟨(hd rfl).symm, Dq.tup (e _ _ hG) (hN.dq _ e fun c z => hc c (List.mem_append_left _ z))⟩ (tl rfl t fun _ z => List.mem_append_right _ z)
      | x => cases h with | x t => exact .x (tl rfl t fun _ z => z)
      | v a => cases h with | p q t => exact .p ⟨(hd rfl).symm, Rp.up _ e q⟩ (tl rfl t fun _ z => z)
      | bl ds => cases h with | b q t => exact .b ⟨(hd rfl).symm, Bw.up _ e (fun _ z => z) q⟩ (tl rfl t fun _ z => z)
      | bll ds => cases h with | b q t => exact .p (hd rfl).symm (tl rfl t fun _ z => z)
      | bo _ _ => cases h with | b q t => exact .p (hd rfl).symm (tl rfl t fun _ z => z)
      | er a b c => cases h with | p q t => exact .p (hd rfl).symm (tl rfl t fun _ z => z)
      | pin u q =>
        cases q with
        | x => cases h with | p q t => exact .p (Rp.up _ e q) (tl rfl t fun _ z => z)
        | v a => cases h with | p q t => exact .p (Rp.up _ e q) (tl rfl t fun _ z => z)
        | ll a => cases h with | p q t => exact .p (Rp.up _ e q) (tl rfl t fun _ z => z)
        | oo a => cases h with | p q t => exact .p (Rp.up _ e q) (tl rfl t fun _ z => z)
        | bl ds => cases h with | b q t => exact .b (Bw.up _ e (fun _ z => z) q) (tl rfl t fun _ z => z)
      | ol ds => cases h with | o q t =>
        obtain ⟨vs, rfl, d⟩ := q
        exact .p ⟨(hd rfl).symm, Dq.lst (hc _ (List.mem_append_left _ (List.mem_singleton.mpr rfl))) (dpAll_up e d)⟩ (tl rfl t fun _ z => List.mem_append_right _ z)
      | oi _ _ _ => cases h with | o q t => exact .p (hd rfl).symm (tl rfl t fun _ z => List.mem_append_right _ z)
      | ob _ _ _ => cases h with | o q t => exact .p (hd rfl).symm (tl rfl t fun _ z => List.mem_append_right _ z)
      | oll dss => cases h with | o q t =>
        obtain ⟨as, c1, rfl, hN⟩ := q
        exact .p ⟨(hd rfl).symm, Dq.lst (hc _ (List.mem_append_left _ (List.mem_cons_self ..))) (hN.dq _ e fun c z => hc c (List.mem_append_left _ (List.mem_cons_of_mem _ z)))⟩ (tl rfl t fun _ z => List.mem_append_right _ z)
      | odk _ => cases h with | o q t => exact .p (hd rfl).symm (tl rfl t fun _ z => List.mem_append_right _ z)
      | otc ps => cases h with | o q t =>
        obtain ⟨xs, hG, hN⟩ := q
        exact .p ⟨(hd rfl).symm, Dq.tup (e _ _ hG) (hN.dq _ e fun c z => hc c (List.mem_append_left _ z))⟩ (tl rfl t fun _ z => List.mem_append_right _ z)
theorem pinV_at {u : V} {s : Sv} {G' : Hp} {L0 L' : List Cell} {o : Option V} {σ' : L2.St} {ρ : List Sl} (h : Slots G' L0 (o :: σ') (sl K (pinV u s) :: ρ) L') (hs : s ≠ .x) (hp : ∀ w q, s ≠ .pin w q) : o = some u ∧ Slots G' L0 σ' ρ L' := by
  cases s with
  | x => exact absurd rfl hs
  | pin w q => exact absurd rfl (hp w q)
  | v a => cases h with | p q t => exact ⟨by rw [q.1], t⟩
  | bl ds => cases h with | b q t => exact ⟨by rw [q.1], t⟩
  | bll ds => cases h with | p q t => exact ⟨by rw [q], t⟩
  | bo _ _ => cases h with | p q t => exact ⟨by rw [q], t⟩
  | er a b c => cases h with | p q t => exact ⟨by rw [q], t⟩
  | ol ds => cases h with | p q t => exact ⟨by rw [q.1], t⟩
  | oi _ _ _ => cases h with | p q t => exact ⟨by rw [q], t⟩
  | ob _ _ _ => cases h with | p q t => exact ⟨by rw [q], t⟩
  | oll dss => cases h with | p q t => exact ⟨by rw [q.1], t⟩
  | odk _ => cases h with | p q t => exact ⟨by rw [q], t⟩
  | otc ps => cases h with | p q t => exact ⟨by rw [q.1], t⟩
  | oo ps => cases h with | p q t => exact ⟨by rw [q.1], t⟩
  | oto ps => cases h with | p q t => exact ⟨by rw [q.1], t⟩
theorem pin_back {J : List Nat} {G G' G2 : Hp} {L0 : List Cell} (e : Same G G2) (p : Nat → V) : ∀ {st st' : List Sv} {σ σ' : L2.St} {L L' : List Cell} {k : Nat}, Slots G L0 σ (sls K st) L → Slots G' L0 σ' (sls K (pinF J p k st')) L' → backOk J k st st' → (∀ i v, σ[i]? = some (some v) → p (k + i) = v) → Slots G2 L0 σ' (sls K st') L ∧ L' = []
  | [], [], σ, σ', L, L', k, h, h', hb, hv => by cases h; cases h'; exact ⟨.nil, rfl⟩
  | [], _ :: _, _, _, _, _, _, _, _, hb, _ => hb.elim
  | _ :: _, [], _, _, _, _, _, _, _, hb, _ => hb.elim
  | s :: r, s' :: r', σ, σ', L, L', k, h, h', hb, hv => by
    obtain ⟨h1, h2⟩ := hb
    have h : Slots G L0 σ (sl K s :: sls K r) L := h
    have h' : Slots G' L0 σ' (sl K (if J.contains k = true then s' else pinV (p k) s') :: sls K (pinF J p (k + 1) r')) L' := h'
    show Slots G2 L0 σ' (sl K s' :: sls K r') L ∧ _
    have tl : ∀ {o : Option V} {σ1 : L2.St} {L1 : List Cell} {σ1' : L2.St} {L1' : List Cell}, σ = o :: σ1 → Slots G L0 σ1 (sls K r) L1 → Slots G' L0 σ1' (sls K (pinF J p (k + 1) r')) L1' → Slots G2 L0 σ1' (sls K r') L1 ∧ L1' = [] := fun {o σ1 L1 σ1' L1'} es t t' =>
      pin_back e p t t' h2 fun i v hi => by
        have := hv (i + 1) v (by rw [es]; simpa using hi)
        rw [← this]; congr 1; omega
    have hd : ∀ {v : V} {σ1 : L2.St}, σ = some v :: σ1 → p k = v := fun {v σ1} es => by
      have := hv 0 v (by rw [es]; rfl)
      simpa using this
    by_cases hJ : J.contains k = true
    · rw [if_pos hJ] at h1 h'
      obtain ⟨ho, hf⟩ := h1
      have key : ∀ {o : Option V} {σ1 : L2.St} , σ = o :: σ1 → Slots G L0 σ1 (sls K r) L → Slots G2 L0 σ' (sl K s' :: sls K r') L ∧ L' = [] := fun {o σ1} es t => by
        cases s' with
        | x => cases h' with | x t' => exact ⟨.x (tl es t t').1, (tl es t t').2⟩
        | v a =>
          cases a with
          | d x => cases h' with | p q t' => exact ⟨.p (flat_dq hf q) (tl es t t').1, (tl es t t').2⟩
          | s _ => cases hf
          | i _ _ => cases hf
          | p _ _ => cases hf
        | _ => cases hf
      cases s with
      | x => cases h with | x t => exact key rfl t
      | v a => cases h with | p q t => exact key rfl t
      | bl ds => cases h with | b q t => exact key rfl t
      | bll ds => cases h with | b q t => exact key rfl t
      | bo _ _ => cases h with | b q t => exact key rfl t
      | er a b c => cases h with | p q t => exact key rfl t
      | pin u q =>
        cases q with
        | x => cases h with | p q t => exact key rfl t
        | v a => cases h with | p q t => exact key rfl t
        | ll a => cases h with | p q t => exact key rfl t
        | oo a => cases h with | p q t => exact key rfl t
        | bl ds => cases h with | b q t => exact key rfl t
      | ol _ => cases ho
      | oi _ _ _ => cases ho
      | ob _ _ _ => cases ho
      | oll _ => cases ho
      | odk _ => cases ho
      | otc _ => cases ho
      | oo _ => cases ho
      | oto _ => cases ho
    · rw [if_neg hJ] at h1 h'
      subst h1
      have hlen := h'.len
      cases σ' with
      | nil => simp at hlen
      | cons o' σ1' =>
      cases s' with
      | x => cases h with | x t => cases h' with | x t' => exact ⟨.x (tl rfl t t').1, (tl rfl t t').2⟩
      | pin u q =>
        cases q with
        | x => cases h with | p q t => cases h' with | p q' t' =>
          have q' : _ = u := q'
          subst q'
          exact ⟨.p rfl (tl rfl t t').1, (tl rfl t t').2⟩
        | v a => cases h with | p q t => cases h' with | p q' t' =>
          obtain ⟨q1, q2⟩ := q'
          subst q1
          obtain ⟨z, q⟩ := q
          subst z
          exact ⟨.p ⟨rfl, Rp.up _ e q⟩ (tl rfl t t').1, (tl rfl t t').2⟩
        | ll a => cases h with | p q t => cases h' with | p q' t' =>
          obtain ⟨q1, q2⟩ := q'
          subst q1
          obtain ⟨z, q⟩ := q
          subst z
          exact ⟨.p ⟨rfl, Rp.up _ e q⟩ (tl rfl t t').1, (tl rfl t t').2⟩
        | oo a => cases h with | p q t => cases h' with | p q' t' =>
          obtain ⟨q1, q2⟩ := q'
          subst q1
          obtain ⟨z, q⟩ := q
          subst z
          exact ⟨.p ⟨rfl, Rp.up _ e q⟩ (tl rfl t t').1, (tl rfl t t').2⟩
        | bl ds => cases h with | b q t => cases h' with | b q' t' =>
          obtain ⟨q1, q2⟩ := q'
          subst q1
          obtain ⟨z, q⟩ := q
          subst z
          exact ⟨.b ⟨rfl, Bw.up _ e (fun _ z => z) q⟩ (tl rfl t t').1, (tl rfl t t').2⟩
      | oo o =>
        cases o with
        | none => cases h with | p q t =>
          obtain ⟨rfl, t'⟩ := pinV_at h' (fun z => nomatch z) (fun _ _ z => nomatch z)
          rw [hd rfl]
          exact ⟨.p (Rp.up _ e q) (tl rfl t t').1, (tl rfl t t').2⟩
        | some ds => cases h with | o q t =>
          obtain ⟨rfl, t'⟩ := pinV_at h' (fun z => nomatch z) (fun _ _ z => nomatch z)
          rw [hd rfl]
          exact ⟨.o (Op.up _ e q) (tl rfl t t').1, (tl rfl t t').2⟩
      | oto o =>
        cases o with
        | none => cases h with | p q t =>
          obtain ⟨rfl, t'⟩ := pinV_at h' (fun z => nomatch z) (fun _ _ z => nomatch z)
          rw [hd rfl]
          exact ⟨.p (Rp.up _ e q) (tl rfl t t').1, (tl rfl t t').2⟩
        | some ds => cases h with | o q t =>
          obtain ⟨rfl, t'⟩ := pinV_at h' (fun z => nomatch z) (fun _ _ z => nomatch z)
          rw [hd rfl]
          exact ⟨.o (Op.up _ e q) (tl rfl t t').1, (tl rfl t t').2⟩
      | v a => cases h with | p q t =>
        obtain ⟨rfl, t'⟩ := pinV_at h' (fun z => nomatch z) (fun _ _ z => nomatch z)
        rw [hd rfl]
        exact ⟨.p (Rp.up _ e q) (tl rfl t t').1, (tl rfl t t').2⟩
      | bl ds => cases h with | b q t =>
        obtain ⟨rfl, t'⟩ := pinV_at h' (fun z => nomatch z) (fun _ _ z => nomatch z)
        rw [hd rfl]
        exact ⟨.b (Bw.up _ e (fun _ z => z) q) (tl rfl t t').1, (tl rfl t t').2⟩
      | bll ds => cases h with | b q t =>
        obtain ⟨rfl, t'⟩ := pinV_at h' (fun z => nomatch z) (fun _ _ z => nomatch z)
        rw [hd rfl]
        exact ⟨.b (Bw.up _ e (fun _ z => z) q) (tl rfl t t').1, (tl rfl t t').2⟩
      | bo _ _ => cases h with | b q t =>
        obtain ⟨rfl, t'⟩ := pinV_at h' (fun z => nomatch z) (fun _ _ z => nomatch z)
        rw [hd rfl]
        exact ⟨.b (Bw.up _ e (fun _ z => z) q) (tl rfl t t').1, (tl rfl t t').2⟩
      | er a b c => cases h with | p q t =>
        obtain ⟨rfl, t'⟩ := pinV_at h' (fun z => nomatch z) (fun _ _ z => nomatch z)
        rw [hd rfl]
        exact ⟨.p (Rp.up _ e q) (tl rfl t t').1, (tl rfl t t').2⟩
      | ol ds => cases h with | o q t =>
        obtain ⟨rfl, t'⟩ := pinV_at h' (fun z => nomatch z) (fun _ _ z => nomatch z)
        rw [hd rfl]
        exact ⟨.o (Op.up _ e q) (tl rfl t t').1, (tl rfl t t').2⟩
      | oi _ _ _ => cases h with | o q t =>
        obtain ⟨rfl, t'⟩ := pinV_at h' (fun z => nomatch z) (fun _ _ z => nomatch z)
        rw [hd rfl]
        exact ⟨.o (Op.up _ e q) (tl rfl t t').1, (tl rfl t t').2⟩
      | ob _ _ _ => cases h with | o q t =>
        obtain ⟨rfl, t'⟩ := pinV_at h' (fun z => nomatch z) (fun _ _ z => nomatch z)
        rw [hd rfl]
        exact ⟨.o (Op.up _ e q) (tl rfl t t').1, (tl rfl t t').2⟩
      | oll dss => cases h with | o q t =>
        obtain ⟨rfl, t'⟩ := pinV_at h' (fun z => nomatch z) (fun _ _ z => nomatch z)
        rw [hd rfl]
        exact ⟨.o (Op.up _ e q) (tl rfl t t').1, (tl rfl t t').2⟩
      | odk _ => cases h with | o q t =>
        obtain ⟨rfl, t'⟩ := pinV_at h' (fun z => nomatch z) (fun _ _ z => nomatch z)
        rw [hd rfl]
        exact ⟨.o (Op.up _ e q) (tl rfl t t').1, (tl rfl t t').2⟩
      | otc ps => cases h with | o q t =>
        obtain ⟨rfl, t'⟩ := pinV_at h' (fun z => nomatch z) (fun _ _ z => nomatch z)
        rw [hd rfl]
        exact ⟨.o (Op.up _ e q) (tl rfl t t').1, (tl rfl t t').2⟩
theorem lend_in {J : List Nat} {st : List Sv} {G H : Hp} {σ : L2.St} {L0 : List Cell} (s : Stt G (sls K st) σ L0 H) (hJ : freeJ J 0 st = true) :
    ∃ G1 p, Same G G1 ∧ Stt G1 (sls K (pinF J p 0 st)) σ L0 H ∧ ∀ G' σ' H' st', Same G1 G' → Stt G' (sls K (pinF J p 0 st')) σ' L0 H' → backOk J 0 st st' → ∃ G2, Same G G2 ∧ Stt G2 (sls K st') σ' L0 H' := by
  classical
  obtain ⟨L, hs, la⟩ := s
  obtain ⟨G1, e1, l1, hc, hx⟩ := la.freezeX
  let p : Nat → V := fun k => ((σ[k]?).getD none).getD V.non
  have hv : ∀ i v, σ[i]? = some (some v) → p (0 + i) = v := fun i v h => by
    show ((σ[0 + i]?).getD none).getD V.non = v
    rw [Nat.zero_add, h]; rfl
  refine ⟨G1, p, e1, ⟨[], pin_into e1 p hs hc hJ hv, l1⟩, fun G' σ' H' st' e s' hb => ?_⟩
  obtain ⟨L', hs', l'⟩ := s'
  let G2 : Hp := fun b => if b ∈ L.map (·.1) then none else G' b
  have hG2 : ∀ b, b ∉ L.map (·.1) → G2 b = G' b := fun b h => if_neg h
  have hG2n : ∀ b, b ∈ L.map (·.1) → G2 b = none := fun b h => if_pos h
  have e2 : Same G G2 := fun b o h => by
    have hb : b ∉ L.map (·.1) := fun z => by
      obtain ⟨c, hc1, rfl⟩ := List.mem_map.mp z
      have := (la.on c (List.mem_append_left _ hc1)).2
      rw [h] at this; cases this
    rw [hG2 b hb]
    exact e _ _ (e1 _ _ h)
  obtain ⟨hs2, hL'⟩ := pin_back e2 p hs hs' hb hv
  subst hL'
  have l' : Lay G' L0 H' := l'
  refine ⟨G2, e2, L, hs2, ?_, ?_, la.nd⟩
  · intro b hb
    have h1 : b ∉ L.map (·.1) := fun z => by
      obtain ⟨c, hc1, rfl⟩ := List.mem_map.mp z
      exact hb c (List.mem_append_left _ hc1) rfl
    rw [hG2 b h1]
    exact l'.off b fun c hc2 => hb c (List.mem_append_right _ hc2)
  · intro c hc1
    rcases List.mem_append.mp hc1 with z | z
    · refine ⟨?_, hG2n _ (List.mem_map.mpr ⟨c, z, rfl⟩)⟩
      have hn : ∀ c' ∈ L0, c'.1 ≠ c.1 := fun c' hc' q => by
        have nd := la.nd
        rw [List.map_append, List.nodup_append] at nd
        exact nd.2.2 _ (List.mem_map.mpr ⟨c, z, rfl⟩) _ (List.mem_map.mpr ⟨c', hc', rfl⟩) q.symm
      rw [l'.off _ hn]
      exact e _ _ (hc c z)
    · refine ⟨(l'.on c z).1, ?_⟩
      show (if c.1 ∈ L.map (·.1) then none else G' c.1) = none
      split
      · rfl
      · exact (l'.on c z).2
open Classical in
noncomputable def lendR {α : Type} (f : (Nat → V) → Rs α) (ok : α → Bool) : Rs α := if h : ∃ r, (∀ p, f p = r) ∧ (∀ a, r = .ok a → ok a = true) then Classical.choose h else .no
theorem lendR_spec {α : Type} {f : (Nat → V) → Rs α} {ok : α → Bool} : lendR f ok = .no ∨ ((∀ p, f p = lendR f ok) ∧ ∀ a, lendR f ok = .ok a → ok a = true) := by
  unfold lendR
  split
  · rename_i h
    exact .inr (Classical.choose_spec h)
  · exact .inl rfl
theorem lendR_eq {α : Type} {f : (Nat → V) → Rs α} {ok : α → Bool} {r : Rs α} (h : ∀ p, f p = r) (h2 : ∀ a, r = .ok a → ok a = true) : lendR f ok = r := by
  have hx : ∃ r, (∀ p, f p = r) ∧ (∀ a, r = .ok a → ok a = true) := ⟨r, h, h2⟩
  have e : lendR f ok = Classical.choose hx := by unfold lendR; rw [dif_pos hx]
  rw [e, ← (Classical.choose_spec hx).1 (fun _ => V.non), h]
def flatV : Vl → Bool
  | .d d => flatD d
  | _ => false
theorem evx_lend {β : Type} {W : WX} {t : L2.St → Hp → β → Prop} {st : List Sv} {C : Addr} {n : Int} (h : ∀ p, EvXg W t (sls K (pinF [] p 0 st)) C n) (hJ : freeJ [] 0 st = true) : EvXg W t (sls K st) C n := fun {G σ L0 H} Q s q => by
  obtain ⟨G1, p, e1, s1, back⟩ := lend_in (J := []) s hJ
  refine h p Q s1 fun G' H' d e s2 hd => ?_
  obtain ⟨G2, e2, s3⟩ := back G' σ H' st e s2 (backOk_refl rfl)
  exact q G2 H' d e2 s3 hd
theorem freeJ_nil : ∀ {k : Nat} {st : List Sv}, freeJ [] k st = true
  | _, [] => rfl
  | k, s :: r => by
    show ((!([] : List Nat).contains k || ownless s) && freeJ [] (k + 1) r) = true
    rw [freeJ_nil]; rfl
noncomputable def XE.lendA (e : XE K) : XE K := .of e.te (fun st => lendR (fun p => e.ev (pinF [] p 0 st)) flatV) fun md st => by
  rcases lendR_spec (f := fun p => e.ev (pinF [] p 0 st)) (ok := flatV) with h | ⟨h1, h2⟩
  · rw [h]; trivial
  · generalize hr : lendR (fun p => e.ev (pinF [] p 0 st)) flatV = r at h1 h2 ⊢
    cases r with
    | no => trivial
    | ex C n =>
      intro l W w
      exact evx_lend (fun p => by
        have := e.ok md (pinF [] p 0 st)
        rw [h1 p] at this
        exact fun {G σ L0 H} Q s q => this l W w Q s q) freeJ_nil
    | ok a =>
      have hf := h2 a rfl
      cases a with
      | s _ => cases hf
      | i _ _ => cases hf
      | p _ _ => cases hf
      | d x =>
        refine Ev.pure fun {G σ L0 H} Q s q => ?_
        obtain ⟨G1, p, e1, s1, back⟩ := lend_in (J := []) s freeJ_nil
        have hk := e.ok md (pinF [] p 0 st)
        rw [h1 p] at hk
        refine Ev.atp hk s1 fun G' H' v e' s2 r => ?_
        obtain ⟨G2, e2, s3⟩ := back G' σ H' st e' s2 (backOk_refl rfl)
        exact q G2 H' v e2 s3 (flat_dq hf r)
noncomputable def XT.lendA (e : XT K) : XT K where
  tt := e.tt
  ev := fun st => lendR (fun p => e.ev (pinF [] p 0 st)) fun _ => true
  ok := fun md st => by
    rcases lendR_spec (f := fun p => e.ev (pinF [] p 0 st)) (ok := fun _ => true) with h | ⟨h1, h2⟩
    · rw [h]; trivial
    · generalize hr : lendR (fun p => e.ev (pinF [] p 0 st)) (fun _ => true) = r at h1 h2 ⊢
      cases r with
      | no => trivial
      | ex C n =>
        intro l W w
        exact evx_lend (fun p => by
          have := e.ok md (pinF [] p 0 st)
          rw [h1 p] at this
          exact fun {G σ L0 H} Q s q => this l W w Q s q) freeJ_nil
      | ok a =>
        refine ⟨fun {G σ L0 H} Q s q => ?_⟩
        obtain ⟨G1, p, e1, s1, back⟩ := lend_in (J := []) s freeJ_nil
        have hk := e.ok md (pinF [] p 0 st)
        rw [h1 p] at hk
        have hk : EvT _ _ a := hk
        refine hk.run Q s1 fun G' H' e' s2 => ?_
        obtain ⟨G2, e2, s3⟩ := back G' σ H' st e' s2 (backOk_refl rfl)
        exact q G2 H' e2 s3
theorem flat_dqAll {G G' : Hp} : ∀ {vs : List V} {ds : List PyData}, ds.all flatD = true → DqAll G vs ds → DqAll G' vs ds
  | _, _, _, .nil => .nil
  | _, _, h, .cons a b => by
    rw [List.all_cons, Bool.and_eq_true] at h
    exact .cons (flat_dq h.1 a) (flat_dqAll h.2 b)
noncomputable def XN.lendA (e : XN K) : XN K where
  te := e.te
  ev := fun st => lendR (fun p => e.ev (pinF [] p 0 st)) fun ds => ds.all flatD
  ok := fun md st => by
    rcases lendR_spec (f := fun p => e.ev (pinF [] p 0 st)) (ok := fun ds => ds.all flatD) with h | ⟨h1, h2⟩
    · rw [h]; trivial
    · generalize hr : lendR (fun p => e.ev (pinF [] p 0 st)) (fun ds => ds.all flatD) = r at h1 h2 ⊢
      cases r with
      | no => trivial
      | ex C n =>
        intro l W w
        exact evx_lend (fun p => by
          have := e.ok md (pinF [] p 0 st)
          rw [h1 p] at this
          exact fun {G σ L0 H} Q s q => this l W w Q s q) freeJ_nil
      | ok a =>
        refine ⟨fun {G σ L0 H} Q s q => ?_⟩
        obtain ⟨G1, p, e1, s1, back⟩ := lend_in (J := []) s freeJ_nil
        have hk := e.ok md (pinF [] p 0 st)
        rw [h1 p] at hk
        have hk : EvN _ _ a := hk
        refine hk.run Q s1 fun G' H' v vs e' s2 hp hd => ?_
        obtain ⟨G2, e2, s3⟩ := back G' σ H' st e' s2 (backOk_refl rfl)
        exact q G2 H' v vs e2 s3 hp (flat_dqAll (h2 a rfl) hd)
def lendX (J : List Nat) (st : List Sv) (p : Nat → V) (o o' : Oc) : Prop := match o with
  | .nx st' => o' = .nx (pinF J p 0 st') ∧ backOk J 0 st st'
  | .rt a => o' = .rt a
  | .ro w => o' = .ro w
  | .xc st' C n => (∃ s, o' = .xc s C n ∧ s.length = st.length) ∧ st' = List.replicate st.length .x
  | _ => False
open Classical in
noncomputable def lendO (J : List Nat) (st : List Sv) (f : (Nat → V) → Oc) : Oc := if h : ∃ o, ∀ p, lendX J st p o (f p) then Classical.choose h else .no
theorem lendO_spec {J : List Nat} {st : List Sv} {f : (Nat → V) → Oc} : lendO J st f = .no ∨ ∀ p, lendX J st p (lendO J st f) (f p) := by
  unfold lendO
  split
  · rename_i h
    exact .inr (Classical.choose_spec h)
  · exact .inl rfl
noncomputable def XS.lendA (J : List Nat) (s : XS K) : XS K where
  ts := s.ts
  ev := fun st => if freeJ J 0 st = true then lendO J st (fun p => s.ev (pinF J p 0 st)) else .no
  ok := fun md W st w => by
    split
    · rename_i hJ
      rcases lendO_spec (J := J) (st := st) (f := fun p => s.ev (pinF J p 0 st)) with h | h
      · rw [h]; trivial
      · generalize hr : lendO J st (fun p => s.ev (pinF J p 0 st)) = o at h ⊢
        cases o with
        | no => trivial
        | bk _ => exact (h (fun _ => V.non)).elim
        | rw _ _ => exact (h (fun _ => V.non)).elim
        | ct _ => exact (h (fun _ => V.non)).elim
        | rt a =>
          refine ⟨fun {G σ L0 H} D s0 q => ?_⟩
          obtain ⟨G1, p, e1, s1, back⟩ := lend_in (J := J) s0 hJ
          have hk := s.ok md W (pinF J p 0 st) w
          have hp : s.ev (pinF J p 0 st) = .rt a := h p
          rw [hp] at hk
          exact Ex.run hk D s1 (q.mono e1)
        | ro a =>
          refine ⟨fun {G σ L0 H} D s0 q => ?_⟩
          obtain ⟨G1, p, e1, s1, back⟩ := lend_in (J := J) s0 hJ
          have hk := s.ok md W (pinF J p 0 st) w
          have hp : s.ev (pinF J p 0 st) = .ro a := h p
          rw [hp] at hk
          exact Ex.run hk D s1 (q.mono e1)
        | nx st' =>
          refine ⟨fun {G σ L0 H} D s0 q => ?_⟩
          obtain ⟨G1, p, e1, s1, back⟩ := lend_in (J := J) s0 hJ
          have hk := s.ok md W (pinF J p 0 st) w
          obtain ⟨hp, hb⟩ := h p
          rw [hp] at hk
          refine Ex.run hk D s1 fun G' σ' H' e' s2 => ?_
          obtain ⟨G2, e2, s3⟩ := back G' σ' H' st' e' s2 hb
          exact q G2 σ' H' e2 s3
        | xc st' C n =>
          intro l
          refine ⟨fun {G σ L0 H} D s0 q => ?_⟩
          obtain ⟨G1, p, e1, s1, back⟩ := lend_in (J := J) s0 hJ
          have hk := s.ok md W (pinF J p 0 st) w
          obtain ⟨⟨sp, hp, hl⟩, rfl⟩ := h p
          rw [hp] at hk
          refine Ex.run (hk l) D s1 fun G' σ' H' d e' s2 hd => ?_
          obtain ⟨G3, e3, s3⟩ := s2.weak (ρ' := sls K (List.replicate st.length .x)) (wk_of (by rw [sls_len, sls_len, List.length_replicate, hl]) fun j => by
            by_cases hj : j < st.length
            · left
              exact sls_get (K := K) (by rw [List.getElem?_replicate, if_pos hj])
            · right
              rw [List.getElem?_eq_none (by rw [sls_len, hl]; omega), List.getElem?_eq_none (by rw [sls_len, List.length_replicate]; omega)])
          exact q G3 σ' H' d ((e1.trans e').trans e3) s3 hd
    · trivial
end
end R

set_option Elab.async false
set_option linter.all false
set_option maxRecDepth 100000
set_option maxHeartbeats 2000000
namespace Z
open PySem PySem.Spec PyProof.Rows L2
section
variable {K : PySem.W.Frag} {W : WX} {ρ : List Sl} {te tk : TE} {tr : TA} {i : Nat} {α : Type} {pre : α → Prop} {A : α → List Bw} {F : α → Res}
theorem enn_call {E : XK} {dss : List (List PyData)} (x : α) (ha : EvA tr ρ (A x)) (hp : pre x) (hR : F x = .own (oLL dss)) : EvNN (tCall (SpA pre A F) [] E tr) ρ dss := ⟨fun {G σ L0 H} Q s q => ha.at s fun G1 H1 vs L e1 sl la r => by
  refine ⟨x, G1, L ++ L0, hp, la, by rw [List.append_nil]; exact r, ?_⟩
  rw [hR]
  intro G2 H2 a cs e2 l2 ro
  exact q G2 H2 L a cs (e1.trans e2) (sl.up e2) l2 ro⟩
theorem enn_callS {E : L2.St → XK} {dss : List (List PyData)} (x : α) (ha : EvA tr ρ (A x)) (hp : pre x) (hR : F x = .own (oLL dss)) : EvNN (tCallS (SpA pre A F) E tr) ρ dss := ⟨fun {G σ L0 H} Q s q => ha.at s fun G1 H1 vs L e1 sl la r => by
  refine ⟨x, G1, L ++ L0, hp, la, r, ?_⟩
  rw [hR]
  intro G2 H2 a cs e2 l2 ro
  exact q G2 H2 L a cs (e1.trans e2) (sl.up e2) l2 ro⟩
theorem oLL_dq {G : Hp} {a : Addr} {cs : List Cell} {dss : List (List PyData)} (h : (oLL dss).p G a cs) {G' : Hp} (e : Same G G') (hc : ∀ c ∈ cs, G' c.1 = some c.2) : Dq G' (.ref a) (.list (dss.map .list)) := by
  obtain ⟨as, c1, rfl, hN⟩ := h
  exact Dq.lst (hc _ (List.mem_cons_self ..)) (hN.dq G' e fun c k => hc c (List.mem_cons_of_mem _ k))
theorem EvNN.ev {dss : List (List PyData)} (h : EvNN te ρ dss) : Ev te ρ (pu (dat (.list (dss.map .list)))) := Ev.pure fun {G σ L0 H} Q s q => h.run Q s fun G' H' L a cs e sl la hO => by
  obtain ⟨G2, e2, l2, hc⟩ := la.freezeAll
  exact q G2 H' (.ref a) (e.trans e2) ⟨L, sl.up e2, l2⟩ (oLL_dq hO e2 hc)
theorem enn_one {ds : List PyData} (h : EvN te ρ ds) : EvNN (tLst (tCons te tNil)) ρ [ds] := ⟨fun {G σ L0 H} Q s q => h.run _ s fun G1 H1 p vs e1 s1 hp dv => by
  refine ⟨Nat.le_of_lt (small1000 (show (1 : Nat) ≤ 1000 by decide)), fun d hd => ?_⟩
  have g := s1.grow (o := .lst vs) hp
  obtain ⟨L1, sl1, la1⟩ := s1
  have lb : Lay G1 ((p, HO.lst vs) :: (L1 ++ L0)) (upd H1 p (.lst vs)) := la1.cell hp
  have lc : Lay G1 ((d, HO.lst [V.ref p]) :: (p, HO.lst vs) :: (L1 ++ L0)) (upd (upd H1 p (.lst vs)) d (.lst [V.ref p])) := lb.cell hd
  exact q G1 _ L1 d [(d, HO.lst [V.ref p]), (p, HO.lst vs)] e1 sl1 lc ⟨[p], [(p, HO.lst vs)], rfl, .cons dv .nil⟩⟩
end
end Z

set_option Elab.async false
set_option linter.all false
set_option maxRecDepth 100000
set_option maxHeartbeats 2000000
namespace R
open PySem PySem.Spec PyProof.Rows L2 Z
section
variable {K : PySem.W.Frag}
structure FnL where
  m : Nat
  f : List Av → Rs (List (List PyData))
def resL : Rs (List (List PyData)) → Res
  | .ok dss => .own (oLL dss)
  | .ex C n => .err C n
  | .no => .ok (dat .none)
def FnL.sp (K : PySem.W.Frag) (F : FnL) : Sp := SpA (α := {xs : List Av // xs.length = F.m}) (fun x => F.f x.1 ≠ .no) (fun x => x.1.map (bw K)) (fun x => resL (F.f x.1))
def Oc.resL : Oc → Rs (List (List PyData))
  | .ro (.ll dss) => .ok dss
  | .xc _ C n => .ex C n
  | _ => .no
def runXL (s : XS K) (k : Nat) (xs : List Av) : Rs (List (List PyData)) := (s.ev (start xs k)).resL
theorem FnL.run {F : FnL} {vs : List V} {H : Hp} {Q : VK} {E : XK} (s : XS K) (N : List Str) (h : F.sp K vs H Q E) (hs : ∀ xs : List Av, xs.length = F.m → F.f xs ≠ .no → runXL s (N.length - F.m) xs = F.f xs) :
    s.ts (.out E) { nx := fun _ H' => Q .non H', rt := Q } (L2.start N vs) H := by
  refine SpA.goN h N F.m (fun x => by rw [List.length_map]; exact x.2) fun x hp => ?_
  have hx := hs x.1 x.2 hp
  have hk := s.ok (.out E) (WofE E) (start x.1 (N.length - F.m)) rfl
  unfold runXL at hx
  cases he : s.ev (start x.1 (N.length - F.m)) with
  | no => rw [he] at hx; exact absurd hx.symm hp
  | bk _ => rw [he] at hx; exact absurd hx.symm hp
  | ct _ => rw [he] at hx; exact absurd hx.symm hp
  | nx st => rw [he] at hx; exact absurd hx.symm hp
  | rt a => rw [he] at hx; exact absurd hx.symm hp
  | rw s2_ a => rw [he] at hx; exact absurd hx.symm hp
  | ro w =>
    rw [he] at hx hk
    cases w with
    | l _ => exact absurd hx.symm hp
    | ob _ _ => exact absurd hx.symm hp
    | tc _ => exact absurd hx.symm hp
    | ll dss =>
      refine .inr ⟨.own (oLL dss), [], ?_, ex_start hk⟩
      show resL (F.f x.1) = _
      rw [← hx]
      rfl
  | xc st C n =>
    rw [he] at hx hk
    refine .inr ⟨.err C n, _, ?_, ex_start (hk rfl)⟩
    show resL (F.f x.1) = _
    rw [← hx]
    rfl
def XNN.call (F : FnL) (as : XA K) : XNN K where
  te := fun md => callT md (F.sp K) (as.ta md)
  ev := fun st => (as.ev st).bind fun xs => if xs.length = F.m then F.f xs else .no
  ok := fun md st => (as.ok md st).bind (fun C n W h => by
    cases md with
    | out E => exact fun Q s q => h _ s q
    | tr W => exact fun Q s q => h _ s q
    | qu => exact fun Q s q => h _ s q) fun xs h => by
    by_cases hm : xs.length = F.m
    · rw [if_pos hm]
      cases hf : F.f xs with
      | no => trivial
      | ex C n =>
        intro l W w
        have hR : resL (F.f (⟨xs, hm⟩ : {xs : List Av // xs.length = F.m}).1) = .err C n := by show resL (F.f xs) = _; rw [hf]; rfl
        have hp : F.f (⟨xs, hm⟩ : {xs : List Av // xs.length = F.m}).1 ≠ .no := by show F.f xs ≠ _; rw [hf]; exact fun z => nomatch z
        cases md with
        | qu => cases l
        | out E =>
          subst w
          exact fun {G σ L0 H} Q s q => (ex_call (α := {xs : List Av // xs.length = F.m}) (A := fun x => x.1.map (bw K)) (F := fun x => resL (F.f x.1)) (pre := fun x => F.f x.1 ≠ .no) ⟨xs, hm⟩ h hp hR).run Q s q
        | tr W' =>
          subst w
          exact fun {G σ L0 H} Q s q => (ex_callS (α := {xs : List Av // xs.length = F.m}) (A := fun x => x.1.map (bw K)) (F := fun x => resL (F.f x.1)) (pre := fun x => F.f x.1 ≠ .no) ⟨xs, hm⟩ h hp hR).run Q s q
      | ok dss =>
        have hR : resL (F.f (⟨xs, hm⟩ : {xs : List Av // xs.length = F.m}).1) = .own (oLL dss) := by show resL (F.f xs) = _; rw [hf]; rfl
        have hp : F.f (⟨xs, hm⟩ : {xs : List Av // xs.length = F.m}).1 ≠ .no := by show F.f xs ≠ _; rw [hf]; exact fun z => nomatch z
        cases md with
        | out E => exact enn_call (α := {xs : List Av // xs.length = F.m}) (A := fun x => x.1.map (bw K)) (F := fun x => resL (F.f x.1)) (pre := fun x => F.f x.1 ≠ .no) ⟨xs, hm⟩ h hp hR
        | tr W => exact enn_callS (α := {xs : List Av // xs.length = F.m}) (A := fun x => x.1.map (bw K)) (F := fun x => resL (F.f x.1)) (pre := fun x => F.f x.1 ≠ .no) ⟨xs, hm⟩ h hp hR
        | qu => exact enn_call (α := {xs : List Av // xs.length = F.m}) (A := fun x => x.1.map (bw K)) (F := fun x => resL (F.f x.1)) (pre := fun x => F.f x.1 ≠ .no) ⟨xs, hm⟩ h hp hR
    · rw [if_neg hm]; trivial
def XNN.e (a : XNN K) : XE K := .of a.te (fun st => (a.ev st).bind fun dss => .ok (.d (.list (dss.map .list)))) fun md st => (a.ok md st).bind (fun _ _ _ h => h) fun dss h => EvNN.ev h
def XNN.one (n : XN K) : XNN K where
  te := fun md => tLst (tCons (n.te md) tNil)
  ev := fun st => (n.ev st).bind fun ds => .ok [ds]
  ok := fun md st => (n.ok md st).bind (fun C n W h => fun Q s q => h _ s q) fun ds h => enn_one h
end
end R

set_option Elab.async false
set_option linter.all false
set_option maxRecDepth 100000
set_option maxHeartbeats 2000000
namespace R
open PySem PySem.Spec PyProof.Rows L2 Z
section
variable {K : PySem.W.Frag} {α β γ δ τ σ : Type} {st : List Sv}
theorem lend_m {α β : Type} {f : (Nat → V) → Rs α} {ok : α → Bool} {m : Rs β} {e : β → α} (h : ∀ p, Si (f p) m e) (hf : ∀ b, ok (e b) = true) : Si (lendR f ok) m e := by
  cases m with
  | no => trivial
  | ok b => exact lendR_eq (fun p => h p) fun a z => by cases z; exact hf b
  | ex C n => exact lendR_eq (fun p => h p) fun a z => by cases z
theorem sv_lendA {E : En α} {e : XE K} {m : Rs α} {st1 : (Nat → V) → List Sv} (hs : ∀ p, pinF [] p 0 st = st1 p) (h : ∀ p, SV E.v e (st1 p) m) (hf : ∀ a, flatD (E.e a) = true) : SV E.v (.lendA e) st m :=
  lend_m (f := fun p => e.ev (pinF [] p 0 st)) (e := E.v) (fun p => by rw [hs p]; exact h p) hf
theorem st_lendA {e : XT K} {m : Rs Bool} {st1 : (Nat → V) → List Sv} (hs : ∀ p, pinF [] p 0 st = st1 p) (h : ∀ p, ST e (st1 p) m) : ST (.lendA e) st m :=
  lend_m (f := fun p => e.ev (pinF [] p 0 st)) (e := id) (fun p => by rw [hs p]; exact h p) fun _ => rfl
theorem flI : ∀ a, flatD (eI.e a) = true := fun _ => rfl
end
end R
namespace R
open PySem PySem.Spec PyProof.Rows L2 Z
section
variable {K : PySem.W.Frag} {α β : Type} {st : List Sv}
def eSum {α β : Type} (A : En α) (B : En β) : En (Sum α β) := ⟨fun s => match s with
  | .inl a => A.e a
  | .inr b => B.e b⟩
class IsI {α : Type} (A : En α) : Prop where
  i : ∀ a, ∃ n, A.e a = .int n
class IsT {α : Type} (A : En α) : Prop where
  t : ∀ a, ∃ ds, A.e a = .tuple ds
instance : IsI eI := ⟨fun a => ⟨a, rfl⟩⟩
instance {α β : Type} {A : En α} {B : En β} : IsT (eT2 A B) := ⟨fun _ => ⟨_, rfl⟩⟩
instance {α β : Type} {A : En α} {B : En β} [a : EqV A] [b : EqV B] [i : IsI A] [t : IsT B] : EqV (eSum A B) := ⟨fun x y => by
  cases x with
  | inl x =>
    cases y with
    | inl y =>
      show PyData.eqv (A.e x) (A.e y) = true ↔ _
      rw [a.iff]
      exact ⟨fun z => by rw [z], fun z => Sum.inl.inj z⟩
    | inr y =>
      obtain ⟨n, h1⟩ := i.i x
      obtain ⟨ds, h2⟩ := t.t y
      show PyData.eqv (A.e x) (B.e y) = true ↔ _
      rw [h1, h2]
      exact ⟨fun z => (nomatch z), fun z => (nomatch z)⟩
  | inr x =>
    cases y with
    | inl y =>
      obtain ⟨n, h1⟩ := i.i y
      obtain ⟨ds, h2⟩ := t.t x
      show PyData.eqv (B.e x) (A.e y) = true ↔ _
      rw [h1, h2]
      exact ⟨fun z => (nomatch z), fun z => (nomatch z)⟩
    | inr y =>
      show PyData.eqv (B.e x) (B.e y) = true ↔ _
      rw [b.iff]
      exact ⟨fun z => by rw [z], fun z => Sum.inr.inj z⟩⟩
instance {α β : Type} {A : En α} {B : En β} {k l : Nat} [a : ShP A k] [b : ShP B l] : ShP (eSum A B) (k + l) := ⟨fun x => by
  cases x with
  | inl x => exact (a.sh x).up (by omega)
  | inr x => exact (b.sh x).up (by omega)⟩
end
end R

set_option Elab.async false
set_option linter.all false
set_option maxRecDepth 100000
set_option maxHeartbeats 2000000
namespace ZMD
open PySem PySem.Spec PyProof.Rows L2 Z PySem.W
section
variable {X : Cx}
end
end ZMD
namespace R
open PySem PySem.Spec PyProof.Rows L2 Z
section
variable {K : PySem.W.Frag} {α : Type}
end
end R

set_option Elab.async false
set_option linter.all false
set_option maxRecDepth 100000
set_option maxHeartbeats 2000000
namespace Z
open PySem PySem.Spec PyProof.Rows L2
section
variable {K : PySem.W.Frag} {ρ : List Sl} {te ts : TE}
end
end Z
namespace R
open PySem PySem.Spec PyProof.Rows L2 Z
section
variable {K : PySem.W.Frag}
section
variable (g : XG K) (src : XE K) (g1 : XG K) (e : XE K) (vs1 : List Nat) (st : List Sv)
end
variable {α β γ : Type} {st : List Sv}
end
end R
namespace R
open PySem PySem.Spec PyProof.Rows L2 Z
section
variable {K : PySem.W.Frag} {β : Type} {st : List Sv}
end
end R

set_option Elab.async false
set_option linter.all false
set_option maxRecDepth 100000
set_option maxHeartbeats 2000000
namespace ZST
open PySem PySem.Calls PySem.Spec PyProof.Rows PySem.W L2
section
variable {prog : Program} {w : World} {A : Around} {E : Value → Shared → Prop} {s : Shared}
end
section
variable {X : Cx}
open ZD
def rSortT (K : PySem.W.Frag) : List V → Hp → VK → Prop := fun vs H Q => ∃ (a : Addr) (xs : List V) (ds : List PyData) (P : V → PyData → Prop), vs = [V.ref a] ∧ SqT K H a xs ∧ EachIs P xs ds ∧ (∀ x d, P x d → L2.Dp K H x d) ∧ (∀ d ∈ ds, d.depth ≤ 60) ∧ AllAlike ds ∧ Sortable ds ∧
  ∀ (ys : List V) (p : Addr), EachIs P ys (ds.mergeSort (dataLe false id)) → H p = none → Q (.ref p) (upd H p (.lst ys))
end
end ZST
namespace R
open PySem PySem.Spec PyProof.Rows L2 Z
section
variable {K : PySem.W.Frag} {α : Type}
def BiN.sortT : BiN K where
  r := ZST.rSortT K
  f := fun as => match as with
    | [.v (.d (.tuple ds))] => if sortB ds = true then some (ds.mergeSort (PySem.W.dataLe false id)) else none
    | _ => none
  ok := fun as z h => by
    split at h
    · split at h
      · rename_i ds hc
        cases h
        obtain ⟨k1, k2, k3⟩ := sortB_ok hc
        exact fun G H L vs Q l r q => by
          cases r with
          | cons h1 t =>
            cases t
            have h1 : Dq G _ (.tuple ds) := h1
            cases h1 with
            | @tup a ys _ hH hd => exact ⟨a, ys, ds, fun v d => Dq G v d, rfl, .inl (.inl (l.same _ _ hH)), each_dq hd, fun x d hx => dq_dp (dp_up l.same hx), k1, k2, k3, fun zs p hz hp => q p zs hp (dq_each hz)⟩
      · cases h
    · cases h
end
end R

set_option Elab.async false
set_option linter.all false
set_option maxRecDepth 100000
set_option maxHeartbeats 2000000
namespace R
open PySem PySem.Spec PyProof.Rows L2 Z
section
variable {K : PySem.W.Frag}
variable {γ : Type} {st : List Sv}
end
end R

set_option Elab.async false
set_option linter.all false
set_option maxRecDepth 100000
set_option maxHeartbeats 2000000
namespace R
open PySem PySem.Spec PyProof.Rows L2 Z
section
variable {K : PySem.W.Frag} {α γ : Type} {st : List Sv}
end
end R

set_option Elab.async false
set_option linter.all false
set_option maxRecDepth 100000
set_option maxHeartbeats 2000000
namespace R
open PySem PySem.Spec PyProof.Rows L2 Z
section
variable {K : PySem.W.Frag}
end
end R

set_option Elab.async false
set_option linter.all false
set_option maxRecDepth 100000
set_option maxHeartbeats 2000000
namespace Z
open PySem PySem.Spec PyProof.Rows L2
section
variable {K : PySem.W.Frag} {W : WX} {ρ : List Sl} {te tk : TE} {i : Nat} {C : Addr} {oa : Option Addr} {fs : List (Str × Fv)} {f : Str}
end
end Z
namespace R
open PySem PySem.Spec PyProof.Rows L2 Z
section
variable {K : PySem.W.Frag}
structure FnW where
  m : Nat
  f : List (Str × Fv) → List Av → Rs (Vl × List (Str × Fv))
def resW (K : PySem.W.Frag) (C a : Addr) (Q : VK) (E : XK) (G : Hp) (L : List Cell) (fs : List (Str × Fv)) : Rs (Vl × List (Str × Fv)) → Prop
  | .ok r => ∀ G' H' dx fv ks u, Same G G' → Lay G' (((a, HO.ins C dx fv) :: ks) ++ L) H' → FldsW G' fv r.2 ks → (vr K r.1).p G' u → Q u H'
  | .ex D n => ∀ G' H' dx fv ks d, Same G G' → Lay G' (((a, HO.ins C dx fv) :: ks) ++ L) H' → FldsW G' fv fs ks → H' d = none → E (.ref D) (some d) (upd H' d (atF n))
  | .no => True
def FnW.sp (K : PySem.W.Frag) (C : Addr) (F : FnW) : Sp := fun vs H Q E => ∃ fs xs G L a ws dx fv ks, F.f fs xs ≠ .no ∧ xs.length = F.m ∧ vs = V.ref a :: ws ∧ FldsW G fv fs ks ∧ Lay G (((a, HO.ins C dx fv) :: ks) ++ L) H ∧ AllB G L ws (xs.map (bw K)) ∧ resW K C a Q E G L fs (F.f fs xs)
theorem FnW.len {F : FnW} {C : Addr} : ∀ vs H Q E, F.sp K C vs H Q E → vs.length = F.m + 1 := fun vs H Q E ⟨fs, xs, G, L, a, ws, dx, fv, ks, _, hm, e, _, _, al, _⟩ => by
  rw [e, List.length_cons, allB_len al, List.length_map, hm]
def startW (C a : Addr) (fs : List (Str × Fv)) (xs : List Av) (k : Nat) : List Sv := .ob C (some a) fs :: start xs k
open Classical in
noncomputable def Oc.resW (C a : Addr) (fs : List (Str × Fv)) : Oc → Rs (Vl × List (Str × Fv))
  | .nx st => match st[(0 : Nat)]? with
    | some (.ob C' oa fs') => if C' = C ∧ oa = some a then .ok (.d .none, fs') else .no
    | _ => .no
  | .rw st v => match st[(0 : Nat)]? with
    | some (.ob C' oa fs') => if C' = C ∧ oa = some a then .ok (v, fs') else .no
    | _ => .no
  | .xc st D n => match st[(0 : Nat)]? with
    | some (.ob C' oa fs') => if C' = C ∧ oa = some a ∧ fs' = fs then .ex D n else .no
    | _ => .no
  | _ => .no
noncomputable def runW (s : XS K) (C a : Addr) (k : Nat) (fs : List (Str × Fv)) (xs : List Av) : Rs (Vl × List (Str × Fv)) := (s.ev (startW C a fs xs k)).resW C a fs
theorem stt_end {G H : Hp} {ρ : List Sl} {σ : L2.St} {L0 : List Cell} {C a : Addr} {fs : List (Str × Fv)} (s : Stt G ρ σ L0 H) (h0 : ρ[(0 : Nat)]? = some (.o (oW C (some a) fs))) :
    ∃ G2 dx fv ks, Same G G2 ∧ Lay G2 (((a, HO.ins C dx fv) :: ks) ++ L0) H ∧ FldsW G2 fv fs ks := by
  obtain ⟨a', dx, fv, ks, M, e, hH, hf, la, ha, _⟩ := stt_obj s h0
  have e1 := ha a rfl
  subst e1
  have l2 : Lay G (M ++ (((a', HO.ins C dx fv) :: ks) ++ L0)) H := la.perm (perm_swap _ _ _)
  obtain ⟨G2, e2, l3, _⟩ := l2.freezeAll
  exact ⟨G2, dx, fv, ks, e2, l3, hf.up e2⟩
theorem FnW.run {F : FnW} {C : Addr} {vs : List V} {H : Hp} {Q : VK} {E : XK} (s : XS K) (N : List Str) (h : F.sp K C vs H Q E) (hs : ∀ (fs : List (Str × Fv)) (xs : List Av), xs.length = F.m → F.f fs xs ≠ .no → ∀ a, runW s C a (N.length - (F.m + 1)) fs xs = F.f fs xs) :
    s.ts (.out E) { nx := fun _ H' => Q .non H', rt := Q } (L2.start N vs) H := by
  obtain ⟨fs, xs, G, L, a, ws, dx, fv, ks, hp, hm, rfl, hf, la, al, r⟩ := h
  have hx := hs fs xs hm hp a
  have hk := s.ok (.out E) (WofE E) (startW C a fs xs (N.length - (F.m + 1))) rfl
  unfold runW at hx
  have hl : ws.length = F.m := by rw [allB_len al, List.length_map, hm]
  have sl : Slots G L (L2.start N (V.ref a :: ws)) (sls K (startW C a fs xs (N.length - (F.m + 1)))) (((a, HO.ins C dx fv) :: ks) ++ []) := by
    unfold L2.start
    rw [List.length_cons, hl]
    show Slots G L _ (Sl.o (oW C (some a) fs) :: sls K (start xs _)) _
    exact .o (O := oW C (some a) fs) (cs := (a, HO.ins C dx fv) :: ks) ⟨fun a' e => by cases e; rfl, dx, fv, ks, rfl, hf⟩ (slots_b (slots_start _ al))
  have st : Stt G (sls K (startW C a fs xs (N.length - (F.m + 1)))) (L2.start N (V.ref a :: ws)) L H := ⟨_, sl, by rw [List.append_nil]; exact la⟩
  generalize startW C a fs xs (N.length - (F.m + 1)) = st0_ at hx hk st
  cases he : s.ev st0_ with
  | no => rw [he] at hx; exact absurd hx.symm hp
  | bk _ => rw [he] at hx; exact absurd hx.symm hp
  | ct _ => rw [he] at hx; exact absurd hx.symm hp
  | rt _ => rw [he] at hx; exact absurd hx.symm hp
  | ro _ => rw [he] at hx; exact absurd hx.symm hp
  | nx s1 =>
    rw [he] at hx hk
    simp only [Oc.resW] at hx
    cases h0 : s1[(0 : Nat)]? with
    | none => rw [h0] at hx; exact absurd hx.symm hp
    | some sv =>
      rw [h0] at hx
      cases sv with
      | ob C' oa fs' =>
        simp only at hx
        by_cases hc : C' = C ∧ oa = some a
        · rw [if_pos hc] at hx
          obtain ⟨rfl, rfl⟩ := hc
          rw [← hx] at r
          refine Ex.run hk _ st fun G' σ' H' e s' => ?_
          obtain ⟨G2, dx', fv', ks', e2, l2, hf2⟩ := stt_end s' (sls_get (K := K) h0)
          exact r G2 H' dx' fv' ks' .non (e.trans e2) l2 hf2 Dq.non
        · rw [if_neg hc] at hx; exact absurd hx.symm hp
      | _ => exact absurd hx.symm hp
  | rw s1 v =>
    rw [he] at hx hk
    simp only [Oc.resW] at hx
    cases h0 : s1[(0 : Nat)]? with
    | none => rw [h0] at hx; exact absurd hx.symm hp
    | some sv =>
      rw [h0] at hx
      cases sv with
      | ob C' oa fs' =>
        simp only at hx
        by_cases hc : C' = C ∧ oa = some a
        · rw [if_pos hc] at hx
          obtain ⟨rfl, rfl⟩ := hc
          rw [← hx] at r
          refine Ex.run hk _ st fun G' σ' H' u e s' ru => ?_
          obtain ⟨G2, dx', fv', ks', e2, l2, hf2⟩ := stt_end s' (sls_get (K := K) h0)
          exact r G2 H' dx' fv' ks' u (e.trans e2) l2 hf2 ((vr K v).up e2 ru)
        · rw [if_neg hc] at hx; exact absurd hx.symm hp
      | _ => exact absurd hx.symm hp
  | xc s1 D n =>
    rw [he] at hx hk
    simp only [Oc.resW] at hx
    cases h0 : s1[(0 : Nat)]? with
    | none => rw [h0] at hx; exact absurd hx.symm hp
    | some sv =>
      rw [h0] at hx
      cases sv with
      | ob C' oa fs' =>
        simp only at hx
        by_cases hc : C' = C ∧ oa = some a ∧ fs' = fs
        · rw [if_pos hc] at hx
          obtain ⟨rfl, rfl, rfl⟩ := hc
          rw [← hx] at r
          refine Ex.run (hk rfl) _ st fun G' σ' H' d e s' hd => ?_
          obtain ⟨G2, dx', fv', ks', e2, l2, hf2⟩ := stt_end s' (sls_get (K := K) h0)
          exact r G2 H' dx' fv' ks' d (e.trans e2) l2 hf2 hd
        · rw [if_neg hc] at hx; exact absurd hx.symm hp
      | _ => exact absurd hx.symm hp
structure EvW (te : TE) (ρ : List Sl) (R : Rp) (ρ' : List Sl) : Prop where
  run : ∀ {G : Hp} {σ : L2.St} {L0 : List Cell} {H : Hp} (Q : VK), Stt G ρ σ L0 H → (∀ G' H' v, Same G G' → Stt G' ρ' σ L0 H' → R.p G' v → Q v H') → te σ H Q
structure XW (K : PySem.W.Frag) where
  te : Md → TE
  ev : List Sv → Rs (Vl × List Sv)
  ok : ∀ md st, Cm md (te md) (sls K st) (fun r => EvW (te md) (sls K st) (vr K r.1) (sls K r.2)) (ev st)
def allVb (xs : List Av) : Bool := xs.all fun x => match x with
  | .v _ => true
  | _ => false
theorem allB_any {G : Hp} {L L' : List Cell} : ∀ {xs : List Av} {vs : List V}, allVb xs = true → AllB G L vs (xs.map (bw K)) → AllB G L' vs (xs.map (bw K))
  | [], _, _, .nil => .nil
  | .v a :: xs, _, h, .cons q t => .cons q (allB_any (by unfold allVb at h ⊢; rw [List.all_cons, Bool.and_eq_true] at h; exact h.2) t)
  | .l _ :: xs, _, h, _ => by unfold allVb at h; rw [List.all_cons] at h; simp at h
  | .o _ _ :: xs, _, h, _ => by unfold allVb at h; rw [List.all_cons] at h; simp at h
def obM (C : Addr) (m : Str) : Option Sv → Option (Option Addr × List (Str × Fv))
  | some (.ob C' oa fs) => if C' = C ∧ (fs.lookup m).isNone = true then some (oa, fs) else none
  | _ => none
theorem obM_some {C : Addr} {m : Str} {o : Option Sv} {p : Option Addr × List (Str × Fv)} (h : obM C m o = some p) : o = some (.ob C p.1 p.2) ∧ p.2.lookup m = none := by
  unfold obM at h
  split at h
  · split at h
    · rename_i hc
      obtain ⟨rfl, h2⟩ := hc
      cases h
      exact ⟨rfl, Option.isNone_iff_eq_none.mp h2⟩
    · cases h
  · cases h
theorem sp_at {F : FnW} {C : Addr} {i : Nat} {ρ : List Sl} {oa : Option Addr} {fs : List (Str × Fv)} {xs : List Av} {G H : Hp} {σ : L2.St} {L0 : List Cell} {vs : List V} {Q : VK} {E : XK} {r : Rs (Vl × List (Str × Fv))} (hF : F.f fs xs = r) (hr : r ≠ .no) (hm : xs.length = F.m) (hv : allVb xs = true)
    (s : Stt G ρ σ L0 H) (hi : ρ[i]? = some (.o (oW C oa fs))) (al : ∀ L', AllB G L' vs (xs.map (bw K)))
    (q : match r with
      | .ok p => ∀ G' H' u, Same G G' → Stt G' (ρ.set i (.o (oW C oa p.2))) σ L0 H' → (vr K p.1).p G' u → Q u H'
      | .ex D n => ∀ G' H' d, Same G G' → Stt G' ρ σ L0 H' → H' d = none → E (.ref D) (some d) (upd H' d (atF n))
      | .no => True) : ∃ a, σ[i]? = some (some (.ref a)) ∧ F.sp K C (V.ref a :: vs) H Q E := by
  obtain ⟨a, dx, fv, ks, M, e, hH, hf, la, ha, back⟩ := stt_obj s hi
  refine ⟨a, e, fs, xs, G, M ++ L0, a, vs, dx, fv, ks, by rw [hF]; exact hr, hm, rfl, hf, la, al _, ?_⟩
  rw [hF]
  cases r with
  | no => trivial
  | ok p =>
    intro G' H' dx' fv' ks' u e' l' hf' ru
    obtain ⟨G2, e2, s2⟩ := back G' H' p.2 dx' fv' ks' [] e' l' hf'
    exact q G2 H' u (e'.trans e2) s2 ((vr K p.1).up e2 ru)
  | ex D n =>
    intro G' H' dx' fv' ks' d e' l' hf' hd
    obtain ⟨G2, e2, s2⟩ := back G' H' fs dx' fv' ks' [] e' l' hf'
    rw [set_back hi] at s2
    exact q G2 H' d (e'.trans e2) s2 hd
theorem methW_in {md : Md} {C : Addr} {m : Str} {sp : Sp} {i : Nat} {t : TA} {ρ : List Sl} {oa : Option Addr} {fs : List (Str × Fv)} (hi : ρ[i]? = some (.o (oW C oa fs))) (hm : fs.lookup m = none) :
    ∀ {G : Hp} {σ : L2.St} {L0 : List Cell} {H : Hp} (Q : VK), Stt G ρ σ L0 H →
      (∀ a E, σ[i]? = some (some (.ref a)) → (∀ cls d H', md.loud = true → ∀ W, md.fits W → W cls d σ H' → E cls d H') → t σ H fun vs H2 => sp (V.ref a :: vs) H2 Q E) → methT md C m sp (tVar i) t σ H Q := by
  intro G σ L0 H Q s q
  obtain ⟨a, dx, fv, ks, M, e, hH, hf, la, ha, back⟩ := stt_obj s hi
  cases md with
  | out E => exact ⟨_, e, a, dx, fv, rfl, hH, hf.no hm, by simpa only [List.append_nil] using q a E e (fun cls d H' _ W w h => by subst w; exact h)⟩
  | tr W' => exact ⟨_, e, a, dx, fv, rfl, hH, hf.no hm, q a (WE W' σ) e (fun cls d H' _ W w h => by subst w; exact h)⟩
  | qu => exact ⟨_, e, a, dx, fv, rfl, hH, hf.no hm, by simpa only [List.append_nil] using q a (fun _ _ _ => False) e (fun cls d H' l => nomatch l)⟩
def XW.meth (C : Addr) (m : Str) (F : FnW) (i : Nat) (as : XA K) : XW K where
  te := fun md => methT md C m (F.sp K C) (tVar i) (as.ta md)
  ev := fun st => match obM C m st[i]? with
    | some p => (as.ev st).bind fun xs => if xs.length = F.m ∧ allVb xs = true then (F.f p.2 xs).bind fun r => .ok (r.1, st.set i (.ob C p.1 r.2)) else .no
    | none => .no
  ok := fun md st => by
    cases h : obM C m st[i]? with
    | none => trivial
    | some p =>
      obtain ⟨hs, hm⟩ := obM_some h
      have hi := sls_get (K := K) hs
      refine (as.ok md st).bind (fun D n W h => fun {G σ L0 H} Q s q => methW_in hi hm Q s fun a E e hE => h _ s q) fun xs hx => ?_
      split
      · rename_i hc
        cases hF : F.f p.2 xs with
        | no => trivial
        | ok r =>
          show EvW _ _ _ (sls K (st.set i _))
          rw [sls_set]
          exact ⟨fun {G σ L0 H} Q s q => methW_in hi hm Q s fun a E e hE => hx.run _ s fun G1 H1 vs e1 s1 r1 => by
            obtain ⟨L, sl, la⟩ := id s1
            have al := r1 G1 L H1 (Same.refl _) sl la
            obtain ⟨a', e', hsp⟩ := sp_at (Q := Q) (E := E) hF (fun z => nomatch z) hc.1 hc.2 s1 hi (fun L' => allB_any hc.2 al) (fun G' H' u e2 s2 ru => q G' H' u (e1.trans e2) s2 ru)
            rw [e] at e'
            injection e' with e'; injection e' with e'; injection e' with e'
            subst e'
            exact hsp⟩
        | ex D n =>
          intro l W w G σ L0 H Q s q
          exact methW_in hi hm Q s fun a E e hE => hx.run _ s fun G1 H1 vs e1 s1 r1 => by
            obtain ⟨L, sl, la⟩ := id s1
            have al := r1 G1 L H1 (Same.refl _) sl la
            obtain ⟨a', e', hsp⟩ := sp_at (Q := Q) (E := E) hF (fun z => nomatch z) hc.1 hc.2 s1 hi (fun L' => allB_any hc.2 al) (fun G' H' d e2 s2 hd => hE _ _ _ l W w (q G' H' d (e1.trans e2) s2 hd))
            rw [e] at e'
            injection e' with e'; injection e' with e'; injection e' with e'
            subst e'
            exact hsp
      · trivial
theorem callW_in {md : Md} {sp : Sp} {i : Nat} {t : TA} {ρ : List Sl} {C : Addr} {oa : Option Addr} {fs : List (Str × Fv)} (hi : ρ[i]? = some (.o (oW C oa fs))) :
    ∀ {G : Hp} {σ : L2.St} {L0 : List Cell} {H : Hp} (Q : VK), Stt G ρ σ L0 H →
      (∀ a E, σ[i]? = some (some (.ref a)) → (∀ cls d H', md.loud = true → ∀ W, md.fits W → W cls d σ H' → E cls d H') → t σ H fun vs H2 => sp (V.ref a :: vs) H2 Q E) → callT md sp (tCons (tVar i) t) σ H Q := by
  intro G σ L0 H Q s q
  obtain ⟨a, dx, fv, ks, M, e, hH, hf, la, ha, back⟩ := stt_obj s hi
  cases md with
  | out E => exact ⟨_, e, by simpa only [List.append_nil] using q a E e (fun cls d H' _ W w h => by subst w; exact h)⟩
  | tr W' => exact ⟨_, e, q a (WE W' σ) e (fun cls d H' _ W w h => by subst w; exact h)⟩
  | qu => exact ⟨_, e, by simpa only [List.append_nil] using q a (fun _ _ _ => False) e (fun cls d H' l => nomatch l)⟩
def XW.call (C : Addr) (F : FnW) (i : Nat) (as : XA K) : XW K where
  te := fun md => callT md (F.sp K C) (tCons (tVar i) (as.ta md))
  ev := fun st => match obM C ("" : Str) st[i]? with
    | some p => (as.ev st).bind fun xs => if xs.length = F.m ∧ allVb xs = true then (F.f p.2 xs).bind fun r => .ok (r.1, st.set i (.ob C p.1 r.2)) else .no
    | none => .no
  ok := fun md st => by
    cases h : obM C ("" : Str) st[i]? with
    | none => trivial
    | some p =>
      obtain ⟨hs, hm⟩ := obM_some h
      have hi := sls_get (K := K) hs
      refine (as.ok md st).bind (fun D n W h => fun {G σ L0 H} Q s q => callW_in hi Q s fun a E e hE => h _ s q) fun xs hx => ?_
      split
      · rename_i hc
        cases hF : F.f p.2 xs with
        | no => trivial
        | ok r =>
          show EvW _ _ _ (sls K (st.set i _))
          rw [sls_set]
          exact ⟨fun {G σ L0 H} Q s q => callW_in hi Q s fun a E e hE => hx.run _ s fun G1 H1 vs e1 s1 r1 => by
            obtain ⟨L, sl, la⟩ := id s1
            have al := r1 G1 L H1 (Same.refl _) sl la
            obtain ⟨a', e', hsp⟩ := sp_at (Q := Q) (E := E) hF (fun z => nomatch z) hc.1 hc.2 s1 hi (fun L' => allB_any hc.2 al) (fun G' H' u e2 s2 ru => q G' H' u (e1.trans e2) s2 ru)
            rw [e] at e'
            injection e' with e'; injection e' with e'; injection e' with e'
            subst e'
            exact hsp⟩
        | ex D n =>
          intro l W w G σ L0 H Q s q
          exact callW_in hi Q s fun a E e hE => hx.run _ s fun G1 H1 vs e1 s1 r1 => by
            obtain ⟨L, sl, la⟩ := id s1
            have al := r1 G1 L H1 (Same.refl _) sl la
            obtain ⟨a', e', hsp⟩ := sp_at (Q := Q) (E := E) hF (fun z => nomatch z) hc.1 hc.2 s1 hi (fun L' => allB_any hc.2 al) (fun G' H' d e2 s2 hd => hE _ _ _ l W w (q G' H' d (e1.trans e2) s2 hd))
            rw [e] at e'
            injection e' with e'; injection e' with e'; injection e' with e'
            subst e'
            exact hsp
      · trivial
end
end R

set_option Elab.async false
set_option linter.all false
set_option maxRecDepth 100000
set_option maxHeartbeats 2000000
namespace R
open PySem PySem.Spec PyProof.Rows L2 Z
section
variable {K : PySem.W.Frag}
theorem Ex.extend {te : TE} {ρ : List Sl} {W : WX} {i : Nat} {ds es : List PyData} {T : String} (hi : ρ[i]? = some (.o (oL ds))) (he : Ev te ρ (bL es)) (hz : ds.length + es.length < 1000000) (hT : T = "list") : Ex W (tDrop (tBM K T rExtend (tVar i) (tCons te tNil))) ρ (.nx (ρ.set i (.o (oL (ds ++ es))))) := ⟨fun {G σ L0 H} D s q => by
  obtain ⟨a, cs, e, ⟨vs, hcs, hd⟩, hh, _⟩ := s.get_o hi
  subst hcs
  refine ⟨_, e, .inl ⟨hT, vs, .inl (.inl (hh _ (List.mem_cons_self ..)))⟩, ?_⟩
  refine he.at s fun G1 H1 v L1 e1 s1 sl1 la1 r => ?_
  obtain ⟨b, zs, rfl, hb, dz⟩ := bl_sq la1 r
  obtain ⟨a', cs', e', ⟨vs', hcs', hd'⟩, hh', k1, _⟩ := s1.get_o hi
  rw [e] at e'
  injection e' with e'; injection e' with e'; injection e' with e'
  subst e' hcs'
  refine ⟨a, b, vs', zs, rfl, rfl, hh' _ (List.mem_cons_self ..), hb, ?_, ?_⟩
  · rw [dpAll_len hd', dpAll_len dz]; exact Nat.le_of_lt (Nat.lt_trans hz (by decide))
  · exact q G1 _ _ e1 (k1 (oL (ds ++ es)) [(a, .lst (vs' ++ zs))] _ ⟨_, rfl, dpAll_app hd' dz⟩ fun M l => l.store)⟩
theorem Ex.extendX {te : TE} {ρ : List Sl} {W : WX} {i : Nat} {ds : List PyData} {C : Addr} {n : Int} {T : String} (hi : ρ[i]? = some (.o (oL ds))) (h : EvX W te ρ C n) (hT : T = "list") : Ex W (tDrop (tBM K T rExtend (tVar i) (tCons te tNil))) ρ (.xc ρ C n) := ⟨fun {G σ L0 H} D s q => by
  obtain ⟨a, cs, e, ⟨vs, hcs, hd⟩, hh, _⟩ := s.get_o hi
  subst hcs
  exact ⟨_, e, .inl ⟨hT, vs, .inl (.inl (hh _ (List.mem_cons_self ..)))⟩, h.run _ s fun G' H' d e' s' hd => q G' _ H' d e' s' hd⟩⟩
def XS.ext (i : Nat) (e : XE K) : XS K where
  ts := fun md => tDrop (tBM K "list" rExtend (tVar i) (tCons (e.te md) tNil))
  ev := fun st => match st[i]? with
    | some (.ol ds) => (e.av true st).oc st fun a => match a with
      | .l es => if ds.length + es.length < 1000000 then .nx (st.set i (.ol (ds ++ es))) else .no
      | _ => .no
    | _ => .no
  ok := fun md W st w => by
    split
    · rename_i ds hi
      refine oc_ok w (e.av_ok true md st) (fun C n h => Ex.extendX (sls_get (K := K) hi) ⟨h⟩ rfl) fun a h => ?_
      split
      · rename_i es
        split
        · show Ex _ _ _ (.nx (sls K (st.set i _)))
          rw [sls_set]
          exact Ex.extend (sls_get (K := K) hi) h (by assumption) rfl
        · trivial
      · trivial
    · trivial
structure FnIW where
  m : Nat
  f : List Av → Rs (List (Str × Fv))
def resIW (C a : Addr) (Q : VK) (E : XK) (G : Hp) (L : List Cell) : Rs (List (Str × Fv)) → Prop
  | .ok fs => ∀ G' H' dx fv ks, Same G G' → Lay G' (((a, HO.ins C dx fv) :: ks) ++ L) H' → FldsW G' fv fs ks → Q .non H'
  | .ex D n => ∀ G' H' d, Same G G' → Lay G' L H' → H' d = none → E (.ref D) (some d) (upd H' d (atF n))
  | .no => True
def FnIW.sp (K : PySem.W.Frag) (C : Addr) (F : FnIW) : Sp := fun vs H Q E => ∃ xs G L a dx ws, F.f xs ≠ .no ∧ xs.length = F.m ∧ vs = V.ref a :: ws ∧ Lay G ((a, HO.ins C dx []) :: L) H ∧ AllB G L ws (xs.map (bw K)) ∧ resIW C a Q E G L (F.f xs)
theorem FnIW.len {F : FnIW} {C : Addr} : ∀ vs H Q E, F.sp K C vs H Q E → vs.length = F.m + 1 := fun vs H Q E ⟨xs, G, L, a, dx, ws, _, hm, e, _, al, _⟩ => by
  rw [e, List.length_cons, allB_len al, List.length_map, hm]
def Oc.resIW (C a : Addr) : Oc → Rs (List (Str × Fv))
  | .nx st => match st[(0 : Nat)]? with
    | some (.ob C' oa fs') => if C' = C ∧ oa = some a then .ok fs' else .no
    | _ => .no
  | .xc _ D n => .ex D n
  | _ => .no
def runIW (s : XS K) (C a : Addr) (k : Nat) (xs : List Av) : Rs (List (Str × Fv)) := (s.ev (startW C a [] xs k)).resIW C a
theorem FnIW.run {F : FnIW} {C : Addr} {vs : List V} {H : Hp} {Q : VK} {E : XK} (s : XS K) (N : List Str) (h : F.sp K C vs H Q E) (hs : ∀ (xs : List Av), xs.length = F.m → F.f xs ≠ .no → ∀ a, runIW s C a (N.length - (F.m + 1)) xs = F.f xs) :
    s.ts (.out E) { nx := fun _ H' => Q .non H', rt := Q } (L2.start N vs) H := by
  obtain ⟨xs, G, L, a, dx, ws, hp, hm, rfl, la, al, r⟩ := h
  have hx := hs xs hm hp a
  have hk := s.ok (.out E) (WofE E) (startW C a [] xs (N.length - (F.m + 1))) rfl
  unfold runIW at hx
  have hl : ws.length = F.m := by rw [allB_len al, List.length_map, hm]
  have sl : Slots G L (L2.start N (V.ref a :: ws)) (sls K (startW C a [] xs (N.length - (F.m + 1)))) ([(a, HO.ins C dx [])] ++ []) := by
    unfold L2.start
    rw [List.length_cons, hl]
    show Slots G L _ (Sl.o (oW C (some a) []) :: sls K (start xs _)) _
    exact .o (O := oW C (some a) []) (cs := [(a, HO.ins C dx [])]) ⟨fun a' e => by cases e; rfl, dx, [], [], rfl, .nil⟩ (slots_b (slots_start _ al))
  have st : Stt G (sls K (startW C a [] xs (N.length - (F.m + 1)))) (L2.start N (V.ref a :: ws)) L H := ⟨_, sl, by rw [List.append_nil]; exact la⟩
  generalize startW C a [] xs (N.length - (F.m + 1)) = st0_ at hx hk st
  cases he : s.ev st0_ with
  | no => rw [he] at hx; exact absurd hx.symm hp
  | bk _ => rw [he] at hx; exact absurd hx.symm hp
  | ct _ => rw [he] at hx; exact absurd hx.symm hp
  | rt _ => rw [he] at hx; exact absurd hx.symm hp
  | rw _ _ => rw [he] at hx; exact absurd hx.symm hp
  | ro _ => rw [he] at hx; exact absurd hx.symm hp
  | nx s1 =>
    rw [he] at hx hk
    simp only [Oc.resIW] at hx
    cases h0 : s1[(0 : Nat)]? with
    | none => rw [h0] at hx; exact absurd hx.symm hp
    | some sv =>
      rw [h0] at hx
      cases sv with
      | ob C' oa fs' =>
        simp only at hx
        by_cases hc : C' = C ∧ oa = some a
        · rw [if_pos hc] at hx
          obtain ⟨rfl, rfl⟩ := hc
          rw [← hx] at r
          refine Ex.run hk _ st fun G' σ' H' e s' => ?_
          obtain ⟨G2, dx', fv', ks', e2, l2, hf2⟩ := stt_end s' (sls_get (K := K) h0)
          exact r G2 H' dx' fv' ks' (e.trans e2) l2 hf2
        · rw [if_neg hc] at hx; exact absurd hx.symm hp
      | _ => exact absurd hx.symm hp
  | xc s1 D n =>
    rw [he] at hx hk
    simp only [Oc.resIW] at hx
    rw [← hx] at r
    refine Ex.run (hk rfl) _ st fun G' σ' H' d e s' hd => ?_
    obtain ⟨G2, e2, l2⟩ := s'.fin
    exact r G2 H' d (e.trans e2) l2 hd
structure FnOb where
  m : Nat
  f : List Av → Rs (List (Str × Fv))
def resOb (K : PySem.W.Frag) (C : Addr) : Rs (List (Str × Fv)) → Res
  | .ok fs => .own (oW C none fs)
  | .ex D n => .err D n
  | .no => .ok (dat .none)
def FnOb.sp (K : PySem.W.Frag) (C : Addr) (F : FnOb) : Sp := SpA (α := {xs : List Av // xs.length = F.m}) (fun x => F.f x.1 ≠ .no) (fun x => x.1.map (bw K)) (fun x => resOb K C (F.f x.1))
def Oc.resOb (C : Addr) : Oc → Rs (List (Str × Fv))
  | .ro (.ob C' fs) => if C' = C then .ok fs else .no
  | .xc _ D n => .ex D n
  | _ => .no
def runOb (s : XS K) (C : Addr) (k : Nat) (xs : List Av) : Rs (List (Str × Fv)) := (s.ev (start xs k)).resOb C
theorem FnOb.run {F : FnOb} {C : Addr} {vs : List V} {H : Hp} {Q : VK} {E : XK} (s : XS K) (N : List Str) (h : F.sp K C vs H Q E) (hs : ∀ xs : List Av, xs.length = F.m → F.f xs ≠ .no → runOb s C (N.length - F.m) xs = F.f xs) :
    s.ts (.out E) { nx := fun _ H' => Q .non H', rt := Q } (L2.start N vs) H := by
  refine SpA.goN h N F.m (fun x => by rw [List.length_map]; exact x.2) fun x hp => ?_
  have hx := hs x.1 x.2 hp
  have hk := s.ok (.out E) (WofE E) (start x.1 (N.length - F.m)) rfl
  unfold runOb at hx
  cases he : s.ev (start x.1 (N.length - F.m)) with
  | no => rw [he] at hx; exact absurd hx.symm hp
  | bk _ => rw [he] at hx; exact absurd hx.symm hp
  | ct _ => rw [he] at hx; exact absurd hx.symm hp
  | nx st => rw [he] at hx; exact absurd hx.symm hp
  | rt a => rw [he] at hx; exact absurd hx.symm hp
  | rw s2_ a => rw [he] at hx; exact absurd hx.symm hp
  | ro w =>
    rw [he] at hx hk
    cases w with
    | l _ => exact absurd hx.symm hp
    | ll _ => exact absurd hx.symm hp
    | tc _ => exact absurd hx.symm hp
    | ob C' fs =>
      have hx : (if C' = C then Rs.ok fs else .no) = F.f x.1 := hx
      by_cases hc : C' = C
      · subst hc
        rw [if_pos rfl] at hx
        refine .inr ⟨.own (oW C' none fs), [], ?_, ex_start hk⟩
        show R.resOb K C' (F.f x.1) = _
        rw [← hx]
        rfl
      · rw [if_neg hc] at hx; exact absurd hx.symm hp
  | xc st D n =>
    rw [he] at hx hk
    refine .inr ⟨.err D n, _, ?_, ex_start (hk rfl)⟩
    show R.resOb K C (F.f x.1) = _
    rw [← hx]
    rfl
theorem callOb_in {md : Md} {sp : Sp} {t : TA} {σ : L2.St} {H : Hp} {Q : VK} (h : ∀ E, (∀ cls d H', md.loud = true → ∀ W, md.fits W → W cls d σ H' → E cls d H') → t σ H fun vs H1 => sp vs H1 Q E) : callT md sp t σ H Q := by
  cases md with
  | out E =>
    have := h E (fun cls d H' _ W w h_ => by subst w; exact h_)
    show t σ H fun vs H1 => sp (vs ++ []) H1 Q E
    simpa only [List.append_nil] using this
  | tr W' => exact h (WE W' σ) (fun cls d H' _ W w h_ => by subst w; exact h_)
  | qu =>
    have := h (fun _ _ _ => False) (fun cls d H' l => nomatch l)
    show t σ H fun vs H1 => sp (vs ++ []) H1 Q _
    simpa only [List.append_nil] using this
theorem ev_pair {ta tb : TE} {ρ : List Sl} {A B : Rp} (ha : Ev ta ρ (pu A)) (hb : Ev tb ρ (pu B)) : Ev (tTup (tCons ta (tCons tb tNil))) ρ (pu (pairR A B)) := Ev.pure fun Q s q =>
  ha.run _ s fun G1 H1 x e1 s1 rx => hb.run _ s1 fun G2 H2 y e2 s2 ry => by
    obtain ⟨L, a, b⟩ := id s2
    have hx : A.p G2 x := rx G2 L H2 e2 a b
    have hy : B.p G2 y := ry G2 L H2 (Same.refl _) a b
    refine ⟨Nat.le_of_lt (small1000 (by show (2 : Nat) ≤ 1000; decide)), fun p hp => ?_⟩
    have g := s2.grow (o := .tup [x, y]) hp
    exact q _ _ _ ((e1.trans e2).trans g.1) g.2 ⟨p, x, y, rfl, upd_same, A.up g.1 hx, B.up g.1 hy⟩
def XE.pair (a b : XE K) : XE K := .of (fun md => tTup (tCons (a.te md) (tCons (b.te md) tNil))) (fun st => (a.ev st).bind fun x => (b.ev st).bind fun y => .ok (.p x y))
  fun md st => (a.ok md st).bind (fun C n W h => fun Q s q => h _ s q) fun x hx =>
    (b.ok md st).bind (fun C n W h => fun {G σ L0 H} Q s q => hx.run _ s fun G1 H1 v e1 s1 _ => h _ s1 fun G2 H2 d e2 s2 hd => q G2 H2 d (e1.trans e2) s2 hd) fun y hy => ev_pair hx hy
end
end R

set_option Elab.async false
set_option linter.all false
set_option maxRecDepth 100000
set_option maxHeartbeats 2000000
namespace R
open PySem PySem.Spec PyProof.Rows L2 Z
section
variable {K : PySem.W.Frag} {α β γ δ τ σ : Type} {st : List Sv}
def PW (C a : Addr) (fs : List (Str × Fv)) (e : α → Vl × List (Str × Fv)) (r : α) (o : Oc) : Prop := o.resW C a fs = .ok (e r)
end
end R

set_option Elab.async false
set_option linter.all false
set_option maxRecDepth 100000
set_option maxHeartbeats 2000000
namespace ZEZ
open PySem PySem.Spec PyProof.Rows L2 Z
section
variable {prog : Program} {w : World} {A : Around} {E : Value → Shared → Prop} {s : Shared}
end
structure LzSt (z TI TO j1 j2 m1 m2 : Addr) (xs ys : Array Value) (k : Nat) (h : Heap) : Prop where
  hz : ∃ f t, Zo h z TI TO f t ∧ Own f
  hI : IsPair h TI (.ref j1) (.ref j2)
  hO : ∃ a b, IsPair h TO a b
  i1 : h.IsListIter j1 m1 k
  i2 : h.IsListIter j2 m2 k
  l1 : h.IsList m1 xs
  l2 : h.IsList m2 ys
structure LzLow (S z TI TO j1 j2 m1 m2 : Addr) : Prop where
  z : z < S
  I : TI < S
  O : TO < S
  a : j1 < S
  b : j2 < S
  l1 : m1 < S
  l2 : m2 < S
theorem LzSt.keep {S z TI TO j1 j2 m1 m2 : Addr} {xs ys : Array Value} {k : Nat} {h g : Heap} (x : LzSt z TI TO j1 j2 m1 m2 xs ys k h) (B : LzLow S z TI TO j1 j2 m1 m2) (hk : ∀ b o, b < S → h.get? b = some o → g.get? b = some o) : LzSt z TI TO j1 j2 m1 m2 xs ys k g := by
  obtain ⟨⟨f, t, a1, a2⟩, a3, ⟨a, b, a4⟩, a5, a6, a7, a8⟩ := x
  exact ⟨⟨f, t, hk _ _ B.z a1, a2⟩, hk _ _ B.I a3, ⟨a, b, hk _ _ B.O a4⟩, a5.at fun o q => hk _ o B.a q, a6.at fun o q => hk _ o B.b q, a7.at fun o q => hk _ o B.l1 q, a8.at fun o q => hk _ o B.l2 q⟩
structure LzG (xs ys : Array Value) (lo : Addr) (h : Heap) (as : List Addr) : Prop where
  rise : as.Pairwise (· < ·)
  above : ∀ a ∈ as, lo < a
  pairs : ∀ (j : Nat) (a : Addr), as[j]? = some a → ∃ x y, xs[j]? = some x ∧ ys[j]? = some y ∧ h.get? a = some { cls := .type "tuple", data := .seq #[x, y] }
theorem LzG.there {xs ys : Array Value} {lo : Addr} {h : Heap} {as : List Addr} (g : LzG xs ys lo h as) {a : Addr} (ha : a ∈ as) : a < h.objs.size := by
  obtain ⟨j, hj⟩ := List.mem_iff_getElem?.mp ha
  obtain ⟨_, _, _, _, e⟩ := g.pairs j a hj
  exact Heap.lt_size e
theorem LzG.to {xs ys : Array Value} {lo : Addr} {h g : Heap} {as : List Addr} (x : LzG xs ys lo h as) (hk : ∀ b o, lo < b → h.get? b = some o → g.get? b = some o) : LzG xs ys lo g as :=
  ⟨x.rise, x.above, fun j a hj => by
    obtain ⟨u, v, e1, e2, e3⟩ := x.pairs j a hj
    exact ⟨u, v, e1, e2, hk a _ (x.above a (List.mem_of_getElem? hj)) e3⟩⟩
section
variable {prog : Program} {w : World} {A : Around} {s : Shared} {R : Result → Shared → Prop} {xs ys : Array Value} {z TI TO j1 j2 m1 m2 : Addr}
end
section
variable {X : Cx} {e1 e2 : Expr} {ta : TA} {p pos p2 pos2 : Pos}
end
end ZEZ

set_option Elab.async false
set_option linter.all false
set_option maxRecDepth 100000
set_option maxHeartbeats 2000000
namespace R
open PySem PySem.Spec PyProof.Rows L2 Z ZEZ
inductive DqP (G : Hp) : List (V × V) → List (PyData × PyData) → Prop
  | nil : DqP G [] []
  | cons {x y d e ps ds} : Dq G x d → Dq G y e → DqP G ps ds → DqP G ((x, y) :: ps) ((d, e) :: ds)
theorem DqP.up {G G' : Hp} (e : Same G G') : ∀ {ps ds}, DqP G ps ds → DqP G' ps ds
  | _, _, .nil => .nil
  | _, _, .cons a b t => .cons (dp_up e a) (dp_up e b) (t.up e)
theorem DqP.zip {G : Hp} : ∀ {xs ys : List V} {ds es : List PyData}, DqAll G xs ds → DqAll G ys es → DqP G (xs.zip ys) (ds.zip es)
  | _, _, _, _, .nil, _ => by simpa using DqP.nil
  | _, _, _, _, .cons _ _, .nil => by simpa using DqP.nil
  | _, _, _, _, .cons a t, .cons b u => .cons a b (DqP.zip t u)
section
variable {K : PySem.W.Frag}
variable {α β : Type} {st : List Sv}
end
def okE {α : Type} (E : En α) (d : PyData) : Rs α → Prop
  | .ok a => E.e a = d
  | .ex _ _ => False
  | .no => True
def Dc {α : Type} (E : En α) (f : PyData → Rs α) : Prop := ∀ d, okE E d (f d)
theorem Dc.cases {α : Type} {E : En α} {f : PyData → Rs α} (h : Dc E f) (d : PyData) : (∃ a, f d = .ok a ∧ E.e a = d) ∨ f d = .no := by
  have := h d
  cases hf : f d with
  | ok a => rw [hf] at this; exact .inl ⟨a, rfl, this⟩
  | ex _ _ => rw [hf] at this; exact this.elim
  | no => exact .inr rfl
section
variable {K : PySem.W.Frag} {α β : Type} {st : List Sv}
end
end R

set_option Elab.async false
set_option linter.all false
set_option maxRecDepth 100000
set_option maxHeartbeats 2000000
namespace R
open PySem PySem.Spec PyProof.Rows L2 Z
section
variable {K : PySem.W.Frag}
structure FnT where
  m : Nat
  f : List Av → Rs (Option (List Cp))
def resT : Rs (Option (List Cp)) → Res
  | .ok (some ps) => .own (oTC ps)
  | .ok none => .ok (dat .none)
  | .ex D n => .err D n
  | .no => .ok (dat .none)
def FnT.sp (K : PySem.W.Frag) (F : FnT) : Sp := SpA (α := {xs : List Av // xs.length = F.m}) (fun x => F.f x.1 ≠ .no) (fun x => x.1.map (bw K)) (fun x => resT (F.f x.1))
def Oc.resT : Oc → Rs (Option (List Cp))
  | .ro (.tc ps) => .ok (some ps)
  | .rt (.d .none) => .ok none
  | .xc _ D n => .ex D n
  | _ => .no
def runT (s : XS K) (k : Nat) (xs : List Av) : Rs (Option (List Cp)) := (s.ev (start xs k)).resT
theorem FnT.run {F : FnT} {vs : List V} {H : Hp} {Q : VK} {E : XK} (s : XS K) (N : List Str) (h : F.sp K vs H Q E) (hs : ∀ xs : List Av, xs.length = F.m → F.f xs ≠ .no → runT s (N.length - F.m) xs = F.f xs) :
    s.ts (.out E) { nx := fun _ H' => Q .non H', rt := Q } (L2.start N vs) H := by
  refine SpA.goN h N F.m (fun x => by rw [List.length_map]; exact x.2) fun x hp => ?_
  have hx := hs x.1 x.2 hp
  have hk := s.ok (.out E) (WofE E) (start x.1 (N.length - F.m)) rfl
  unfold runT at hx
  cases he : s.ev (start x.1 (N.length - F.m)) with
  | no => rw [he] at hx; exact absurd hx.symm hp
  | bk _ => rw [he] at hx; exact absurd hx.symm hp
  | ct _ => rw [he] at hx; exact absurd hx.symm hp
  | nx st => rw [he] at hx; exact absurd hx.symm hp
  | rt a =>
    rw [he] at hx hk
    cases a with
    | d x0 =>
      cases x0 with
      | none =>
        refine .inr ⟨.ok (dat .none), [], ?_, ex_start hk⟩
        show R.resT (F.f x.1) = _
        rw [← hx]
        rfl
      | _ => exact absurd hx.symm hp
    | _ => exact absurd hx.symm hp
  | rw s2_ a => rw [he] at hx; exact absurd hx.symm hp
  | ro w =>
    rw [he] at hx hk
    cases w with
    | l _ => exact absurd hx.symm hp
    | ll _ => exact absurd hx.symm hp
    | ob _ _ => exact absurd hx.symm hp
    | tc ps =>
      refine .inr ⟨.own (oTC ps), [], ?_, ex_start hk⟩
      show R.resT (F.f x.1) = _
      rw [← hx]
      rfl
  | xc st D n =>
    rw [he] at hx hk
    refine .inr ⟨.err D n, _, ?_, ex_start (hk rfl)⟩
    show R.resT (F.f x.1) = _
    rw [← hx]
    rfl
theorem sp_T {F : FnT} {G H : Hp} {L : List Cell} {vs : List V} {Q : VK} {E : XK} {xs : List Av} (hm : xs.length = F.m) (hn : F.f xs ≠ .no) (la : Lay G L H) (al : AllB G L vs (xs.map (bw K))) (q : ResP Q E G L (resT (F.f xs))) : F.sp K vs H Q E :=
  ⟨⟨xs, hm⟩, G, L, hn, la, al, q⟩
theorem Ex.gotT {W : WX} {te : TE} {st : List Sv} {i : Nat} {ps : List Cp} (hi : i < st.length)
    (h : ∀ {G : Hp} {σ : L2.St} {L0 : List Cell} {H : Hp} (Q : VK), Stt G (sls K st) σ L0 H → (∀ G' H' a cs L, Same G G' → Slots G' L0 σ (sls K st) L → Lay G' (cs ++ (L ++ L0)) H' → (oTC ps).p G' a cs → Q (.ref a) H') → te σ H Q) :
    Ex W (tAsg te (gName i)) (sls K st) (.nx (sls K (st.set i (.oto (some ps))))) := ⟨fun {G σ L0 H} D s q => h _ s fun G' H' a cs L e sl l ro => by
  rw [sls_set] at q
  obtain ⟨C2, L', p1, L'', s5, p5⟩ := sl.set_o (O := oTC ps) (a := a) (cs := cs) ro i (by rw [sl.len, sls_len]; exact hi)
  have l3 : Lay G' (C2 ++ (L'' ++ L0)) H' := l.perm (by
    have h1 : (cs ++ (L ++ L0)).Perm (cs ++ (C2 ++ (L' ++ L0))) := List.Perm.append_left _ (by rw [← List.append_assoc]; exact p1.append_right L0)
    refine h1.trans ((perm_swap _ _ _).trans (List.Perm.append_left C2 ?_))
    rw [← List.append_assoc]
    exact p5.symm.append_right L0)
  obtain ⟨G3, e3, l4, _⟩ := l3.freezeAll
  exact q G3 _ _ (e.trans e3) ⟨L'', s5.up e3, l4⟩⟩
def XS.setT (i : Nat) (F : FnT) (as : XA K) : XS K where
  ts := fun md => tAsg (callT md (F.sp K) (as.ta md)) (gName i)
  ev := fun st => (as.ev st).oc st fun xs => if xs.length = F.m ∧ i < st.length then (F.f xs).oc st fun o => .nx (st.set i (.oto o)) else .no
  ok := fun md W st w => oc_ok w (as.ok md st) (fun D n h => ⟨fun D' s q => callOb_in fun E _ => h _ s fun G' H' d e s' hd => q G' _ H' d e s' hd⟩) fun xs h => by
    split
    · rename_i hc
      cases hF : F.f xs with
      | no => trivial
      | ok o =>
        cases o with
        | some ps =>
          refine Ex.gotT hc.2 fun {G σ L0 H} Q s q => callOb_in fun E _ => h.at s fun G1 H1 vs L e1 sl la r => ?_
          refine sp_T hc.1 (by rw [hF]; exact fun z => nomatch z) la r ?_
          rw [hF]
          exact fun G2 H2 a cs e2 l2 ro => q G2 H2 a cs L (e1.trans e2) (sl.up e2) l2 ro
        | none =>
          have hR : resT (F.f (⟨xs, hc.1⟩ : {xs : List Av // xs.length = F.m}).1) = .ok (vr K (.d .none)) := by
            show resT (F.f xs) = _
            rw [hF]; rfl
          have hp : F.f (⟨xs, hc.1⟩ : {xs : List Av // xs.length = F.m}).1 ≠ .no := by show F.f xs ≠ _; rw [hF]; exact fun z => nomatch z
          show Ex _ _ _ (.nx (sls K (st.set i (.oto none))))
          rw [sls_set]
          exact Ex.set (call_any (fun E => ev_call (α := {xs : List Av // xs.length = F.m}) (A := fun x => x.1.map (bw K)) (F := fun x => resT (F.f x.1)) (pre := fun x => F.f x.1 ≠ .no) ⟨xs, hc.1⟩ h hp hR)
            (fun E => ev_callS (α := {xs : List Av // xs.length = F.m}) (A := fun x => x.1.map (bw K)) (F := fun x => resT (F.f x.1)) (pre := fun x => F.f x.1 ≠ .no) ⟨xs, hc.1⟩ h hp hR))
      | ex D n =>
        exact fun l => ⟨fun {G σ L0 H} D' s q => callOb_in fun E hE => h.at s fun G1 H1 vs L e1 sl la r => by
          refine sp_T hc.1 (by rw [hF]; exact fun z => nomatch z) la r ?_
          rw [hF]
          exact fun G2 H2 d e2 l2 hd => hE _ _ _ l W w (q G2 _ H2 d (e1.trans e2) ⟨L, sl.up e2, l2⟩ hd)⟩
    · trivial
def unT (i : Nat) (st : List Sv) : Option (List Sv) := match st[i]? with
  | some (.oto (some ps)) => some (st.set i (.otc ps))
  | _ => none
def XS.unT (i : Nat) (a : XS K) : XS K where
  ts := a.ts
  ev := fun st => match R.unT i st with
    | some st1 => a.ev st1
    | none => .no
  ok := fun md W st w => by
    unfold R.unT
    cases hi : st[i]? with
    | none => trivial
    | some s =>
      cases s with
      | oto o =>
        cases o with
        | none => trivial
        | some ps =>
          have e : sls K (st.set i (.otc ps)) = sls K st := by
            rw [sls_set]
            have h := sls_get (K := K) hi
            exact set_back (a := Sl.o (oTC ps)) h
          have ha := a.ok md W (st.set i (.otc ps)) w
          rw [e] at ha
          exact ha
      | _ => trivial
def XE.callTv (F : FnT) (as : XA K) : XE K := .of (fun md => callT md (F.sp K) (as.ta md)) (fun st => (as.ev st).bind fun xs => if xs.length = F.m then (F.f xs).bind fun o => .ok (.d (otD o)) else .no)
  fun md st => (as.ok md st).bind (fun C n W h => by
    cases md with
    | out E => exact fun Q s q => h _ s q
    | tr W => exact fun Q s q => h _ s q
    | qu => exact fun Q s q => h _ s q) fun xs h => by
    by_cases hm : xs.length = F.m
    · rw [if_pos hm]
      cases hF : F.f xs with
      | no => trivial
      | ex C n =>
        intro l W w
        exact fun {G σ L0 H} Q s q => callOb_in fun E hE => h.at s fun G1 H1 vs L e1 sl la r => by
          refine sp_T hm (by rw [hF]; exact fun z => nomatch z) la r ?_
          rw [hF]
          exact fun G2 H2 d e2 l2 hd => hE _ _ _ l W w (q G2 H2 d (e1.trans e2) ⟨L, sl.up e2, l2⟩ hd)
      | ok o =>
        show Ev _ _ (pu (vr K (.d (otD o))))
        cases o with
        | none =>
          have hR : resT (F.f (⟨xs, hm⟩ : {xs : List Av // xs.length = F.m}).1) = .ok (vr K (.d .none)) := by
            show resT (F.f xs) = _
            rw [hF]; rfl
          have hp : F.f (⟨xs, hm⟩ : {xs : List Av // xs.length = F.m}).1 ≠ .no := by show F.f xs ≠ _; rw [hF]; exact fun z => nomatch z
          exact call_any (fun E => ev_call (α := {xs : List Av // xs.length = F.m}) (A := fun x => x.1.map (bw K)) (F := fun x => resT (F.f x.1)) (pre := fun x => F.f x.1 ≠ .no) ⟨xs, hm⟩ h hp hR)
            (fun E => ev_callS (α := {xs : List Av // xs.length = F.m}) (A := fun x => x.1.map (bw K)) (F := fun x => resT (F.f x.1)) (pre := fun x => F.f x.1 ≠ .no) ⟨xs, hm⟩ h hp hR)
        | some ps =>
          refine Ev.pure fun {G σ L0 H} Q s q => callOb_in fun E _ => h.at s fun G1 H1 vs L e1 sl la r => ?_
          refine sp_T hm (by rw [hF]; exact fun z => nomatch z) la r ?_
          rw [hF]
          intro G2 H2 a cs e2 l2 ro
          obtain ⟨G3, e3, l3, hc⟩ := l2.freezeAll
          obtain ⟨xs', hG, hN⟩ := ro
          exact q G3 H2 (.ref a) ((e1.trans e2).trans e3) ⟨L, (sl.up e2).up e3, l3⟩ (Dq.tup (e3 _ _ hG) (hN.dq _ e3 hc))
    · rw [if_neg hm]; trivial
end
end R

set_option Elab.async false
set_option linter.all false
set_option maxRecDepth 100000
set_option maxHeartbeats 2000000
namespace R
open PySem PySem.Spec PyProof.Rows L2 Z
inductive Tp where
  | v (d : PyData) | l (ds : List PyData) | o (i : Nat) (ds : List PyData)
def Tp.cp : Tp → Cp
  | .v d => .v d
  | .l ds => .l ds
  | .o _ ds => .l ds
def Tp.ix : Tp → Option Nat
  | .o i _ => some i
  | _ => none
inductive TL (G : Hp) (σ : L2.St) : List V → List Cell → List Tp → Prop
  | nil : TL G σ [] [] []
  | v {x d xs cs ps} : Dq G x d → TL G σ xs cs ps → TL G σ (x :: xs) cs (.v d :: ps)
  | l {a vs ds xs cs ps} : DqAll G vs ds → TL G σ xs cs ps → TL G σ (V.ref a :: xs) ((a, HO.lst vs) :: cs) (.l ds :: ps)
  | o {i a ds xs cs ps} : σ[i]? = some (some (V.ref a)) → TL G σ xs cs ps → TL G σ (V.ref a :: xs) cs (.o i ds :: ps)
theorem TL.up {G G' : Hp} {σ : L2.St} (e : Same G G') : ∀ {xs cs ps}, TL G σ xs cs ps → TL G' σ xs cs ps
  | _, _, _, .nil => .nil
  | _, _, _, .v h t => .v (dp_up e h) (t.up e)
  | _, _, _, .l h t => .l (dpAll_up e h) (t.up e)
  | _, _, _, .o h t => .o h (t.up e)
theorem TL.len {G : Hp} {σ : L2.St} : ∀ {xs cs ps}, TL G σ xs cs ps → xs.length = ps.length
  | _, _, _, .nil => rfl
  | _, _, _, .v _ t => by rw [List.length_cons, List.length_cons, t.len]
  | _, _, _, .l _ t => by rw [List.length_cons, List.length_cons, t.len]
  | _, _, _, .o _ t => by rw [List.length_cons, List.length_cons, t.len]
theorem stt_perm {G H : Hp} {ρ : List Sl} {σ : L2.St} {A B : List Cell} (s : Stt G ρ σ A H) (p : A.Perm B) : Stt G ρ σ B H := by
  obtain ⟨L, sl, la⟩ := s
  exact ⟨L, sl.mono fun c hc => p.mem_iff.mp hc, la.perm (List.Perm.append_left L p)⟩
theorem tl_out {G H : Hp} {σ : L2.St} : ∀ {xs cs ps}, TL G σ xs cs ps → ∀ {ρ : List Sl} {L0 : List Cell}, Stt G ρ σ (cs ++ L0) H → (∀ i ds, Tp.o i ds ∈ ps → ρ[i]? = some (.o (oL ds))) → (ps.filterMap Tp.ix).Nodup → ∃ ρ' cs', Stt G ρ' σ (cs' ++ L0) H ∧ CL G xs cs' (ps.map Tp.cp)
  | _, _, _, .nil, ρ, L0, s, _, _ => ⟨ρ, [], s, .nil⟩
  | _, _, _, .v h t, ρ, L0, s, hi, hn => by
    obtain ⟨ρ', cs', s', c⟩ := tl_out t s (fun i ds hm => hi i ds (List.mem_cons_of_mem _ hm)) hn
    exact ⟨ρ', cs', s', .v h c⟩
  | _, _, _, .l (a := a) (vs := vs) (cs := cs) h t, ρ, L0, s, hi, hn => by
    have s1 : Stt G ρ σ (cs ++ ((a, HO.lst vs) :: L0)) H := stt_perm s List.perm_middle.symm
    obtain ⟨ρ', cs', s', c⟩ := tl_out t s1 (fun i ds hm => hi i ds (List.mem_cons_of_mem _ hm)) hn
    exact ⟨ρ', (a, HO.lst vs) :: cs', stt_perm s' List.perm_middle, .l h c⟩
  | _, _, _, .o (i := i) (a := a) (ds := ds) (cs := cs) h t, ρ, L0, s, hi, hn => by
    have hρ := hi i ds (List.mem_cons_self ..)
    obtain ⟨a', c0, e', hO, s2, _⟩ := stt_out s hρ
    rw [h] at e'
    injection e' with e'; injection e' with e'; injection e' with e'
    subst e'
    obtain ⟨vs, hc0, dv⟩ := hO
    subst hc0
    have hn2 : (i :: (List.filterMap Tp.ix _)).Nodup := hn
    obtain ⟨hn3, hn4⟩ := List.nodup_cons.mp hn2
    have s3 : Stt G (ρ.set i .x) σ (cs ++ ((a, HO.lst vs) :: L0)) H := stt_perm s2 (by
      show ((a, HO.lst vs) :: (cs ++ L0)).Perm _
      exact List.perm_middle.symm)
    obtain ⟨ρ', cs', s', c⟩ := tl_out t s3 (fun j es hm => by
      have hne : i ≠ j := fun z => by
        subst z
        exact hn3 (List.mem_filterMap.mpr ⟨_, hm, rfl⟩)
      rw [List.getElem?_set_ne hne]
      exact hi j es (List.mem_cons_of_mem _ hm)) hn4
    exact ⟨ρ', (a, HO.lst vs) :: cs', stt_perm s' List.perm_middle, .l dv c⟩
section
variable {K : PySem.W.Frag} {ρ : List Sl} {te : TE}
structure EvTR (ta : TA) (ρ : List Sl) (ps : List Tp) : Prop where
  run : ∀ {G : Hp} {σ : L2.St} {L0 : List Cell} {H : Hp} (Q : List V → Hp → Prop), Stt G ρ σ L0 H →
    (∀ G' H' xs cs, Same G G' → Stt G' ρ σ (cs ++ L0) H' → TL G' σ xs cs ps → Q xs H') → ta σ H Q
theorem tr_nil : EvTR tNil ρ [] := ⟨fun Q s q => q _ _ [] [] (Same.refl _) s .nil⟩
theorem tr_l {tr : TA} {ds : List PyData} {ps : List Tp} (h : EvN te ρ ds) (t : EvTR tr ρ ps) : EvTR (tCons te tr) ρ (.l ds :: ps) := ⟨fun {G σ L0 H} Q s q => h.run _ s fun G1 H1 p vs e1 s1 hp dv => by
  obtain ⟨L1, sl1, la1⟩ := s1
  have s2 : Stt G1 ρ σ ((p, HO.lst vs) :: L0) (upd H1 p (.lst vs)) := ⟨L1, sl1.mono fun c hc => List.mem_cons_of_mem _ hc, (la1.cell hp).perm List.perm_middle.symm⟩
  refine t.run _ s2 fun G2 H2 xs cs e2 s3 hc => ?_
  exact q G2 H2 (V.ref p :: xs) ((p, HO.lst vs) :: cs) (e1.trans e2) (stt_perm s3 List.perm_middle) (.l (dpAll_up e2 dv) hc)⟩
theorem tr_v {tr : TA} {d : PyData} {ps : List Tp} (h : Ev te ρ (pu (dat d))) (t : EvTR tr ρ ps) : EvTR (tCons te tr) ρ (.v d :: ps) := ⟨fun {G σ L0 H} Q s q => h.atp s fun G1 H1 v e1 s1 r1 => t.run _ s1 fun G2 H2 xs cs e2 s2 hc => q G2 H2 (v :: xs) cs (e1.trans e2) s2 (.v (dp_up e2 r1) hc)⟩
theorem tr_o {tr : TA} {i : Nat} {ds : List PyData} {ps : List Tp} (h : ρ[i]? = some (.o (oL ds))) (t : EvTR tr ρ ps) : EvTR (tCons (tVar i) tr) ρ (.o i ds :: ps) := ⟨fun {G σ L0 H} Q s q => by
  obtain ⟨a, cs, e, _⟩ := s.get_o h
  exact ⟨_, e, t.run _ s fun G2 H2 xs cs e2 s2 hc => q G2 H2 (V.ref a :: xs) cs e2 s2 (.o e hc)⟩⟩
theorem Ex.retR {ta : TA} {W : WX} {ps : List Tp} (h : EvTR ta ρ ps) (hl : ps.length ≤ 1000) (hi : ∀ i ds, Tp.o i ds ∈ ps → ρ[i]? = some (.o (oL ds))) (hn : (ps.filterMap Tp.ix).Nodup) : Ex W (tRet (tTup ta)) ρ (.ro (oTC (ps.map Tp.cp))) := ⟨fun {G σ L0 H} D s q => h.run _ s fun G1 H1 xs cs0 e1 s1 hc0 => by
  refine ⟨by rw [hc0.len]; exact Nat.le_of_lt (small1000 hl), fun p hp => ?_⟩
  obtain ⟨ρ', cs, s2, hc⟩ := tl_out hc0 s1 hi hn
  have g := s2.grow (o := .tup xs) hp
  obtain ⟨L, sl0, la0⟩ := g.2
  have hO : (oTC (ps.map Tp.cp)).p (upd G1 p (.tup xs)) p cs := ⟨xs, upd_same, hc.up g.1⟩
  obtain ⟨G2, e2, l2, _⟩ := la0.freezeAll
  exact q G2 _ p cs ((e1.trans g.1).trans e2) l2 ((oTC _).up e2 hO)⟩
inductive XR (K : PySem.W.Frag) where
  | nil | v (e : XE K) (r : XR K) | l (n : XN K) (r : XR K) | o (i : Nat) (r : XR K)
def XR.ta : XR K → Md → TA
  | .nil, _ => tNil
  | .v e r, md => tCons (e.te md) (r.ta md)
  | .l n r, md => tCons (n.te md) (r.ta md)
  | .o i r, md => tCons (tVar i) (r.ta md)
def XR.ev : XR K → List Sv → Option (List Tp)
  | .nil, _ => some []
  | .v e r, st => match dOf (e.ev st), r.ev st with
    | some d, some ps => some (.v d :: ps)
    | _, _ => none
  | .l n r, st => match n.ev st, r.ev st with
    | .ok ds, some ps => some (.l ds :: ps)
    | _, _ => none
  | .o i r, st => match st[i]?, r.ev st with
    | some (.ol ds), some ps => some (.o i ds :: ps)
    | _, _ => none
theorem XR.ok : ∀ (c : XR K) (md : Md) (st : List Sv) {ps : List Tp}, c.ev st = some ps → EvTR (c.ta md) (sls K st) ps ∧ ∀ i ds, Tp.o i ds ∈ ps → (sls K st)[i]? = some (.o (oL ds))
  | .nil, md, st, ps, h => by cases h; exact ⟨tr_nil, fun i ds h => nomatch h⟩
  | .v e r, md, st, ps, h => by
    unfold XR.ev at h
    cases h1 : dOf (e.ev st) with
    | none => rw [h1] at h; cases h
    | some d =>
      cases h2 : r.ev st with
      | none => rw [h1, h2] at h; cases h
      | some qs =>
        rw [h1, h2] at h
        cases h
        have he := e.ok md st
        rw [dOf_some h1] at he
        obtain ⟨a, b⟩ := r.ok md st h2
        exact ⟨tr_v he a, fun i ds hm => by
          rcases List.mem_cons.mp hm with z | z
          · cases z
          · exact b i ds z⟩
  | .l n r, md, st, ps, h => by
    unfold XR.ev at h
    cases h1 : n.ev st with
    | no => rw [h1] at h; cases h
    | ex C m => rw [h1] at h; cases h
    | ok ds =>
      cases h2 : r.ev st with
      | none => rw [h1, h2] at h; cases h
      | some qs =>
        rw [h1, h2] at h
        cases h
        have he := n.ok md st
        rw [h1] at he
        obtain ⟨a, b⟩ := r.ok md st h2
        exact ⟨tr_l he a, fun i ds hm => by
          rcases List.mem_cons.mp hm with z | z
          · cases z
          · exact b i ds z⟩
  | .o i r, md, st, ps, h => by
    unfold XR.ev at h
    cases h1 : st[i]? with
    | none => rw [h1] at h; cases h
    | some s =>
      rw [h1] at h
      cases s with
      | ol ds =>
        cases h2 : r.ev st with
        | none => rw [h2] at h; cases h
        | some qs =>
          rw [h2] at h
          cases h
          obtain ⟨a, b⟩ := r.ok md st h2
          have hg := sls_get (K := K) h1
          exact ⟨tr_o hg a, fun j es hm => by
            rcases List.mem_cons.mp hm with z | z
            · cases z; exact hg
            · exact b j es z⟩
      | _ => cases h
def XS.retR (c : XR K) : XS K where
  ts := fun md => tRet (tTup (c.ta md))
  ev := fun st => match c.ev st with
    | some ps => if ps.length ≤ 1000 ∧ (ps.filterMap Tp.ix).Nodup then .ro (.tc (ps.map Tp.cp)) else .no
    | none => .no
  ok := fun md W st w => by
    split
    · rename_i ps hp
      split
      · rename_i hc
        obtain ⟨a, b⟩ := c.ok md st hp
        exact Ex.retR a hc.1 b hc.2
      · trivial
    · trivial
end
end R

set_option Elab.async false
set_option linter.all false
set_option maxRecDepth 100000
set_option maxHeartbeats 2000000
namespace R
open PySem PySem.Spec PyProof.Rows L2 Z
section
variable {K : PySem.W.Frag} {α β γ δ : Type} {st : List Sv}
def SR (f : α → List Tp) (c : XR K) (st : List Sv) (m : Rs α) : Prop := ∀ a, m = .ok a → c.ev st = some (f a)
theorem sr_nil : SR (fun _ : Unit => []) (.nil : XR K) st (.ok ()) := fun a h => rfl
theorem sr_v {E : En γ} {e : XE K} {c : XR K} {r : Rs γ} {m : Rs α} {f : α → List Tp} (h : SV E.v e st r) (t : SR f c st m) : SR (fun p : γ × α => .v (E.e p.1) :: f p.2) (.v e c) st (r.bind fun u => m.bind fun w => .ok (u, w)) := fun a ha => by
  cases r with
  | ok u =>
    have h : e.ev st = .ok (E.v u) := h
    cases m with
    | ok w =>
      cases ha
      show (match dOf (e.ev st), c.ev st with
        | some d, some ps => some (Tp.v d :: ps)
        | _, _ => none) = _
      rw [h, t w rfl]
      rfl
    | ex C n => cases ha
    | no => cases ha
  | ex C n => cases ha
  | no => cases ha
theorem sr_o {E : En γ} {i : Nat} {xs : List γ} {c : XR K} {m : Rs α} {f : α → List Tp} (hi : st[i]? = some (.ol (xs.map E.e))) (t : SR f c st m) : SR (fun p : List γ × α => .o i (p.1.map E.e) :: f p.2) (.o i c) st ((Rs.ok xs).bind fun u => m.bind fun w => .ok (u, w)) := fun a ha => by
  cases m with
  | ok w =>
    cases ha
    show (match st[i]?, c.ev st with
      | some (.ol ds), some ps => some (Tp.o i ds :: ps)
      | _, _ => none) = _
    rw [hi, t w rfl]
  | ex C n => cases ha
  | no => cases ha
def PFT (f : α → List Cp) (o : Option α) (oc : Oc) : Prop := oc.resT = .ok (o.map f)
theorem ss_retR {c : XR K} {f : α → List Tp} {m : Rs α} {w : α → β} {P : β → Oc → Prop} (h : SR f c st m) (hn : ∀ a, (f a).length ≤ 1000 ∧ ((f a).filterMap Tp.ix).Nodup) (hP : ∀ a, P (w a) (.ro (.tc ((f a).map Tp.cp)))) : SS (.retR c) st ((qu m).bind fun a => .ok (w a)) P := by
  cases m with
  | no => trivial
  | ex C n => trivial
  | ok a =>
    show P (w a) ((XS.retR c).ev st)
    have e : (XS.retR c).ev st = .ro (.tc ((f a).map Tp.cp)) := by
      show (match c.ev st with
        | some ps => if ps.length ≤ 1000 ∧ (ps.filterMap Tp.ix).Nodup then Oc.ro (.tc (ps.map Tp.cp)) else .no
        | none => .no) = _
      rw [h a rfl]
      show (if (f a).length ≤ 1000 ∧ ((f a).filterMap Tp.ix).Nodup then Oc.ro (.tc ((f a).map Tp.cp)) else .no) = _
      rw [if_pos (hn a)]
    rw [e]; exact hP a
theorem si_runXT {s : XS K} {k : Nat} {xs : List Av} {f : α → List Cp} {m : Rs (Option α)} (h : SS s (start xs k) m (PFT f)) : Si (runT s k xs) m (Option.map f) := by
  cases m with
  | no => trivial
  | ok a => exact h
  | ex C n => obtain ⟨st', _, h2⟩ := h; show Oc.resT (s.ev (start xs k)) = _; rw [h2]; rfl
theorem si_fnT {F : FnT} {xs : List Av} {m : Rs α} {e : α → Option (List Cp)} {n : Nat} (hm : F.m = n) (h : Si (F.f xs) m e) (hl : Nat.beq xs.length n = true := by rfl) : Si (if xs.length = F.m then F.f xs else .no) m e := by
  rw [if_pos (by rw [hm]; exact Nat.eq_of_beq_eq_true hl)]; exact h
theorem ss_setT {i : Nat} {F : FnT} {as : XA K} {b : XS K} {f : γ → List Cp} {n : Rs (Option γ)} {st1 : Option γ → List Sv} {g : Option γ → Rs α} {P : α → Oc → Prop} (h : SC as st (fun xs => if xs.length = F.m then F.f xs else .no) n (Option.map f)) (hs : ∀ u : Option γ, st.set i (.oto (u.map f)) = st1 u) (hi : Nat.blt i st.length = true) (k : ∀ u, SS b (st1 u) (g u) P) : SS (.seq (.setT i F as) b) st (n.bind g) P := by
  have hl : i < st.length := by
    have := Nat.le_of_ble_eq_true (show Nat.ble (i + 1) st.length = true from hi)
    omega
  have key : ∀ r : Rs (Option (List Cp)), ((as.ev st).bind fun xs => if xs.length = F.m then F.f xs else .no) = r → r ≠ .no → (XS.setT i F as).ev st = r.oc st fun o => .nx (st.set i (.oto o)) := fun r e hr => by
    show (as.ev st).oc st _ = _
    cases ha : as.ev st with
    | no => rw [ha] at e; exact absurd e.symm hr
    | ex C n => rw [ha] at e; rw [← e]; rfl
    | ok xs =>
      rw [ha] at e
      have e : (if xs.length = F.m then F.f xs else .no) = r := e
      show (if xs.length = F.m ∧ i < st.length then (F.f xs).oc st fun o => .nx (st.set i (.oto o)) else .no) = _
      by_cases hm : xs.length = F.m
      · rw [if_pos hm] at e; rw [if_pos ⟨hm, hl⟩, e]
      · rw [if_neg hm] at e; exact absurd e.symm hr
  cases n with
  | no => trivial
  | ex C n =>
    have h : ((as.ev st).bind fun xs => if xs.length = F.m then F.f xs else .no) = .ex C n := h
    exact ss_xc (key _ h (fun z => nomatch z)) rfl
  | ok u =>
    have h : ((as.ev st).bind fun xs => if xs.length = F.m then F.f xs else .no) = .ok (u.map f) := h
    refine ss_step (st1 := st1 u) ?_ (by rw [← hs, List.length_set]) (k u)
    rw [key _ h (fun z => nomatch z)]
    show Oc.nx (st.set i (.oto (u.map f))) = _
    rw [hs]
theorem otD_e {E : En γ} {f : γ → List Cp} (hf : ∀ a, PyData.tuple ((f a).map Cp.d) = E.e a) (o : Option γ) : Vl.d (otD (o.map f)) = (eO E).v o := by
  cases o with
  | none => rfl
  | some a =>
    show Vl.d (PyData.tuple ((f a).map Cp.d)) = _
    rw [hf]; rfl
theorem sv_callT {F : FnT} {as : XA K} {E : En γ} {f : γ → List Cp} {m : Rs (Option γ)} (hf : ∀ a, PyData.tuple ((f a).map Cp.d) = E.e a) (h : SC as st (fun xs => if xs.length = F.m then F.f xs else .no) m (Option.map f)) : SV (eO E).v (.callTv F as) st m := by
  have key : (XE.callTv F as).ev st = ((as.ev st).bind fun xs => if xs.length = F.m then F.f xs else .no).bind fun o => .ok (.d (otD o)) := by
    show (as.ev st).bind _ = _
    cases as.ev st with
    | no => rfl
    | ex C n => rfl
    | ok xs =>
      show (if xs.length = F.m then (F.f xs).bind (fun o => Rs.ok (Vl.d (otD o))) else Rs.no) = Rs.bind (if xs.length = F.m then F.f xs else Rs.no) (fun o => Rs.ok (Vl.d (otD o)))
      split <;> rfl
  cases m with
  | no => trivial
  | ex C n =>
    have h : ((as.ev st).bind fun xs => if xs.length = F.m then F.f xs else .no) = .ex C n := h
    show (XE.callTv F as).ev st = _
    rw [key, h]; rfl
  | ok u =>
    have h : ((as.ev st).bind fun xs => if xs.length = F.m then F.f xs else .no) = .ok (u.map f) := h
    show (XE.callTv F as).ev st = _
    rw [key, h]
    show Rs.ok (Vl.d (otD (u.map f))) = _
    rw [otD_e hf]
theorem sv_varPt {E : En γ} {f : γ → List Cp} {i : Nat} {o : Option γ} {u : V} (h : st[i]? = some (.pin u (.v (.d (otD (o.map f)))))) (hf : ∀ a, PyData.tuple ((f a).map Cp.d) = E.e a) : SV (eO E).v (.var i : XE K) st (.ok o) := by
  rw [otD_e (E := E) hf] at h
  exact sv_varP h
theorem ss_unTS {i : Nat} {a b : XS K} {f : γ → List Cp} {o : Option γ} {st1 : γ → List Sv} {g : γ → Rs α} {P : α → Oc → Prop} (hi : st[i]? = some (.oto (o.map f))) (hs : ∀ v : γ, st.set i (.otc (f v)) = st1 v) (k : ∀ v, SS (.seq a b) (st1 v) (g v) P) : SS (.seq (.unT i a) b) st ((theO o).bind g) P := by
  cases o with
  | none => trivial
  | some v =>
    have e : (XS.seq (.unT i a) b).ev st = (XS.seq a b).ev (st1 v) := by
      have e0 : (XS.unT i a).ev st = a.ev (st1 v) := by
        show (match unT i st with
          | some st1 => a.ev st1
          | none => .no) = _
        unfold unT
        rw [hi]
        show a.ev (st.set i (.otc (f v))) = _
        rw [hs]
      show (match (XS.unT i a).ev st with
        | .nx st' => b.ev st'
        | o => o) = _
      rw [e0]; rfl
    show SS _ _ (g v) _
    have hk := k v
    have hl : (st1 v).length = st.length := by rw [← hs, List.length_set]
    generalize g v = m at hk ⊢
    cases m with
    | ok t => show P t _; rw [e]; exact hk
    | ex C n => obtain ⟨st', h1, h2⟩ := hk; exact ⟨st', h1.trans hl, by rw [e]; exact h2⟩
    | no => trivial
theorem ss_appTd {i : Nat} {k : Nat} {e : XE K} {b : XS K} {E : En γ} {E2 : En δ} {ps : List Cp} {xs : List γ} {r : Rs δ} {st1 : List Sv} {g : List Unit → Rs α} {P : α → Oc → Prop} (hi : st[i]? = some (.otc ps)) (hk : ps[k]? = some (.l (xs.map E.e))) (he : SV E2.v e (st.set i .x) r) (hs : st.set i .x = st1) (c : ∀ ys, SS b st1 (g ys) P) : SS (.seq (.post [i] (.appT i (.int ((k : Nat) : Int)) e)) b) st ((qu r).bind fun _ => (pushC (xs.map fun _ => ()) ()).bind g) P := by
  cases r with
  | no => trivial
  | ex C n => trivial
  | ok u =>
    have he : e.ev (st.set i .x) = .ok (E2.v u) := he
    show SS _ _ ((pushC (xs.map fun _ => ()) ()).bind g) _
    unfold pushC grd
    by_cases hl : (xs.map fun _ => ()).length < 1000000
    · rw [if_pos hl]
      have hl : xs.length < 1000000 := by rwa [List.length_map] at hl
      refine ss_step (st1 := st1) ?_ (by rw [← hs, List.length_set]) (c _)
      have hj : ixN ps.length ((k : Nat) : Int) = some k := by
        have := (List.getElem?_eq_some_iff.mp hk).1
        unfold ixN
        rw [if_pos (Int.natCast_nonneg k), if_pos (by omega)]
        rfl
      have ev : (XS.appT i (.int ((k : Nat) : Int)) e).ev st = .nx (st.set i (.otc (ps.set k (.l (xs.map E.e ++ [E2.e u]))))) := by
        show (match st[i]? with
          | some (.otc ps) => match okV ((XE.int ((k : Nat) : Int) : XE K).iv st), okV (e.ev (st.set i .x)) with
            | some n, some (.d d) => match ixN ps.length n with
              | some j => match ps[j]? with
                | some (.l ds) => if ds.length < 1000000 then Oc.nx (st.set i (.otc (ps.set j (.l (ds ++ [d]))))) else .no
                | _ => .no
              | none => .no
            | _, _ => .no
          | _ => .no) = _
        rw [hi, he]
        show (match ixN ps.length ((k : Nat) : Int) with
              | some j => match ps[j]? with
                | some (.l ds) => if ds.length < 1000000 then Oc.nx (st.set i (.otc (ps.set j (.l (ds ++ [E2.e u]))))) else .no
                | _ => .no
              | none => .no) = _
        rw [hj]
        show (match ps[k]? with
                | some (.l ds) => if ds.length < 1000000 then Oc.nx (st.set i (.otc (ps.set k (.l (ds ++ [E2.e u]))))) else .no
                | _ => .no) = _
        rw [hk]
        show (if (xs.map E.e).length < 1000000 then Oc.nx (st.set i (.otc (ps.set k (.l (xs.map E.e ++ [E2.e u]))))) else .no) = _
        rw [if_pos (by rw [List.length_map]; exact hl)]
      show postO [i] ((XS.appT i (.int ((k : Nat) : Int)) e).ev st) = _
      rw [ev]
      show Oc.nx (blk [i] (st.set i _)) = _
      congr 1
      rw [← hs]
      show (st.set i _).set i .x = _
      rw [List.set_set]
    · rw [if_neg hl]; trivial
end
end R

set_option Elab.async false
set_option linter.all false
set_option maxRecDepth 100000
set_option maxHeartbeats 4000000
set_option synthInstance.maxSize 1000
set_option synthInstance.maxHeartbeats 400000
namespace Q
open PySem PySem.Spec PyProof.Rows L2 Z R
def topS (i : Nat) : Stmt := PySem.Challenge.pw_trunkweb_k69_quick_covers.main.body.getD i (.Pass ⟨0, 0, 0, 0⟩)
abbrev s_WebError___init__ : Stmt := inClass (topS 2) 0
abbrev N_WebError___init__ : List Str := ["self", "at"]
theorem sc_WebError___init__ : FnScope ["self", "at"] ["self", "at"] (defScope s_WebError___init__) := ⟨rfl, rfl, rfl, by decide +kernel, rfl, by decide +kernel, by decide +kernel⟩
abbrev s_is_ascending : Stmt := topS 11
abbrev N_is_ascending : List Str := ["numbers", "many", "last", "number"]
theorem sc_is_ascending : FnScope ["numbers", "many", "last", "number"] ["numbers", "many"] (defScope s_is_ascending) := ⟨rfl, rfl, rfl, by decide +kernel, rfl, by decide +kernel, by decide +kernel⟩
abbrev s_is_price : Stmt := topS 14
abbrev N_is_price : List Str := ["price"]
theorem sc_is_price : FnScope ["price"] ["price"] (defScope s_is_price) := ⟨rfl, rfl, rfl, by decide +kernel, rfl, by decide +kernel, by decide +kernel⟩
abbrev s_fraction : Stmt := topS 16
abbrev N_fraction : List Str := ["numerator", "denominator", "common"]
theorem sc_fraction : FnScope ["numerator", "denominator", "common"] ["numerator", "denominator"] (defScope s_fraction) := ⟨rfl, rfl, rfl, by decide +kernel, rfl, by decide +kernel, by decide +kernel⟩
abbrev s_times : Stmt := topS 17
abbrev N_times : List Str := ["first", "second"]
theorem sc_times : FnScope ["first", "second"] ["first", "second"] (defScope s_times) := ⟨rfl, rfl, rfl, by decide +kernel, rfl, by decide +kernel, by decide +kernel⟩
abbrev s_over : Stmt := topS 18
abbrev N_over : List Str := ["first", "second"]
theorem sc_over : FnScope ["first", "second"] ["first", "second"] (defScope s_over) := ⟨rfl, rfl, rfl, by decide +kernel, rfl, by decide +kernel, by decide +kernel⟩
abbrev s_is_less : Stmt := topS 19
abbrev N_is_less : List Str := ["first", "second"]
theorem sc_is_less : FnScope ["first", "second"] ["first", "second"] (defScope s_is_less) := ⟨rfl, rfl, rfl, by decide +kernel, rfl, by decide +kernel, by decide +kernel⟩
abbrev s_scaled : Stmt := topS 20
abbrev N_scaled : List Str := ["fractions", "scale", "pair"]
theorem sc_scaled : FnScope ["fractions", "scale", "pair"] ["fractions"] (defScope s_scaled) := ⟨rfl, rfl, rfl, by decide +kernel, rfl, by decide +kernel, by decide +kernel⟩
abbrev s_added : Stmt := topS 21
abbrev N_added : List Str := ["fractions", "numerators", "scale"]
theorem sc_added : FnScope ["fractions", "numerators", "scale"] ["fractions"] (defScope s_added) := ⟨rfl, rfl, rfl, by decide +kernel, rfl, by decide +kernel, by decide +kernel⟩
abbrev s_Program___init__ : Stmt := inClass (topS 26) 0
abbrev N_Program___init__ : List Str := ["self", "prices", "rows", "at", "numbers", "relation", "_", "bound"]
theorem sc_Program___init__ : FnScope ["self", "prices", "rows", "at", "numbers", "relation", "_", "bound"] ["self", "prices", "rows"] (defScope s_Program___init__) := ⟨rfl, rfl, rfl, by decide +kernel, rfl, by decide +kernel, by decide +kernel⟩
abbrev s_Program_prices : Stmt := inClass (topS 26) 2
abbrev N_Program_prices : List Str := ["self"]
theorem sc_Program_prices : FnScope ["self"] ["self"] (defScope s_Program_prices) := ⟨rfl, rfl, rfl, by decide +kernel, rfl, by decide +kernel, by decide +kernel⟩
abbrev s_Program_rows : Stmt := inClass (topS 26) 3
abbrev N_Program_rows : List Str := ["self", "numbers", "relation", "bound"]
theorem sc_Program_rows : FnScope ["self", "numbers", "relation", "bound"] ["self"] (defScope s_Program_rows) := ⟨rfl, rfl, rfl, by decide +kernel, rfl, by decide +kernel, by decide +kernel⟩
abbrev s_need_sets : Stmt := topS 30
abbrev N_need_sets : List Str := ["size", "sets", "index", "members", "price"]
theorem sc_need_sets : FnScope ["size", "sets", "index", "members", "price"] ["size", "sets"] (defScope s_need_sets) := ⟨rfl, rfl, rfl, by decide +kernel, rfl, by decide +kernel, by decide +kernel⟩
abbrev s_cover_program : Stmt := topS 31
abbrev N_cover_program : List Str := ["size", "sets", "rows", "member", "_", "price", "members"]
theorem sc_cover_program : FnScope ["size", "sets", "rows", "member", "_", "price", "members"] ["size", "sets"] (defScope s_cover_program) := ⟨rfl, rfl, rfl, by decide +kernel, rfl, by decide +kernel, by decide +kernel⟩
abbrev s_cheapest_set : Stmt := topS 32
abbrev N_cheapest_set : List Str := ["sets", "covered", "best", "number", "members", "price", "anew", "share", "member"]
theorem sc_cheapest_set : FnScope ["sets", "covered", "best", "number", "members", "price", "anew", "share", "member"] ["sets", "covered"] (defScope s_cheapest_set) := ⟨rfl, rfl, rfl, by decide +kernel, rfl, by decide +kernel, by decide +kernel⟩
abbrev s_quick_cover : Stmt := topS 33
abbrev N_quick_cover : List Str := ["size", "sets", "covered", "shares", "taken", "best", "share", "number", "anew", "member"]
theorem sc_quick_cover : FnScope ["size", "sets", "covered", "shares", "taken", "best", "share", "number", "anew", "member"] ["size", "sets"] (defScope s_quick_cover) := ⟨rfl, rfl, rfl, by decide +kernel, rfl, by decide +kernel, by decide +kernel⟩
abbrev s_harmonic : Stmt := topS 34
abbrev N_harmonic : List Str := ["many", "number"]
theorem sc_harmonic : FnScope ["many", "number"] ["many"] (defScope s_harmonic) := ⟨rfl, rfl, rfl, by decide +kernel, rfl, by decide +kernel, by decide +kernel⟩
abbrev s_cover_factor : Stmt := topS 35
abbrev N_cover_factor : List Str := ["size", "sets", "members", "_"]
theorem sc_cover_factor : FnScope ["size", "sets", "members", "_"] ["size", "sets"] (defScope s_cover_factor) := ⟨rfl, rfl, rfl, by decide +kernel, rfl, by decide +kernel, by decide +kernel⟩
abbrev s_are_cover : Stmt := topS 36
abbrev N_are_cover : List Str := ["size", "sets", "taken", "number", "member"]
theorem sc_are_cover : FnScope ["size", "sets", "taken", "number", "member"] ["size", "sets", "taken"] (defScope s_are_cover) := ⟨rfl, rfl, rfl, by decide +kernel, rfl, by decide +kernel, by decide +kernel⟩
abbrev s_check_shares : Stmt := topS 37
abbrev N_check_shares : List Str := ["size", "sets", "taken", "shares", "members", "price", "most", "share", "member", "number"]
theorem sc_check_shares : FnScope ["size", "sets", "taken", "shares", "members", "price", "most", "share", "member", "number"] ["size", "sets", "taken", "shares"] (defScope s_check_shares) := ⟨rfl, rfl, rfl, by decide +kernel, rfl, by decide +kernel, by decide +kernel⟩
abbrev s_cover_bound : Stmt := topS 38
abbrev N_cover_bound : List Str := ["size", "sets", "shares", "factor"]
theorem sc_cover_bound : FnScope ["size", "sets", "shares", "factor"] ["size", "sets", "shares"] (defScope s_cover_bound) := ⟨rfl, rfl, rfl, by decide +kernel, rfl, by decide +kernel, by decide +kernel⟩
abbrev s_law_numbers : Stmt := topS 40
abbrev N_law_numbers : List Str := ["script", "many", "rest", "mixed", "numbers", "k", "at", "cell"]
theorem sc_law_numbers : FnScope ["script", "many", "rest", "mixed", "numbers", "k", "at", "cell"] ["script", "many"] (defScope s_law_numbers) := ⟨rfl, rfl, rfl, by decide +kernel, rfl, by decide +kernel, by decide +kernel⟩
abbrev s_law_lowest : Stmt := topS 41
abbrev N_law_lowest : List Str := ["p", "q", "one", "two", "turn"]
theorem sc_law_lowest : FnScope ["p", "q", "one", "two", "turn"] ["p", "q"] (defScope s_law_lowest) := ⟨rfl, rfl, rfl, by decide +kernel, rfl, by decide +kernel, by decide +kernel⟩
abbrev s_law_plus : Stmt := topS 42
abbrev N_law_plus : List Str := ["first", "second"]
theorem sc_law_plus : FnScope ["first", "second"] ["first", "second"] (defScope s_law_plus) := ⟨rfl, rfl, rfl, by decide +kernel, rfl, by decide +kernel, by decide +kernel⟩
abbrev s_law_added : Stmt := topS 45
abbrev N_law_added : List Str := ["rows", "total", "one"]
theorem sc_law_added : FnScope ["rows", "total", "one"] ["rows"] (defScope s_law_added) := ⟨rfl, rfl, rfl, by decide +kernel, rfl, by decide +kernel, by decide +kernel⟩
abbrev s_law_sets : Stmt := topS 47
abbrev N_law_sets : List Str := ["numbers", "at", "most", "many", "size", "sets", "k", "drawn", "members", "missing", "one", "price"]
theorem sc_law_sets : FnScope ["numbers", "at", "most", "many", "size", "sets", "k", "drawn", "members", "missing", "one", "price"] ["numbers", "at", "most", "many"] (defScope s_law_sets) := ⟨rfl, rfl, rfl, by decide +kernel, rfl, by decide +kernel, by decide +kernel⟩
abbrev s_law_quick : Stmt := topS 48
abbrev N_law_quick : List Str := ["size", "sets", "shares", "taken", "turn", "best", "k", "one", "fresh"]
theorem sc_law_quick : FnScope ["size", "sets", "shares", "taken", "turn", "best", "k", "one", "fresh"] ["size", "sets"] (defScope s_law_quick) := ⟨rfl, rfl, rfl, by decide +kernel, rfl, by decide +kernel, by decide +kernel⟩
abbrev s_law_refused : Stmt := topS 49
abbrev N_law_refused : List Str := ["way", "size", "sets", "error", "kinds"]
theorem sc_law_refused : FnScope ["way", "size", "sets", "error", "kinds"] ["way", "size", "sets"] (defScope s_law_refused) := ⟨rfl, rfl, rfl, by decide +kernel, rfl, by decide +kernel, by decide +kernel⟩
abbrev s_law_refusals : Stmt := topS 50
abbrev N_law_refusals : List Str := ["numbers", "size", "sets", "bad", "dear", "at", "way", "wrong"]
theorem sc_law_refusals : FnScope ["numbers", "size", "sets", "bad", "dear", "at", "way", "wrong"] ["numbers", "size", "sets"] (defScope s_law_refusals) := ⟨rfl, rfl, rfl, by decide +kernel, rfl, by decide +kernel, by decide +kernel⟩
abbrev s_law : Stmt := topS 51
abbrev N_law : List Str := ["script", "numbers", "size", "sets", "kept", "program", "lines", "due", "again", "told", "parts", "one", "members", "price", "line", "part"]
theorem sc_law : FnScope ["script", "numbers", "size", "sets", "kept", "program", "lines", "due", "again", "told", "parts", "one", "members", "price", "line", "part"] ["script"] (defScope s_law) := ⟨rfl, rfl, rfl, by decide +kernel, rfl, by decide +kernel, by decide +kernel⟩
structure Tx (K : PySem.W.Frag) (mg : Str → Option Value) where
  f_WebError___init__ : Addr
  fd_WebError___init__ : FuncData
  F_WebError___init__ : Fun K "__init__" "WebError.__init__" s_WebError___init__ f_WebError___init__ fd_WebError___init__
  b_WebError___init__ : Binds K fd_WebError___init__ ["self", "at"] []
  f_is_ascending : Addr
  fd_is_ascending : FuncData
  F_is_ascending : Fun K "is_ascending" "is_ascending" s_is_ascending f_is_ascending fd_is_ascending
  b_is_ascending : Binds K fd_is_ascending ["numbers", "many"] []
  g_is_ascending : mg "is_ascending" = some (.ref f_is_ascending)
  f_is_price : Addr
  fd_is_price : FuncData
  F_is_price : Fun K "is_price" "is_price" s_is_price f_is_price fd_is_price
  b_is_price : Binds K fd_is_price ["price"] []
  g_is_price : mg "is_price" = some (.ref f_is_price)
  f_fraction : Addr
  fd_fraction : FuncData
  F_fraction : Fun K "fraction" "fraction" s_fraction f_fraction fd_fraction
  b_fraction : Binds K fd_fraction ["numerator", "denominator"] []
  g_fraction : mg "fraction" = some (.ref f_fraction)
  f_times : Addr
  fd_times : FuncData
  F_times : Fun K "times" "times" s_times f_times fd_times
  b_times : Binds K fd_times ["first", "second"] []
  g_times : mg "times" = some (.ref f_times)
  f_over : Addr
  fd_over : FuncData
  F_over : Fun K "over" "over" s_over f_over fd_over
  b_over : Binds K fd_over ["first", "second"] []
  g_over : mg "over" = some (.ref f_over)
  f_is_less : Addr
  fd_is_less : FuncData
  F_is_less : Fun K "is_less" "is_less" s_is_less f_is_less fd_is_less
  b_is_less : Binds K fd_is_less ["first", "second"] []
  g_is_less : mg "is_less" = some (.ref f_is_less)
  f_scaled : Addr
  fd_scaled : FuncData
  F_scaled : Fun K "scaled" "scaled" s_scaled f_scaled fd_scaled
  b_scaled : Binds K fd_scaled ["fractions"] []
  g_scaled : mg "scaled" = some (.ref f_scaled)
  f_added : Addr
  fd_added : FuncData
  F_added : Fun K "added" "added" s_added f_added fd_added
  b_added : Binds K fd_added ["fractions"] []
  g_added : mg "added" = some (.ref f_added)
  f_Program___init__ : Addr
  fd_Program___init__ : FuncData
  F_Program___init__ : Fun K "__init__" "Program.__init__" s_Program___init__ f_Program___init__ fd_Program___init__
  b_Program___init__ : Binds K fd_Program___init__ ["self", "prices", "rows"] []
  f_Program_prices : Addr
  fd_Program_prices : FuncData
  F_Program_prices : Fun K "prices" "Program.prices" s_Program_prices f_Program_prices fd_Program_prices
  b_Program_prices : Binds K fd_Program_prices ["self"] []
  f_Program_rows : Addr
  fd_Program_rows : FuncData
  F_Program_rows : Fun K "rows" "Program.rows" s_Program_rows f_Program_rows fd_Program_rows
  b_Program_rows : Binds K fd_Program_rows ["self"] []
  f_need_sets : Addr
  fd_need_sets : FuncData
  F_need_sets : Fun K "need_sets" "need_sets" s_need_sets f_need_sets fd_need_sets
  b_need_sets : Binds K fd_need_sets ["size", "sets"] []
  g_need_sets : mg "need_sets" = some (.ref f_need_sets)
  f_cover_program : Addr
  fd_cover_program : FuncData
  F_cover_program : Fun K "cover_program" "cover_program" s_cover_program f_cover_program fd_cover_program
  b_cover_program : Binds K fd_cover_program ["size", "sets"] []
  g_cover_program : mg "cover_program" = some (.ref f_cover_program)
  f_cheapest_set : Addr
  fd_cheapest_set : FuncData
  F_cheapest_set : Fun K "cheapest_set" "cheapest_set" s_cheapest_set f_cheapest_set fd_cheapest_set
  b_cheapest_set : Binds K fd_cheapest_set ["sets", "covered"] []
  g_cheapest_set : mg "cheapest_set" = some (.ref f_cheapest_set)
  f_quick_cover : Addr
  fd_quick_cover : FuncData
  F_quick_cover : Fun K "quick_cover" "quick_cover" s_quick_cover f_quick_cover fd_quick_cover
  b_quick_cover : Binds K fd_quick_cover ["size", "sets"] []
  g_quick_cover : mg "quick_cover" = some (.ref f_quick_cover)
  f_harmonic : Addr
  fd_harmonic : FuncData
  F_harmonic : Fun K "harmonic" "harmonic" s_harmonic f_harmonic fd_harmonic
  b_harmonic : Binds K fd_harmonic ["many"] []
  g_harmonic : mg "harmonic" = some (.ref f_harmonic)
  f_cover_factor : Addr
  fd_cover_factor : FuncData
  F_cover_factor : Fun K "cover_factor" "cover_factor" s_cover_factor f_cover_factor fd_cover_factor
  b_cover_factor : Binds K fd_cover_factor ["size", "sets"] []
  g_cover_factor : mg "cover_factor" = some (.ref f_cover_factor)
  f_are_cover : Addr
  fd_are_cover : FuncData
  F_are_cover : Fun K "are_cover" "are_cover" s_are_cover f_are_cover fd_are_cover
  b_are_cover : Binds K fd_are_cover ["size", "sets", "taken"] []
  g_are_cover : mg "are_cover" = some (.ref f_are_cover)
  f_check_shares : Addr
  fd_check_shares : FuncData
  F_check_shares : Fun K "check_shares" "check_shares" s_check_shares f_check_shares fd_check_shares
  b_check_shares : Binds K fd_check_shares ["size", "sets", "taken", "shares"] []
  g_check_shares : mg "check_shares" = some (.ref f_check_shares)
  f_cover_bound : Addr
  fd_cover_bound : FuncData
  F_cover_bound : Fun K "cover_bound" "cover_bound" s_cover_bound f_cover_bound fd_cover_bound
  b_cover_bound : Binds K fd_cover_bound ["size", "sets", "shares"] []
  g_cover_bound : mg "cover_bound" = some (.ref f_cover_bound)
  f_law_numbers : Addr
  fd_law_numbers : FuncData
  F_law_numbers : Fun K "_law_numbers" "_law_numbers" s_law_numbers f_law_numbers fd_law_numbers
  b_law_numbers : Binds K fd_law_numbers ["script", "many"] []
  g_law_numbers : mg "_law_numbers" = some (.ref f_law_numbers)
  f_law_lowest : Addr
  fd_law_lowest : FuncData
  F_law_lowest : Fun K "_law_lowest" "_law_lowest" s_law_lowest f_law_lowest fd_law_lowest
  b_law_lowest : Binds K fd_law_lowest ["p", "q"] []
  g_law_lowest : mg "_law_lowest" = some (.ref f_law_lowest)
  f_law_plus : Addr
  fd_law_plus : FuncData
  F_law_plus : Fun K "_law_plus" "_law_plus" s_law_plus f_law_plus fd_law_plus
  b_law_plus : Binds K fd_law_plus ["first", "second"] []
  g_law_plus : mg "_law_plus" = some (.ref f_law_plus)
  f_law_added : Addr
  fd_law_added : FuncData
  F_law_added : Fun K "_law_added" "_law_added" s_law_added f_law_added fd_law_added
  b_law_added : Binds K fd_law_added ["rows"] []
  g_law_added : mg "_law_added" = some (.ref f_law_added)
  f_law_sets : Addr
  fd_law_sets : FuncData
  F_law_sets : Fun K "_law_sets" "_law_sets" s_law_sets f_law_sets fd_law_sets
  b_law_sets : Binds K fd_law_sets ["numbers", "at", "most", "many"] []
  g_law_sets : mg "_law_sets" = some (.ref f_law_sets)
  f_law_quick : Addr
  fd_law_quick : FuncData
  F_law_quick : Fun K "_law_quick" "_law_quick" s_law_quick f_law_quick fd_law_quick
  b_law_quick : Binds K fd_law_quick ["size", "sets"] []
  g_law_quick : mg "_law_quick" = some (.ref f_law_quick)
  f_law_refused : Addr
  fd_law_refused : FuncData
  F_law_refused : Fun K "_law_refused" "_law_refused" s_law_refused f_law_refused fd_law_refused
  b_law_refused : Binds K fd_law_refused ["way", "size", "sets"] []
  g_law_refused : mg "_law_refused" = some (.ref f_law_refused)
  f_law_refusals : Addr
  fd_law_refusals : FuncData
  F_law_refusals : Fun K "_law_refusals" "_law_refusals" s_law_refusals f_law_refusals fd_law_refusals
  b_law_refusals : Binds K fd_law_refusals ["numbers", "size", "sets"] []
  g_law_refusals : mg "_law_refusals" = some (.ref f_law_refusals)
  f_law : Addr
  fd_law : FuncData
  F_law : Fun K "law" "law" s_law f_law fd_law
  b_law : Binds K fd_law ["script"] []
  g_law : mg "law" = some (.ref f_law)
  c_Program : Addr
  g_Program : mg "Program" = some (.ref c_Program)
  cl_Program : Cls K c_Program
  mk_Program : Mk K c_Program f_Program___init__
  m_Program_prices : Meth K c_Program "prices" f_Program_prices
  m_Program_rows : Meth K c_Program "rows" f_Program_rows
  na_Program__prices : NoAttr K c_Program "_prices"
  na_Program__rows : NoAttr K c_Program "_rows"
  c_WebError : Addr
  x_WebError : OexC K c_WebError ∧ PySem.W.findIn K (.ref c_WebError) "at" = some none ∧ PySem.W.findIn K (.ref c_WebError) "__init__" = some (some (.ref f_WebError___init__)) ∧ PySem.W.typeIn K (.ref f_WebError___init__) = some (.type "function") ∧ mg "WebError" = some (.ref c_WebError)
  e_WebError : ExcC K c_WebError
  ef_WebError : XfC K c_WebError
  c_OutOfRange : Addr
  x_OutOfRange : OexC K c_OutOfRange ∧ PySem.W.findIn K (.ref c_OutOfRange) "at" = some none ∧ PySem.W.findIn K (.ref c_OutOfRange) "__init__" = some (some (.ref f_WebError___init__)) ∧ PySem.W.typeIn K (.ref f_WebError___init__) = some (.type "function") ∧ mg "OutOfRange" = some (.ref c_OutOfRange)
  e_OutOfRange : ExcC K c_OutOfRange
  ef_OutOfRange : XfC K c_OutOfRange
  c_BadPrice : Addr
  x_BadPrice : OexC K c_BadPrice ∧ PySem.W.findIn K (.ref c_BadPrice) "at" = some none ∧ PySem.W.findIn K (.ref c_BadPrice) "__init__" = some (some (.ref f_WebError___init__)) ∧ PySem.W.typeIn K (.ref f_WebError___init__) = some (.type "function") ∧ mg "BadPrice" = some (.ref c_BadPrice)
  e_BadPrice : ExcC K c_BadPrice
  ef_BadPrice : XfC K c_BadPrice
  c_TooMany : Addr
  x_TooMany : OexC K c_TooMany ∧ PySem.W.findIn K (.ref c_TooMany) "at" = some none ∧ PySem.W.findIn K (.ref c_TooMany) "__init__" = some (some (.ref f_WebError___init__)) ∧ PySem.W.typeIn K (.ref f_WebError___init__) = some (.type "function") ∧ mg "TooMany" = some (.ref c_TooMany)
  e_TooMany : ExcC K c_TooMany
  ef_TooMany : XfC K c_TooMany
  c_ZeroDivisor : Addr
  x_ZeroDivisor : OexC K c_ZeroDivisor ∧ PySem.W.findIn K (.ref c_ZeroDivisor) "at" = some none ∧ PySem.W.findIn K (.ref c_ZeroDivisor) "__init__" = some (some (.ref f_WebError___init__)) ∧ PySem.W.typeIn K (.ref f_WebError___init__) = some (.type "function") ∧ mg "ZeroDivisor" = some (.ref c_ZeroDivisor)
  e_ZeroDivisor : ExcC K c_ZeroDivisor
  ef_ZeroDivisor : XfC K c_ZeroDivisor
  c_BadRelation : Addr
  x_BadRelation : OexC K c_BadRelation ∧ PySem.W.findIn K (.ref c_BadRelation) "at" = some none ∧ PySem.W.findIn K (.ref c_BadRelation) "__init__" = some (some (.ref f_WebError___init__)) ∧ PySem.W.typeIn K (.ref f_WebError___init__) = some (.type "function") ∧ mg "BadRelation" = some (.ref c_BadRelation)
  e_BadRelation : ExcC K c_BadRelation
  ef_BadRelation : XfC K c_BadRelation
  c_WrongSize : Addr
  x_WrongSize : OexC K c_WrongSize ∧ PySem.W.findIn K (.ref c_WrongSize) "at" = some none ∧ PySem.W.findIn K (.ref c_WrongSize) "__init__" = some (some (.ref f_WebError___init__)) ∧ PySem.W.typeIn K (.ref f_WebError___init__) = some (.type "function") ∧ mg "WrongSize" = some (.ref c_WrongSize)
  e_WrongSize : ExcC K c_WrongSize
  ef_WrongSize : XfC K c_WrongSize
  c_BadSet : Addr
  x_BadSet : OexC K c_BadSet ∧ PySem.W.findIn K (.ref c_BadSet) "at" = some none ∧ PySem.W.findIn K (.ref c_BadSet) "__init__" = some (some (.ref f_WebError___init__)) ∧ PySem.W.typeIn K (.ref f_WebError___init__) = some (.type "function") ∧ mg "BadSet" = some (.ref c_BadSet)
  e_BadSet : ExcC K c_BadSet
  ef_BadSet : XfC K c_BadSet
  em_OutOfRange : PySem.W.exmOne K (.ref c_OutOfRange) (.ref c_WebError) = some true
  is_OutOfRange_OutOfRange : PySem.W.kitOne K (.ref c_OutOfRange) (.ref c_OutOfRange) = some true
  is_OutOfRange_BadPrice : PySem.W.kitOne K (.ref c_OutOfRange) (.ref c_BadPrice) = some false
  is_OutOfRange_TooMany : PySem.W.kitOne K (.ref c_OutOfRange) (.ref c_TooMany) = some false
  is_OutOfRange_ZeroDivisor : PySem.W.kitOne K (.ref c_OutOfRange) (.ref c_ZeroDivisor) = some false
  is_OutOfRange_BadRelation : PySem.W.kitOne K (.ref c_OutOfRange) (.ref c_BadRelation) = some false
  is_OutOfRange_WrongSize : PySem.W.kitOne K (.ref c_OutOfRange) (.ref c_WrongSize) = some false
  is_OutOfRange_BadSet : PySem.W.kitOne K (.ref c_OutOfRange) (.ref c_BadSet) = some false
  em_BadPrice : PySem.W.exmOne K (.ref c_BadPrice) (.ref c_WebError) = some true
  is_BadPrice_OutOfRange : PySem.W.kitOne K (.ref c_BadPrice) (.ref c_OutOfRange) = some false
  is_BadPrice_BadPrice : PySem.W.kitOne K (.ref c_BadPrice) (.ref c_BadPrice) = some true
  is_BadPrice_TooMany : PySem.W.kitOne K (.ref c_BadPrice) (.ref c_TooMany) = some false
  is_BadPrice_ZeroDivisor : PySem.W.kitOne K (.ref c_BadPrice) (.ref c_ZeroDivisor) = some false
  is_BadPrice_BadRelation : PySem.W.kitOne K (.ref c_BadPrice) (.ref c_BadRelation) = some false
  is_BadPrice_WrongSize : PySem.W.kitOne K (.ref c_BadPrice) (.ref c_WrongSize) = some false
  is_BadPrice_BadSet : PySem.W.kitOne K (.ref c_BadPrice) (.ref c_BadSet) = some false
  em_TooMany : PySem.W.exmOne K (.ref c_TooMany) (.ref c_WebError) = some true
  is_TooMany_OutOfRange : PySem.W.kitOne K (.ref c_TooMany) (.ref c_OutOfRange) = some false
  is_TooMany_BadPrice : PySem.W.kitOne K (.ref c_TooMany) (.ref c_BadPrice) = some false
  is_TooMany_TooMany : PySem.W.kitOne K (.ref c_TooMany) (.ref c_TooMany) = some true
  is_TooMany_ZeroDivisor : PySem.W.kitOne K (.ref c_TooMany) (.ref c_ZeroDivisor) = some false
  is_TooMany_BadRelation : PySem.W.kitOne K (.ref c_TooMany) (.ref c_BadRelation) = some false
  is_TooMany_WrongSize : PySem.W.kitOne K (.ref c_TooMany) (.ref c_WrongSize) = some false
  is_TooMany_BadSet : PySem.W.kitOne K (.ref c_TooMany) (.ref c_BadSet) = some false
  em_ZeroDivisor : PySem.W.exmOne K (.ref c_ZeroDivisor) (.ref c_WebError) = some true
  is_ZeroDivisor_OutOfRange : PySem.W.kitOne K (.ref c_ZeroDivisor) (.ref c_OutOfRange) = some false
  is_ZeroDivisor_BadPrice : PySem.W.kitOne K (.ref c_ZeroDivisor) (.ref c_BadPrice) = some false
  is_ZeroDivisor_TooMany : PySem.W.kitOne K (.ref c_ZeroDivisor) (.ref c_TooMany) = some false
  is_ZeroDivisor_ZeroDivisor : PySem.W.kitOne K (.ref c_ZeroDivisor) (.ref c_ZeroDivisor) = some true
  is_ZeroDivisor_BadRelation : PySem.W.kitOne K (.ref c_ZeroDivisor) (.ref c_BadRelation) = some false
  is_ZeroDivisor_WrongSize : PySem.W.kitOne K (.ref c_ZeroDivisor) (.ref c_WrongSize) = some false
  is_ZeroDivisor_BadSet : PySem.W.kitOne K (.ref c_ZeroDivisor) (.ref c_BadSet) = some false
  em_BadRelation : PySem.W.exmOne K (.ref c_BadRelation) (.ref c_WebError) = some true
  is_BadRelation_OutOfRange : PySem.W.kitOne K (.ref c_BadRelation) (.ref c_OutOfRange) = some false
  is_BadRelation_BadPrice : PySem.W.kitOne K (.ref c_BadRelation) (.ref c_BadPrice) = some false
  is_BadRelation_TooMany : PySem.W.kitOne K (.ref c_BadRelation) (.ref c_TooMany) = some false
  is_BadRelation_ZeroDivisor : PySem.W.kitOne K (.ref c_BadRelation) (.ref c_ZeroDivisor) = some false
  is_BadRelation_BadRelation : PySem.W.kitOne K (.ref c_BadRelation) (.ref c_BadRelation) = some true
  is_BadRelation_WrongSize : PySem.W.kitOne K (.ref c_BadRelation) (.ref c_WrongSize) = some false
  is_BadRelation_BadSet : PySem.W.kitOne K (.ref c_BadRelation) (.ref c_BadSet) = some false
  em_WrongSize : PySem.W.exmOne K (.ref c_WrongSize) (.ref c_WebError) = some true
  is_WrongSize_OutOfRange : PySem.W.kitOne K (.ref c_WrongSize) (.ref c_OutOfRange) = some false
  is_WrongSize_BadPrice : PySem.W.kitOne K (.ref c_WrongSize) (.ref c_BadPrice) = some false
  is_WrongSize_TooMany : PySem.W.kitOne K (.ref c_WrongSize) (.ref c_TooMany) = some false
  is_WrongSize_ZeroDivisor : PySem.W.kitOne K (.ref c_WrongSize) (.ref c_ZeroDivisor) = some false
  is_WrongSize_BadRelation : PySem.W.kitOne K (.ref c_WrongSize) (.ref c_BadRelation) = some false
  is_WrongSize_WrongSize : PySem.W.kitOne K (.ref c_WrongSize) (.ref c_WrongSize) = some true
  is_WrongSize_BadSet : PySem.W.kitOne K (.ref c_WrongSize) (.ref c_BadSet) = some false
  em_BadSet : PySem.W.exmOne K (.ref c_BadSet) (.ref c_WebError) = some true
  is_BadSet_OutOfRange : PySem.W.kitOne K (.ref c_BadSet) (.ref c_OutOfRange) = some false
  is_BadSet_BadPrice : PySem.W.kitOne K (.ref c_BadSet) (.ref c_BadPrice) = some false
  is_BadSet_TooMany : PySem.W.kitOne K (.ref c_BadSet) (.ref c_TooMany) = some false
  is_BadSet_ZeroDivisor : PySem.W.kitOne K (.ref c_BadSet) (.ref c_ZeroDivisor) = some false
  is_BadSet_BadRelation : PySem.W.kitOne K (.ref c_BadSet) (.ref c_BadRelation) = some false
  is_BadSet_WrongSize : PySem.W.kitOne K (.ref c_BadSet) (.ref c_WrongSize) = some false
  is_BadSet_BadSet : PySem.W.kitOne K (.ref c_BadSet) (.ref c_BadSet) = some true
  z_abs : mg "abs" = none
  z_all : mg "all" = none
  z_enumerate : mg "enumerate" = none
  z_int : mg "int" = none
  z_isinstance : mg "isinstance" = none
  z_len : mg "len" = none
  z_list : mg "list" = none
  z_max : mg "max" = none
  z_range : mg "range" = none
  z_repr : mg "repr" = none
  z_set : mg "set" = none
  z_sorted : mg "sorted" = none
  z_sum : mg "sum" = none
  z_gcd : mg "gcd" = some (.builtin "math.gcd")
  z_lcm : mg "lcm" = some (.builtin "math.lcm")
  t_MOST_PRICE : Tok
  k_MOST_PRICE : mg "MOST_PRICE" = some (.int 1048576 t_MOST_PRICE)
  t_MOST_VARIABLES : Tok
  k_MOST_VARIABLES : mg "MOST_VARIABLES" = some (.int 40 t_MOST_VARIABLES)
  t_MOST_ROWS : Tok
  k_MOST_ROWS : mg "MOST_ROWS" = some (.int 80 t_MOST_ROWS)
  t_MOST_ELEMENTS : Tok
  k_MOST_ELEMENTS : mg "MOST_ELEMENTS" = some (.int 40 t_MOST_ELEMENTS)
  t_MOST_SETS : Tok
  k_MOST_SETS : mg "MOST_SETS" = some (.int 40 t_MOST_SETS)
  c_RELATIONS : Addr
  k_RELATIONS : mg "RELATIONS" = some (.ref c_RELATIONS)
  q_RELATIONS : ∀ H : Hp, SqT K H c_RELATIONS ([PySem.Str.ofString "least", PySem.Str.ofString "most", PySem.Str.ofString "equal"].map V.str)
def Tx.kn {K : PySem.W.Frag} {mg : Str → Option Value} (T : Tx K mg) : List Addr := [T.c_WebError, T.c_OutOfRange, T.c_BadPrice, T.c_TooMany, T.c_ZeroDivisor, T.c_BadRelation, T.c_WrongSize, T.c_BadSet]
theorem Tx.kn_at {K : PySem.W.Frag} {mg : Str → Option Value} (T : Tx K mg) : ∀ C ∈ T.kn, XfC K C ∧ PySem.W.findIn K (.ref C) "at" = some none := fun C h => by
  unfold Tx.kn at h
  simp only [List.mem_cons, List.not_mem_nil, or_false] at h
  rcases h with rfl | rfl | rfl | rfl | rfl | rfl | rfl | rfl
  · exact ⟨T.ef_WebError, T.x_WebError.2.1⟩
  · exact ⟨T.ef_OutOfRange, T.x_OutOfRange.2.1⟩
  · exact ⟨T.ef_BadPrice, T.x_BadPrice.2.1⟩
  · exact ⟨T.ef_TooMany, T.x_TooMany.2.1⟩
  · exact ⟨T.ef_ZeroDivisor, T.x_ZeroDivisor.2.1⟩
  · exact ⟨T.ef_BadRelation, T.x_BadRelation.2.1⟩
  · exact ⟨T.ef_WrongSize, T.x_WrongSize.2.1⟩
  · exact ⟨T.ef_BadSet, T.x_BadSet.2.1⟩
theorem Tx.kn_is {K : PySem.W.Frag} {mg : Str → Option Value} (T : Tx K mg) : ∀ C ∈ T.kn, ExcC K C := fun C h => by
  unfold Tx.kn at h
  simp only [List.mem_cons, List.not_mem_nil, or_false] at h
  rcases h with rfl | rfl | rfl | rfl | rfl | rfl | rfl | rfl
  · exact T.e_WebError
  · exact T.e_OutOfRange
  · exact T.e_BadPrice
  · exact T.e_TooMany
  · exact T.e_ZeroDivisor
  · exact T.e_BadRelation
  · exact T.e_WrongSize
  · exact T.e_BadSet
section
variable {K : PySem.W.Frag} {mg : Str → Option Value}
abbrev Ob_Program : Type := (List Int) × (List ((List Int) × Str × Int))
def fo_Program (o : Ob_Program) : List (Str × PyData) := [("_prices", (eL eI).e o.1), ("_rows", (eL (eT3 (eL eI) eS eI)).e o.2)]
def vo_Program (T : Tx K mg) (o : Ob_Program) : Vl := .i T.c_Program (fo_Program o)
noncomputable def xs_is_ascending (T : Tx K mg) : XS K := (.seq (.set 2 (.neg (.int 1)))
    (.seq (.for_ (.list (.var 0)) (.name 3) (.post [3] (.seq (.ite (.not (.test (.chain O2.lt O2.lt (.var 2) (.var 3) (.var 1))))
    (.ret (.bool false))
    XS.nx)
    (.set 2 (.var 3)))))
    (.ret (.bool true))))
@[irreducible] noncomputable def fn_is_ascending (T : Tx K mg) : Fn := ⟨2, false, fun as => runX (xs_is_ascending T) false 2 as⟩
theorem fnf_is_ascending (T : Tx K mg) (as : List Av) : (fn_is_ascending T).f as = runX (xs_is_ascending T) false 2 as := by unfold fn_is_ascending; rfl
theorem fnm_is_ascending (T : Tx K mg) : (fn_is_ascending T).m = 2 := by unfold fn_is_ascending; rfl
theorem fno_is_ascending (T : Tx K mg) : (fn_is_ascending T).own = false := by unfold fn_is_ascending; rfl
@[irreducible] noncomputable def m_is_ascending (numbers : (List Int)) (many : Int) : Rs Bool :=
  ((Rs.ok (-1)).bind fun last =>
  (bindJ (forJ (fun (number : Int) (last1 : Int) =>
  (if (!(decide (last1 < number) && decide (number < many))) = true then
  (Rs.ok (LO.ex false))
  else (Rs.ok (LO.nx number)))) numbers last) fun (last1 : Int) =>
  (Rs.ok true)))
theorem r_is_ascending (T : Tx K mg) (numbers : (List Int)) (many : Int) : Si ((fn_is_ascending T).f [.v ((eL eI).v numbers), .v (eI.v many)]) (m_is_ascending numbers many) eB.v := by
  rw [fnf_is_ascending]
  exact si_runX (show SS (xs_is_ascending T) [.v ((eL eI).v numbers), .v (eI.v many), .x, .x] (m_is_ascending numbers many) (PF false eB.v) from by
    unfold xs_is_ascending m_is_ascending
    exact (ss_setI (st1 := fun last => [.v ((eL eI).v numbers), .v (eI.v many), .v (eI.v last), .x]) (sv_neg sv_int) (fun _ => rfl) fun last =>
  (ss_forJ (F := eI.e) (es := fun (last1 : Int) => [.v ((eL eI).v numbers), .v (eI.v many), .v (eI.v last1), .x]) (s0 := last) (si_list (sw_varv rfl)) rfl (fun _ => rfl)
  (fun (number : Int) (last1 : Int) => ⟨[.v ((eL eI).v numbers), .v (eI.v many), .v (eI.v last1), .v (eI.v number)], rfl, rfl,
  (ss_post (ss_iteX (st_not (st_test (sv_chain ⟨rfl, rfl, rfl⟩ (sv_var rfl) (sv_var rfl) (sv_var rfl) so_lt so_lt)))
  (ss_ret sv_bool ⟨⟨rfl, rfl⟩, rfl⟩)
  (ss_nxS (ss_last (ss_set (st1 := [.v ((eL eI).v numbers), .v (eI.v many), .v (eI.v number), .v (eI.v number)]) (sv_var rfl) rfl
  (ss_nx (.inl rfl)))))))⟩) fun (last1 : Int) =>
  (ss_ret sv_bool rfl))))
noncomputable def xs_is_price (T : Tx K mg) : XS K := (.ret (.chain O2.le O2.le (.int 0) (.var 0) (.int 1048576)))
@[irreducible] noncomputable def fn_is_price (T : Tx K mg) : Fn := ⟨1, false, fun as => runX (xs_is_price T) false 0 as⟩
theorem fnf_is_price (T : Tx K mg) (as : List Av) : (fn_is_price T).f as = runX (xs_is_price T) false 0 as := by unfold fn_is_price; rfl
theorem fnm_is_price (T : Tx K mg) : (fn_is_price T).m = 1 := by unfold fn_is_price; rfl
theorem fno_is_price (T : Tx K mg) : (fn_is_price T).own = false := by unfold fn_is_price; rfl
@[irreducible] noncomputable def m_is_price (price : Int) : Rs Bool :=
  (Rs.ok (decide (0 ≤ price) && decide (price ≤ 1048576)))
theorem r_is_price (T : Tx K mg) (price : Int) : Si ((fn_is_price T).f [.v (eI.v price)]) (m_is_price price) eB.v := by
  rw [fnf_is_price]
  exact si_runX (show SS (xs_is_price T) [.v (eI.v price)] (m_is_price price) (PF false eB.v) from by
    unfold xs_is_price m_is_price
    exact (ss_ret (sv_chain ⟨rfl, rfl, rfl⟩ sv_int (sv_var rfl) sv_int so_le so_le) rfl))
noncomputable def xs_fraction (T : Tx K mg) : XS K := (.seq (.ite (.test (.op O2.eq (.var 1) (.int 0)))
    (.raise T.c_ZeroDivisor T.x_ZeroDivisor.1 T.x_ZeroDivisor.2.1 (.cons false (.var 0) .nil))
    XS.nx)
    (.seq (.set 2 (.bi Bi.gcd (.cons false (.var 0) (.cons false (.var 1) .nil))))
    (.seq (.ite (.test (.op O2.lt (.var 1) (.int 0)))
    (.set 2 (.neg (.var 2)))
    XS.nx)
    (.ret (.tup (.cons false (.op O2.div (.var 0) (.var 2)) (.cons false (.op O2.div (.var 1) (.var 2)) .nil)))))))
@[irreducible] noncomputable def fn_fraction (T : Tx K mg) : Fn := ⟨2, false, fun as => runX (xs_fraction T) false 1 as⟩
theorem fnf_fraction (T : Tx K mg) (as : List Av) : (fn_fraction T).f as = runX (xs_fraction T) false 1 as := by unfold fn_fraction; rfl
theorem fnm_fraction (T : Tx K mg) : (fn_fraction T).m = 2 := by unfold fn_fraction; rfl
theorem fno_fraction (T : Tx K mg) : (fn_fraction T).own = false := by unfold fn_fraction; rfl
@[irreducible] noncomputable def m_fraction (T : Tx K mg) (numerator : Int) (denominator : Int) : Rs (Int × Int) :=
  (if (decide (denominator = 0)) = true then
  (Rs.ex T.c_ZeroDivisor numerator)
  else ((Rs.ok ((Int.gcd numerator denominator : Nat) : Int)).bind fun common =>
  (((if (decide (denominator < 0)) = true then
  ((Rs.ok (-common)).bind fun common1 =>
  (Rs.ok common1))
  else (Rs.ok common))).bind fun (common2 : Int) =>
  (((divC numerator common2)).bind fun u => ((divC denominator common2)).bind fun u1 => .ok (u, u1)))))
theorem r_fraction (T : Tx K mg) (numerator : Int) (denominator : Int) : Si ((fn_fraction T).f [.v (eI.v numerator), .v (eI.v denominator)]) (m_fraction T numerator denominator) (eT2 eI eI).v := by
  rw [fnf_fraction]
  exact si_runX (show SS (xs_fraction T) [.v (eI.v numerator), .v (eI.v denominator), .x] (m_fraction T numerator denominator) (PF false (eT2 eI eI).v) from by
    unfold xs_fraction m_fraction
    exact (ss_iteX (st_test (sv_op (sx_p (sv_var rfl) (sx_p sv_int so_eqI))))
  (ss_raise (sv_var rfl))
  (ss_nxS (ss_setI (st1 := fun common => [.v (eI.v numerator), .v (eI.v denominator), .v (eI.v common)]) (sv_bi (sc_p (sv_var rfl) (sc_p (sv_var rfl) (sc_nil so_gcd)))) (fun _ => rfl) fun common =>
  (ss_seq (es := fun (common2 : Int) => [.v (eI.v numerator), .v (eI.v denominator), .v (eI.v common2)]) (ss_ite (st_test (sv_op (sx_p (sv_var rfl) (sx_p sv_int so_lt))))
  (ss_last (ss_setI (st1 := fun common1 => [.v (eI.v numerator), .v (eI.v denominator), .v (eI.v common1)]) (sv_neg (sv_var rfl)) (fun _ => rfl) fun common1 =>
  (ss_nx rfl)))
  (ss_nx rfl)) (fun _ => rfl) fun common2 =>
  (ss_retM (sv_tup (sc_i (sv_op (sx_p (sv_var rfl) (sx_p (sv_var rfl) so_div))) fun u => (sc_i (sv_op (sx_p (sv_var rfl) (sx_p (sv_var rfl) so_div))) fun u1 => (sc_nil (si_tup (e := (eT2 eI eI).v) rfl rfl))))) fun _ => rfl))))))
noncomputable def xs_times (T : Tx K mg) : XS K := (.ret (.call (fn_fraction T) (fno_fraction T) (.cons false (.op O2.mul (.op O2.ixT (.var 0) (.int 0)) (.op O2.ixT (.var 1) (.int 0))) (.cons false (.op O2.mul (.op O2.ixT (.var 0) (.int 1)) (.op O2.ixT (.var 1) (.int 1))) .nil))))
@[irreducible] noncomputable def fn_times (T : Tx K mg) : Fn := ⟨2, false, fun as => runX (xs_times T) false 0 as⟩
theorem fnf_times (T : Tx K mg) (as : List Av) : (fn_times T).f as = runX (xs_times T) false 0 as := by unfold fn_times; rfl
theorem fnm_times (T : Tx K mg) : (fn_times T).m = 2 := by unfold fn_times; rfl
theorem fno_times (T : Tx K mg) : (fn_times T).own = false := by unfold fn_times; rfl
@[irreducible] noncomputable def m_times (T : Tx K mg) (first : (Int × Int)) (second : (Int × Int)) : Rs (Int × Int) :=
  (((mulC first.1 second.1)).bind fun u => ((mulC first.2 second.2)).bind fun u1 => m_fraction T u u1)
theorem r_times (T : Tx K mg) (first : (Int × Int)) (second : (Int × Int)) : Si ((fn_times T).f [.v ((eT2 eI eI).v first), .v ((eT2 eI eI).v second)]) (m_times T first second) (eT2 eI eI).v := by
  rw [fnf_times]
  exact si_runX (show SS (xs_times T) [.v ((eT2 eI eI).v first), .v ((eT2 eI eI).v second)] (m_times T first second) (PF false (eT2 eI eI).v) from by
    unfold xs_times m_times
    exact (ss_retM (sv_call (sc_i (sv_op (sx_p (sv_op (sx_p (sv_var rfl) (sx_p sv_int (so_ixT (E := eI) rfl)))) (sx_p (sv_op (sx_p (sv_var rfl) (sx_p sv_int (so_ixT (E := eI) rfl)))) so_mul))) fun u => (sc_i (sv_op (sx_p (sv_op (sx_p (sv_var rfl) (sx_p sv_int (so_ixT (E := eI) rfl)))) (sx_p (sv_op (sx_p (sv_var rfl) (sx_p sv_int (so_ixT (E := eI) rfl)))) so_mul))) fun u1 => (sc_nil (si_fn (fnm_fraction T) (r_fraction T _ _)))))) fun _ => rfl))
noncomputable def xs_over (T : Tx K mg) : XS K := (.ret (.call (fn_fraction T) (fno_fraction T) (.cons false (.op O2.mul (.op O2.ixT (.var 0) (.int 0)) (.op O2.ixT (.var 1) (.int 1))) (.cons false (.op O2.mul (.op O2.ixT (.var 0) (.int 1)) (.op O2.ixT (.var 1) (.int 0))) .nil))))
@[irreducible] noncomputable def fn_over (T : Tx K mg) : Fn := ⟨2, false, fun as => runX (xs_over T) false 0 as⟩
theorem fnf_over (T : Tx K mg) (as : List Av) : (fn_over T).f as = runX (xs_over T) false 0 as := by unfold fn_over; rfl
theorem fnm_over (T : Tx K mg) : (fn_over T).m = 2 := by unfold fn_over; rfl
theorem fno_over (T : Tx K mg) : (fn_over T).own = false := by unfold fn_over; rfl
@[irreducible] noncomputable def m_over (T : Tx K mg) (first : (Int × Int)) (second : (Int × Int)) : Rs (Int × Int) :=
  (((mulC first.1 second.2)).bind fun u => ((mulC first.2 second.1)).bind fun u1 => m_fraction T u u1)
theorem r_over (T : Tx K mg) (first : (Int × Int)) (second : (Int × Int)) : Si ((fn_over T).f [.v ((eT2 eI eI).v first), .v ((eT2 eI eI).v second)]) (m_over T first second) (eT2 eI eI).v := by
  rw [fnf_over]
  exact si_runX (show SS (xs_over T) [.v ((eT2 eI eI).v first), .v ((eT2 eI eI).v second)] (m_over T first second) (PF false (eT2 eI eI).v) from by
    unfold xs_over m_over
    exact (ss_retM (sv_call (sc_i (sv_op (sx_p (sv_op (sx_p (sv_var rfl) (sx_p sv_int (so_ixT (E := eI) rfl)))) (sx_p (sv_op (sx_p (sv_var rfl) (sx_p sv_int (so_ixT (E := eI) rfl)))) so_mul))) fun u => (sc_i (sv_op (sx_p (sv_op (sx_p (sv_var rfl) (sx_p sv_int (so_ixT (E := eI) rfl)))) (sx_p (sv_op (sx_p (sv_var rfl) (sx_p sv_int (so_ixT (E := eI) rfl)))) so_mul))) fun u1 => (sc_nil (si_fn (fnm_fraction T) (r_fraction T _ _)))))) fun _ => rfl))
noncomputable def xs_is_less (T : Tx K mg) : XS K := (.ret (.op O2.lt (.op O2.mul (.op O2.ixT (.var 0) (.int 0)) (.op O2.ixT (.var 1) (.int 1))) (.op O2.mul (.op O2.ixT (.var 1) (.int 0)) (.op O2.ixT (.var 0) (.int 1)))))
@[irreducible] noncomputable def fn_is_less (T : Tx K mg) : Fn := ⟨2, false, fun as => runX (xs_is_less T) false 0 as⟩
theorem fnf_is_less (T : Tx K mg) (as : List Av) : (fn_is_less T).f as = runX (xs_is_less T) false 0 as := by unfold fn_is_less; rfl
theorem fnm_is_less (T : Tx K mg) : (fn_is_less T).m = 2 := by unfold fn_is_less; rfl
theorem fno_is_less (T : Tx K mg) : (fn_is_less T).own = false := by unfold fn_is_less; rfl
@[irreducible] noncomputable def m_is_less (first : (Int × Int)) (second : (Int × Int)) : Rs Bool :=
  (((mulC first.1 second.2)).bind fun u => ((mulC second.1 first.2)).bind fun u1 => Rs.ok (decide (u < u1)))
theorem r_is_less (T : Tx K mg) (first : (Int × Int)) (second : (Int × Int)) : Si ((fn_is_less T).f [.v ((eT2 eI eI).v first), .v ((eT2 eI eI).v second)]) (m_is_less first second) eB.v := by
  rw [fnf_is_less]
  exact si_runX (show SS (xs_is_less T) [.v ((eT2 eI eI).v first), .v ((eT2 eI eI).v second)] (m_is_less first second) (PF false eB.v) from by
    unfold xs_is_less m_is_less
    exact (ss_retM (sv_op (sx_i (sv_op (sx_p (sv_op (sx_p (sv_var rfl) (sx_p sv_int (so_ixT (E := eI) rfl)))) (sx_p (sv_op (sx_p (sv_var rfl) (sx_p sv_int (so_ixT (E := eI) rfl)))) so_mul))) fun u => (sx_i (sv_op (sx_p (sv_op (sx_p (sv_var rfl) (sx_p sv_int (so_ixT (E := eI) rfl)))) (sx_p (sv_op (sx_p (sv_var rfl) (sx_p sv_int (so_ixT (E := eI) rfl)))) so_mul))) fun u1 => so_lt))) fun _ => rfl))
noncomputable def xs_scaled (T : Tx K mg) : XS K := (.seq (.set 1 (.int 1))
    (.seq (.for_ (.list (.var 0)) (.name 2) (.post [2] (.set 1 (.bi Bi.lcm (.cons false (.var 1) (.cons false (.op O2.ixT (.var 2) (.int 1)) .nil))))))
    (.ret (.tup (.cons false (XN.e (XN.lc (.list (.var 0)) (.name 2) .yes (.op O2.mul (.op O2.ixT (.var 2) (.int 0)) (.op O2.div (.var 1) (.op O2.ixT (.var 2) (.int 1)))) [2])) (.cons false (.var 1) .nil))))))
@[irreducible] noncomputable def fn_scaled (T : Tx K mg) : Fn := ⟨1, false, fun as => runX (xs_scaled T) false 2 as⟩
theorem fnf_scaled (T : Tx K mg) (as : List Av) : (fn_scaled T).f as = runX (xs_scaled T) false 2 as := by unfold fn_scaled; rfl
theorem fnm_scaled (T : Tx K mg) : (fn_scaled T).m = 1 := by unfold fn_scaled; rfl
theorem fno_scaled (T : Tx K mg) : (fn_scaled T).own = false := by unfold fn_scaled; rfl
@[irreducible] noncomputable def m_scaled (fractions : (List (Int × Int))) : Rs ((List Int) × Int) :=
  ((forR (fun (pair : (Int × Int)) (scale : Int) =>
  (((lcmC scale pair.2)).bind fun scale1 =>
  (Rs.ok scale1))) fractions 1).bind fun (scale : Int) =>
  ((lcM (β := Int) fractions (fun (pair1 : (Int × Int)) => (Rs.ok true)) (fun (pair1 : (Int × Int)) => (((divC scale pair1.2)).bind fun u => (mulC pair1.1 u)))).bind fun u1 => .ok (u1, scale)))
theorem r_scaled (T : Tx K mg) (fractions : (List (Int × Int))) : Si ((fn_scaled T).f [.v ((eL (eT2 eI eI)).v fractions)]) (m_scaled fractions) (eT2 (eL eI) eI).v := by
  rw [fnf_scaled]
  exact si_runX (show SS (xs_scaled T) [.v ((eL (eT2 eI eI)).v fractions), .x, .x] (m_scaled fractions) (PF false (eT2 (eL eI) eI).v) from by
    unfold xs_scaled m_scaled
    exact (ss_set (st1 := [.v ((eL (eT2 eI eI)).v fractions), .v (eI.v 1), .x]) sv_int rfl
  (ss_forR (F := (eT2 eI eI).e) (es := fun (scale : Int) => [.v ((eL (eT2 eI eI)).v fractions), .v (eI.v scale), .x]) (s0 := 1) (si_list (sw_varv rfl)) rfl (fun _ => rfl)
  (fun (pair : (Int × Int)) (scale : Int) => ⟨[.v ((eL (eT2 eI eI)).v fractions), .v (eI.v scale), .v ((eT2 eI eI).v pair)], rfl, rfl,
  (ss_post (ss_last (ss_setI (st1 := fun scale1 => [.v ((eL (eT2 eI eI)).v fractions), .v (eI.v scale1), .v ((eT2 eI eI).v pair)]) (sv_bi (sc_p (sv_var rfl) (sc_p (sv_op (sx_p (sv_var rfl) (sx_p sv_int (so_ixT (E := eI) rfl)))) (sc_nil so_lcm)))) (fun _ => rfl) fun scale1 =>
  (ss_nx (.inl rfl)))))⟩) fun (scale : Int) =>
  (ss_retM (sv_tup (sc_i (sv_eE (sn_lc (E := eI) (F := (eT2 eI eI)) (si_list (sw_varv rfl)) rfl rfl (fun (pair1 : (Int × Int)) => ⟨[.v ((eL (eT2 eI eI)).v fractions), .v (eI.v scale), .v ((eT2 eI eI).v pair1)], rfl, st_yes, (sv_op (sx_p (sv_op (sx_p (sv_var rfl) (sx_p sv_int (so_ixT (E := eI) rfl)))) (sx_i (sv_op (sx_p (sv_var rfl) (sx_p (sv_op (sx_p (sv_var rfl) (sx_p sv_int (so_ixT (E := eI) rfl)))) so_div))) fun u => so_mul)))⟩))) fun u1 => (sc_p (sv_var rfl) (sc_nil (si_tup (e := (eT2 (eL eI) eI).v) rfl rfl))))) fun _ => rfl))))
noncomputable def xs_added (T : Tx K mg) : XS K := (.seq (.asg (.tup (.cons (.name 1) (.cons (.name 2) .nil))) (.call (fn_scaled T) (fno_scaled T) (.cons false (.var 0) .nil)))
    (.ret (.call (fn_fraction T) (fno_fraction T) (.cons false (.bi Bi.sum (.cons true (.var 1) .nil)) (.cons false (.var 2) .nil)))))
@[irreducible] noncomputable def fn_added (T : Tx K mg) : Fn := ⟨1, false, fun as => runX (xs_added T) false 2 as⟩
theorem fnf_added (T : Tx K mg) (as : List Av) : (fn_added T).f as = runX (xs_added T) false 2 as := by unfold fn_added; rfl
theorem fnm_added (T : Tx K mg) : (fn_added T).m = 1 := by unfold fn_added; rfl
theorem fno_added (T : Tx K mg) : (fn_added T).own = false := by unfold fn_added; rfl
@[irreducible] noncomputable def m_added (T : Tx K mg) (fractions : (List (Int × Int))) : Rs (Int × Int) :=
  ((m_scaled fractions).bind fun p =>
  (m_fraction T p.1.sum p.2))
theorem r_added (T : Tx K mg) (fractions : (List (Int × Int))) : Si ((fn_added T).f [.v ((eL (eT2 eI eI)).v fractions)]) (m_added T fractions) (eT2 eI eI).v := by
  rw [fnf_added]
  exact si_runX (show SS (xs_added T) [.v ((eL (eT2 eI eI)).v fractions), .x, .x] (m_added T fractions) (PF false (eT2 eI eI).v) from by
    unfold xs_added m_added
    exact (ss_asgI (st1 := fun (p : ((List Int) × Int)) => [.v ((eL (eT2 eI eI)).v fractions), .v ((eL eI).v p.1), .v (eI.v p.2)]) (sv_call (sc_p (sv_var rfl) (sc_nil (si_fn (fnm_scaled T) (r_scaled T _))))) (fun _ => rfl) (fun _ => rfl) (fun _ => rfl) fun p =>
  (ss_retM (sv_call (sc_p (sv_bi (sc_lp (sl_varv rfl) (sc_nil so_sum))) (sc_p (sv_var rfl) (sc_nil (si_fn (fnm_fraction T) (r_fraction T _ _)))))) fun _ => rfl)))
noncomputable def xs_Program___init__ (T : Tx K mg) : XS K := (.seq (.ite (.not (.test (.chain O2.le O2.le (.int 1) (.bi Bi.len (.cons true (.var 1) .nil)) (.int 40))))
    (.raise T.c_OutOfRange T.x_OutOfRange.1 T.x_OutOfRange.2.1 (.cons false (.bi Bi.len (.cons true (.var 1) .nil)) .nil))
    XS.nx)
    (.seq (.ite (.test (.op O2.gt (.bi Bi.len (.cons true (.var 2) .nil)) (.int 80)))
    (.raise T.c_TooMany T.x_TooMany.1 T.x_TooMany.2.1 (.cons false (.bi Bi.len (.cons true (.var 2) .nil)) .nil))
    XS.nx)
    (.seq (.for_ (.enum (.var 2)) (.tup (.cons (.name 3) (.cons (.tup (.cons (.name 4) (.cons (.name 5) (.cons (.name 6) .nil)))) .nil))) (.post [3, 4, 5, 6] (.seq (.ite (.test (.op O2.ne (.bi Bi.len (.cons true (.var 4) .nil)) (.bi Bi.len (.cons true (.var 1) .nil))))
    (.raise T.c_WrongSize T.x_WrongSize.1 T.x_WrongSize.2.1 (.cons false (.var 3) .nil))
    XS.nx)
    (.ite (.test (.inK true (.var 5) T.c_RELATIONS [PySem.Str.ofString "least", PySem.Str.ofString "most", PySem.Str.ofString "equal"] T.q_RELATIONS))
    (.raise T.c_BadRelation T.x_BadRelation.1 T.x_BadRelation.2.1 (.cons false (.var 3) .nil))
    XS.nx))))
    (.seq (.setfld 0 T.c_Program T.cl_Program "_prices" T.na_Program__prices (XN.e (XN.bi BiN.list (.cons true (.var 1) .nil))))
    (.setfld 0 T.c_Program T.cl_Program "_rows" T.na_Program__rows (XN.e (XN.lc (.list (.var 2)) (.tup (.cons (.name 4) (.cons (.name 5) (.cons (.name 7) .nil)))) .yes (.tup (.cons false (XN.e (XN.bi BiN.list (.cons true (.var 4) .nil))) (.cons false (.var 5) (.cons false (.var 7) .nil)))) [4, 5, 7])))))))
@[irreducible] noncomputable def m_Program___init__ (T : Tx K mg) (prices : (List Int)) (rows : (List ((List Int) × Str × Int))) : Rs Ob_Program :=
  (if (!(decide (1 ≤ (lenI prices)) && decide ((lenI prices) ≤ 40))) = true then
  (Rs.ex T.c_OutOfRange (lenI prices))
  else (if (decide ((lenI rows) > 80)) = true then
  (Rs.ex T.c_TooMany (lenI rows))
  else ((forR (fun (x : (Int × ((List Int) × Str × Int))) (_ : Unit) =>
  (if (!decide ((lenI x.2.1) = (lenI prices))) = true then
  (Rs.ex T.c_WrongSize x.1)
  else (if (if true then !decide (x.2.2.1 ∈ [PySem.Str.ofString "least", PySem.Str.ofString "most", PySem.Str.ofString "equal"]) else decide (x.2.2.1 ∈ [PySem.Str.ofString "least", PySem.Str.ofString "most", PySem.Str.ofString "equal"])) = true then
  (Rs.ex T.c_BadRelation x.1)
  else (Rs.ok ())))) (enumL rows) ()).bind fun (_ : Unit) =>
  ((lcM (β := ((List Int) × Str × Int)) rows (fun (x1 : ((List Int) × Str × Int)) => (Rs.ok true)) (fun (x1 : ((List Int) × Str × Int)) => (Rs.ok (x1.1, x1.2.1, x1.2.2)))).bind fun rows1 =>
  (Rs.ok (prices, rows1))))))
@[irreducible] noncomputable def fn_Program___init__ (T : Tx K mg) : FnI := FnI.of 2 (fun t : (List Int) × (List ((List Int) × Str × Int)) => [.v ((eL eI).v t.1), .v ((eL (eT3 (eL eI) eS eI)).v t.2)]) (fun t => m_Program___init__ T t.1 t.2) fo_Program
theorem fnm_Program___init__ (T : Tx K mg) : (fn_Program___init__ T).m = 2 := by unfold fn_Program___init__; rfl
theorem r0_Program___init__ (T : Tx K mg) (prices : (List Int)) (rows : (List ((List Int) × Str × Int))) (a : Addr) : Si (runI (xs_Program___init__ T) T.c_Program a 5 [.v ((eL eI).v prices), .v ((eL (eT3 (eL eI) eS eI)).v rows)]) (m_Program___init__ T prices rows) fo_Program := si_runI (show SS (xs_Program___init__ T) [.oi T.c_Program a [], .v ((eL eI).v prices), .v ((eL (eT3 (eL eI) eS eI)).v rows), .x, .x, .x, .x, .x] (m_Program___init__ T prices rows) (PIn T.c_Program a fo_Program) from by
  unfold xs_Program___init__ m_Program___init__
  exact (ss_iteX (st_not (st_test (sv_chain ⟨rfl, rfl, rfl⟩ sv_int (sv_bi (sc_lp (sl_varv rfl) (sc_nil so_len))) sv_int so_le so_le)))
  (ss_raise (sv_bi (sc_lp (sl_varv rfl) (sc_nil so_len))))
  (ss_nxS (ss_iteX (st_test (sv_op (sx_p (sv_bi (sc_lp (sl_varv rfl) (sc_nil so_len))) (sx_p sv_int so_gt))))
  (ss_raise (sv_bi (sc_lp (sl_varv rfl) (sc_nil so_len))))
  (ss_nxS (ss_forR (F := (eT2 eI (eT3 (eL eI) eS eI)).e) (es := fun (_ : Unit) => [.oi T.c_Program a [], .v ((eL eI).v prices), .v ((eL (eT3 (eL eI) eS eI)).v rows), .x, .x, .x, .x, .x]) (s0 := ()) (si_enum (sw_varv rfl)) rfl (fun _ => rfl)
  (fun (x : (Int × ((List Int) × Str × Int))) (_ : Unit) => ⟨[.oi T.c_Program a [], .v ((eL eI).v prices), .v ((eL (eT3 (eL eI) eS eI)).v rows), .v (eI.v x.1), .v ((eL eI).v x.2.1), .v (eS.v x.2.2.1), .v (eI.v x.2.2.2), .x], rfl, rfl,
  (ss_post (ss_iteX (st_test (sv_op (sx_p (sv_bi (sc_lp (sl_varv rfl) (sc_nil so_len))) (sx_p (sv_bi (sc_lp (sl_varv rfl) (sc_nil so_len))) so_neI))))
  (ss_raise (sv_var rfl))
  (ss_nxS (ss_ite (st_test (sv_inK (sv_var rfl)))
  (ss_raise (sv_var rfl))
  (ss_nx (.inl rfl))))))⟩) fun (_ : Unit) =>
  (ss_setfld (E := (eL eI)) (st1 := [.oi T.c_Program a [("_prices", (eL eI).e prices)], .v ((eL eI).v prices), .v ((eL (eT3 (eL eI) eS eI)).v rows), .x, .x, .x, .x, .x]) rfl rfl rfl (sv_eE (sn_bi (sc_lp (sl_varv rfl) (sc_nil so_list)))) rfl
  (ss_last (ss_setfldI (E := (eL (eT3 (eL eI) eS eI))) (st1 := fun rows1 => [.oi T.c_Program a [("_prices", (eL eI).e prices), ("_rows", (eL (eT3 (eL eI) eS eI)).e rows1)], .v ((eL eI).v prices), .v ((eL (eT3 (eL eI) eS eI)).v rows), .x, .x, .x, .x, .x]) rfl rfl rfl (sv_eE (sn_lc (E := (eT3 (eL eI) eS eI)) (F := (eT3 (eL eI) eS eI)) (si_list (sw_varv rfl)) rfl rfl (fun (x1 : ((List Int) × Str × Int)) => ⟨[.oi T.c_Program a [("_prices", (eL eI).e prices)], .v ((eL eI).v prices), .v ((eL (eT3 (eL eI) eS eI)).v rows), .x, .v ((eL eI).v x1.1), .v (eS.v x1.2.1), .x, .v (eI.v x1.2.2)], rfl, st_yes, (sv_tup (sc_p (sv_eE (sn_bi (sc_lp (sl_varv rfl) (sc_nil so_list)))) (sc_p (sv_var rfl) (sc_p (sv_var rfl) (sc_nil (si_tup (e := (eT3 (eL eI) eS eI).v) rfl rfl))))))⟩))) (fun _ => rfl) fun rows1 =>
  (ss_nx (pi_nx rfl rfl)))))))))))
theorem r_Program___init__ (T : Tx K mg) (prices : (List Int)) (rows : (List ((List Int) × Str × Int))) : Si ((fn_Program___init__ T).f [.v ((eL eI).v prices), .v ((eL (eT3 (eL eI) eS eI)).v rows)]) (m_Program___init__ T prices rows) fo_Program := by
  unfold fn_Program___init__
  exact FnI.of_si (dec := (fun t : (List Int) × (List ((List Int) × Str × Int)) => [.v ((eL eI).v t.1), .v ((eL (eT3 (eL eI) eS eI)).v t.2)])) (M := fun t => m_Program___init__ T t.1 t.2) (fs := fo_Program) (fun t t' h => by
    obtain ⟨prices_, rows_⟩ := t
    obtain ⟨prices_', rows_'⟩ := t'
    simp only [List.cons.injEq, Av.v.injEq, En.v, Vl.d.injEq, Vl.i.injEq, and_true, true_and] at h
    obtain ⟨h0, h1⟩ := h
    have e0 := EqV.inj h0
    subst e0
    have e1 := EqV.inj h1
    subst e1
    rfl) (prices, rows)
theorem run_Program___init__ (T : Tx K mg) (xs : List Av) (hn : (fn_Program___init__ T).f xs ≠ .no) (a : Addr) : runI (xs_Program___init__ T) T.c_Program a 5 xs = (fn_Program___init__ T).f xs := by
  unfold fn_Program___init__ at hn ⊢
  exact FnI.of_run (fun t a => r0_Program___init__ T t.1 t.2 a) xs hn a
noncomputable def xs_Program_prices (T : Tx K mg) : XS K := (.ret (XN.e (XN.bi BiN.list (.cons true (.fld T.c_Program T.cl_Program "_prices" T.na_Program__prices (.var 0)) .nil))))
@[irreducible] noncomputable def fn_Program_prices (T : Tx K mg) : Fn := ⟨1, false, fun as => runX (xs_Program_prices T) false 0 as⟩
theorem fnf_Program_prices (T : Tx K mg) (as : List Av) : (fn_Program_prices T).f as = runX (xs_Program_prices T) false 0 as := by unfold fn_Program_prices; rfl
theorem fnm_Program_prices (T : Tx K mg) : (fn_Program_prices T).m = 1 := by unfold fn_Program_prices; rfl
theorem fno_Program_prices (T : Tx K mg) : (fn_Program_prices T).own = false := by unfold fn_Program_prices; rfl
@[irreducible] noncomputable def m_Program_prices (self : Ob_Program) : Rs (List Int) :=
  (Rs.ok self.1)
theorem r_Program_prices (T : Tx K mg) (self : Ob_Program) : Si ((fn_Program_prices T).f [.v ((vo_Program T) self)]) (m_Program_prices self) (eL eI).v := by
  rw [fnf_Program_prices]
  exact si_runX (show SS (xs_Program_prices T) [.v ((vo_Program T) self)] (m_Program_prices self) (PF false (eL eI).v) from by
    unfold xs_Program_prices m_Program_prices
    exact (ss_ret (sv_eE (sn_bi (sc_lp (sl_ofE (sv_fld (E := (eL eI)) (sv_var rfl) rfl rfl) rfl) (sc_nil so_list)))) rfl))
noncomputable def xs_Program_rows (T : Tx K mg) : XS K := (.ret (XN.e (XN.lc (.list (.fld T.c_Program T.cl_Program "_rows" T.na_Program__rows (.var 0))) (.tup (.cons (.name 1) (.cons (.name 2) (.cons (.name 3) .nil)))) .yes (.tup (.cons false (XN.e (XN.bi BiN.list (.cons true (.var 1) .nil))) (.cons false (.var 2) (.cons false (.var 3) .nil)))) [1, 2, 3])))
@[irreducible] noncomputable def fn_Program_rows (T : Tx K mg) : Fn := ⟨1, false, fun as => runX (xs_Program_rows T) false 3 as⟩
theorem fnf_Program_rows (T : Tx K mg) (as : List Av) : (fn_Program_rows T).f as = runX (xs_Program_rows T) false 3 as := by unfold fn_Program_rows; rfl
theorem fnm_Program_rows (T : Tx K mg) : (fn_Program_rows T).m = 1 := by unfold fn_Program_rows; rfl
theorem fno_Program_rows (T : Tx K mg) : (fn_Program_rows T).own = false := by unfold fn_Program_rows; rfl
@[irreducible] noncomputable def m_Program_rows (self : Ob_Program) : Rs (List ((List Int) × Str × Int)) :=
  (lcM (β := ((List Int) × Str × Int)) self.2 (fun (x : ((List Int) × Str × Int)) => (Rs.ok true)) (fun (x : ((List Int) × Str × Int)) => (Rs.ok (x.1, x.2.1, x.2.2))))
theorem r_Program_rows (T : Tx K mg) (self : Ob_Program) : Si ((fn_Program_rows T).f [.v ((vo_Program T) self)]) (m_Program_rows self) (eL (eT3 (eL eI) eS eI)).v := by
  rw [fnf_Program_rows]
  exact si_runX (show SS (xs_Program_rows T) [.v ((vo_Program T) self), .x, .x, .x] (m_Program_rows self) (PF false (eL (eT3 (eL eI) eS eI)).v) from by
    unfold xs_Program_rows m_Program_rows
    exact (ss_retM (sv_eE (sn_lc (E := (eT3 (eL eI) eS eI)) (F := (eT3 (eL eI) eS eI)) (si_list (sw_ofE (sv_fld (E := (eL (eT3 (eL eI) eS eI))) (sv_var rfl) rfl rfl) rfl)) rfl rfl (fun (x : ((List Int) × Str × Int)) => ⟨[.v ((vo_Program T) self), .v ((eL eI).v x.1), .v (eS.v x.2.1), .v (eI.v x.2.2)], rfl, st_yes, (sv_tup (sc_p (sv_eE (sn_bi (sc_lp (sl_varv rfl) (sc_nil so_list)))) (sc_p (sv_var rfl) (sc_p (sv_var rfl) (sc_nil (si_tup (e := (eT3 (eL eI) eS eI).v) rfl rfl))))))⟩))) fun _ => rfl))
noncomputable def xs_need_sets (T : Tx K mg) : XS K := (.seq (.ite (.not (.test (.chain O2.le O2.le (.int 1) (.var 0) (.int 40))))
    (.raise T.c_OutOfRange T.x_OutOfRange.1 T.x_OutOfRange.2.1 (.cons false (.var 0) .nil))
    XS.nx)
    (.seq (.ite (.not (.test (.chain O2.le O2.le (.int 1) (.bi Bi.len (.cons true (.var 1) .nil)) (.int 40))))
    (.raise T.c_TooMany T.x_TooMany.1 T.x_TooMany.2.1 (.cons false (.bi Bi.len (.cons true (.var 1) .nil)) .nil))
    XS.nx)
    (.for_ (.enum (.var 1)) (.tup (.cons (.name 2) (.cons (.tup (.cons (.name 3) (.cons (.name 4) .nil))) .nil))) (.post [2, 3, 4] (.seq (.ite (.not (.B (.call (fn_is_ascending T) (fno_is_ascending T) (.cons false (.var 3) (.cons false (.var 0) .nil)))))
    (.raise T.c_BadSet T.x_BadSet.1 T.x_BadSet.2.1 (.cons false (.var 2) .nil))
    XS.nx)
    (.ite (.not (.B (.call (fn_is_price T) (fno_is_price T) (.cons false (.var 4) .nil))))
    (.raise T.c_BadPrice T.x_BadPrice.1 T.x_BadPrice.2.1 (.cons false (.var 2) .nil))
    XS.nx))))))
@[irreducible] noncomputable def fn_need_sets (T : Tx K mg) : Fn := ⟨2, false, fun as => runX (xs_need_sets T) false 3 as⟩
theorem fnf_need_sets (T : Tx K mg) (as : List Av) : (fn_need_sets T).f as = runX (xs_need_sets T) false 3 as := by unfold fn_need_sets; rfl
theorem fnm_need_sets (T : Tx K mg) : (fn_need_sets T).m = 2 := by unfold fn_need_sets; rfl
theorem fno_need_sets (T : Tx K mg) : (fn_need_sets T).own = false := by unfold fn_need_sets; rfl
@[irreducible] noncomputable def m_need_sets (T : Tx K mg) (size : Int) (sets : (List ((List Int) × Int))) : Rs Unit :=
  (if (!(decide (1 ≤ size) && decide (size ≤ 40))) = true then
  (Rs.ex T.c_OutOfRange size)
  else (if (!(decide (1 ≤ (lenI sets)) && decide ((lenI sets) ≤ 40))) = true then
  (Rs.ex T.c_TooMany (lenI sets))
  else ((forR (fun (x : (Int × ((List Int) × Int))) (_ : Unit) =>
  (((m_is_ascending x.2.1 size).bind fun u_ => Rs.ok (!u_)).bind fun c1 => if c1 = true then
  (Rs.ex T.c_BadSet x.1)
  else (((m_is_price x.2.2).bind fun u_ => Rs.ok (!u_)).bind fun c => if c = true then
  (Rs.ex T.c_BadPrice x.1)
  else (Rs.ok ())))) (enumL sets) ()).bind fun (_ : Unit) =>
  (Rs.ok ()))))
theorem r_need_sets (T : Tx K mg) (size : Int) (sets : (List ((List Int) × Int))) : Si ((fn_need_sets T).f [.v (eI.v size), .v ((eL (eT2 (eL eI) eI)).v sets)]) (m_need_sets T size sets) eU.v := by
  rw [fnf_need_sets]
  exact si_runX (show SS (xs_need_sets T) [.v (eI.v size), .v ((eL (eT2 (eL eI) eI)).v sets), .x, .x, .x] (m_need_sets T size sets) (PF false eU.v) from by
    unfold xs_need_sets m_need_sets
    exact (ss_iteX (st_not (st_test (sv_chain ⟨rfl, rfl, rfl⟩ sv_int (sv_var rfl) sv_int so_le so_le)))
  (ss_raise (sv_var rfl))
  (ss_nxS (ss_iteX (st_not (st_test (sv_chain ⟨rfl, rfl, rfl⟩ sv_int (sv_bi (sc_lp (sl_varv rfl) (sc_nil so_len))) sv_int so_le so_le)))
  (ss_raise (sv_bi (sc_lp (sl_varv rfl) (sc_nil so_len))))
  (ss_nxS (ss_last (ss_forR (F := (eT2 eI (eT2 (eL eI) eI)).e) (es := fun (_ : Unit) => [.v (eI.v size), .v ((eL (eT2 (eL eI) eI)).v sets), .x, .x, .x]) (s0 := ()) (si_enum (sw_varv rfl)) rfl (fun _ => rfl)
  (fun (x : (Int × ((List Int) × Int))) (_ : Unit) => ⟨[.v (eI.v size), .v ((eL (eT2 (eL eI) eI)).v sets), .v (eI.v x.1), .v ((eL eI).v x.2.1), .v (eI.v x.2.2)], rfl, rfl,
  (ss_post (ss_iteXI (st_notI (st_B (sv_call (sc_p (sv_var rfl) (sc_p (sv_var rfl) (sc_nil (si_fn (fnm_is_ascending T) (r_is_ascending T _ _))))))))
  (ss_raise (sv_var rfl))
  (ss_nxS (ss_iteI (st_notI (st_B (sv_call (sc_p (sv_var rfl) (sc_nil (si_fn (fnm_is_price T) (r_is_price T _)))))))
  (ss_raise (sv_var rfl))
  (ss_nx (.inl rfl))))))⟩) fun (_ : Unit) =>
  (ss_nx rfl))))))))
noncomputable def xs_cover_program (T : Tx K mg) : XS K := (.seq (.drop (.call (fn_need_sets T) (fno_need_sets T) (.cons false (.var 0) (.cons false (.var 1) .nil))))
    (.seq (.setN 2 (XN.lst .nil))
    (.seq (.for_ (.range1 (.cons false (.var 0) .nil)) (.name 3) (.post [3] (.app 2 (.tup (.cons false (XN.e (XN.lc (.list (.var 1)) (.tup (.cons (.name 6) (.cons (.name 4) .nil))) .yes (.ife (.test (.op O2.inL (.var 3) (.var 6))) (.int 1) (.int 0)) [6, 4])) (.cons false (.str (PySem.Str.ofString "least")) (.cons false (.int 1) .nil)))))))
    (.frz 2 (.ret (.make T.c_Program (fn_Program___init__ T) (.cons false (XN.e (XN.lc (.list (.var 1)) (.tup (.cons (.name 4) (.cons (.name 5) .nil))) .yes (.var 5) [4, 5])) (.cons false (.var 2) .nil))))))))
@[irreducible] noncomputable def fn_cover_program (T : Tx K mg) : Fn := ⟨2, false, fun as => runX (xs_cover_program T) false 5 as⟩
theorem fnf_cover_program (T : Tx K mg) (as : List Av) : (fn_cover_program T).f as = runX (xs_cover_program T) false 5 as := by unfold fn_cover_program; rfl
theorem fnm_cover_program (T : Tx K mg) : (fn_cover_program T).m = 2 := by unfold fn_cover_program; rfl
theorem fno_cover_program (T : Tx K mg) : (fn_cover_program T).own = false := by unfold fn_cover_program; rfl
@[irreducible] noncomputable def m_cover_program (T : Tx K mg) (size : Int) (sets : (List ((List Int) × Int))) : Rs Ob_Program :=
  ((m_need_sets T size sets).bind fun _ =>
  ((Rs.ok ([] : List ((List Int) × Str × Int))).bind fun rows =>
  ((rng1C size).bind fun xs_ => (forR (fun (member : Int) (rows1 : (List ((List Int) × Str × Int))) =>
  (((lcM (β := Int) sets (fun (x : ((List Int) × Int)) => (Rs.ok true)) (fun (x : ((List Int) × Int)) => (Rs.ok (if (decide (member ∈ x.1)) = true then 1 else 0)))).bind fun u => .ok (u, (PySem.Str.ofString "least"), 1)).bind fun u_ => (pushC rows1 u_).bind fun rows2 =>
  (Rs.ok rows2))) xs_ rows).bind fun (rows1 : (List ((List Int) × Str × Int))) =>
  ((lcM (β := Int) sets (fun (x1 : ((List Int) × Int)) => (Rs.ok true)) (fun (x1 : ((List Int) × Int)) => (Rs.ok x1.2))).bind fun u1 => m_Program___init__ T u1 rows1))))
theorem r_cover_program (T : Tx K mg) (size : Int) (sets : (List ((List Int) × Int))) : Si ((fn_cover_program T).f [.v (eI.v size), .v ((eL (eT2 (eL eI) eI)).v sets)]) (m_cover_program T size sets) (vo_Program T) := by
  rw [fnf_cover_program]
  exact si_runX (show SS (xs_cover_program T) [.v (eI.v size), .v ((eL (eT2 (eL eI) eI)).v sets), .x, .x, .x, .x, .x] (m_cover_program T size sets) (PF false (vo_Program T)) from by
    unfold xs_cover_program m_cover_program
    exact (ss_drop (sv_call (sc_p (sv_var rfl) (sc_p (sv_var rfl) (sc_nil (si_fn (fnm_need_sets T) (r_need_sets T _ _))))))
  (ss_setNI (st1 := fun rows => [.v (eI.v size), .v ((eL (eT2 (eL eI) eI)).v sets), .ol (List.map (eT3 (eL eI) eS eI).e rows), .x, .x, .x, .x]) (sn_lst (sc_nil (si_lst (f := List.map (eT3 (eL eI) eS eI).e) rfl rfl))) (fun _ => rfl) rfl fun rows =>
  (ss_forRI (F := eI.e) (es := fun (rows1 : (List ((List Int) × Str × Int))) => [.v (eI.v size), .v ((eL (eT2 (eL eI) eI)).v sets), .ol (List.map (eT3 (eL eI) eS eI).e rows1), .x, .x, .x, .x]) (s0 := rows) (si_range1 (sc_p (sv_var rfl) (sc_nil so_rng1))) rfl (fun _ => rfl)
  (fun (member : Int) (rows1 : (List ((List Int) × Str × Int))) => ⟨[.v (eI.v size), .v ((eL (eT2 (eL eI) eI)).v sets), .ol (List.map (eT3 (eL eI) eS eI).e rows1), .v (eI.v member), .x, .x, .x], rfl, rfl,
  (ss_post (ss_last (ss_appI (E := (eT3 (eL eI) eS eI)) (st1 := fun rows2 => [.v (eI.v size), .v ((eL (eT2 (eL eI) eI)).v sets), .ol (List.map (eT3 (eL eI) eS eI).e rows2), .v (eI.v member), .x, .x, .x]) rfl (sv_tup (sc_i (sv_eE (sn_lc (E := eI) (F := (eT2 (eL eI) eI)) (si_list (sw_varv rfl)) rfl rfl (fun (x : ((List Int) × Int)) => ⟨[.v (eI.v size), .v ((eL (eT2 (eL eI) eI)).v sets), .ol (List.map (eT3 (eL eI) eS eI).e rows1), .v (eI.v member), .v (eI.v x.2), .x, .v ((eL eI).v x.1)], rfl, st_yes, (sv_ife (st_test (sv_op (sx_p (sv_var rfl) (sl_p (sl_varv rfl) so_inL)))) sv_int sv_int)⟩))) fun u => (sc_p sv_str (sc_p sv_int (sc_nil (si_tup (e := (eT3 (eL eI) eS eI).v) rfl rfl)))))) (fun _ => rfl) fun rows2 =>
  (ss_nx (.inl rfl)))))⟩) fun (rows1 : (List ((List Int) × Str × Int))) =>
  (ss_frz (st1 := [.v (eI.v size), .v ((eL (eT2 (eL eI) eI)).v sets), .v ((eL (eT3 (eL eI) eS eI)).v rows1), .x, .x, .x, .x]) rfl rfl (ss_retM (sv_make (sc_i (sv_eE (sn_lc (E := eI) (F := (eT2 (eL eI) eI)) (si_list (sw_varv rfl)) rfl rfl (fun (x1 : ((List Int) × Int)) => ⟨[.v (eI.v size), .v ((eL (eT2 (eL eI) eI)).v sets), .v ((eL (eT3 (eL eI) eS eI)).v rows1), .x, .v ((eL eI).v x1.1), .v (eI.v x1.2), .x], rfl, st_yes, (sv_var rfl)⟩))) fun u1 => (sc_p (sv_var rfl) (sc_nil (si_make (fnm_Program___init__ T) (r_Program___init__ T _ _)))))) fun _ => rfl))))))
noncomputable def xs_cheapest_set (T : Tx K mg) : XS K := (.seq (.set 2 .non)
    (.seq (.for_ (.enum (.var 0)) (.tup (.cons (.name 3) (.cons (.tup (.cons (.name 4) (.cons (.name 5) .nil))) .nil))) (.post [3, 4, 5, 6, 7] (.seq (.set 6 (XN.e (XN.lc (.list (.var 4)) (.name 8) (.not (.B (.op O2.ixL (.var 1) (.var 8)))) (.var 8) [8])))
    (.ite (.truthL (.var 6))
    (.seq (.set 7 (.call (fn_fraction T) (fno_fraction T) (.cons false (.var 5) (.cons false (.bi Bi.len (.cons true (.var 6) .nil)) .nil))))
    (.ite (.or (.test (.op O2.isN (.var 2) .non)) (.B (.call (fn_is_less T) (fno_is_less T) (.cons false (.var 7) (.cons false (.op O2.ixT (.var 2) (.int 0)) .nil)))))
    (.set 2 (.tup (.cons false (.var 7) (.cons false (.var 3) (.cons false (.var 6) .nil)))))
    XS.nx))
    XS.nx))))
    (.ret (.var 2))))
@[irreducible] noncomputable def fn_cheapest_set (T : Tx K mg) : Fn := ⟨2, false, fun as => runX (xs_cheapest_set T) false 7 as⟩
theorem fnf_cheapest_set (T : Tx K mg) (as : List Av) : (fn_cheapest_set T).f as = runX (xs_cheapest_set T) false 7 as := by unfold fn_cheapest_set; rfl
theorem fnm_cheapest_set (T : Tx K mg) : (fn_cheapest_set T).m = 2 := by unfold fn_cheapest_set; rfl
theorem fno_cheapest_set (T : Tx K mg) : (fn_cheapest_set T).own = false := by unfold fn_cheapest_set; rfl
@[irreducible] noncomputable def m_cheapest_set (T : Tx K mg) (sets : (List ((List Int) × Int))) (covered : (List Bool)) : Rs (Option ((Int × Int) × Int × (List Int))) :=
  ((forR (fun (x : (Int × ((List Int) × Int))) (best : (Option ((Int × Int) × Int × (List Int)))) =>
  ((lcM (β := Int) x.2.1 (fun (member : Int) => (((ixC covered member)).bind fun u_ => Rs.ok (!u_))) (fun (member : Int) => (Rs.ok member))).bind fun anew =>
  (if (!anew.isEmpty) = true then
  ((m_fraction T x.2.2 (lenI anew)).bind fun share =>
  ((if best.isNone = true then Rs.ok true else (((theO best).bind fun u => Rs.ok u.1).bind fun u1 => m_is_less share u1)).bind fun c => if c = true then
  ((Rs.ok (some (share, x.1, anew))).bind fun best1 =>
  (Rs.ok best1))
  else ((theO best).bind fun best2 =>
  (Rs.ok (some best2)))))
  else (Rs.ok best)))) (enumL sets) none).bind fun (best : (Option ((Int × Int) × Int × (List Int)))) =>
  (Rs.ok best))
theorem r_cheapest_set (T : Tx K mg) (sets : (List ((List Int) × Int))) (covered : (List Bool)) : Si ((fn_cheapest_set T).f [.v ((eL (eT2 (eL eI) eI)).v sets), .l (List.map eB.e covered)]) (m_cheapest_set T sets covered) (eO (eT3 (eT2 eI eI) eI (eL eI))).v := by
  rw [fnf_cheapest_set]
  exact si_runX (show SS (xs_cheapest_set T) [.v ((eL (eT2 (eL eI) eI)).v sets), .bl (List.map eB.e covered), .x, .x, .x, .x, .x, .x, .x] (m_cheapest_set T sets covered) (PF false (eO (eT3 (eT2 eI eI) eI (eL eI))).v) from by
    unfold xs_cheapest_set m_cheapest_set
    exact (ss_set (st1 := [.v ((eL (eT2 (eL eI) eI)).v sets), .bl (List.map eB.e covered), .v ((eO (eT3 (eT2 eI eI) eI (eL eI))).v none), .x, .x, .x, .x, .x, .x]) sv_non rfl
  (ss_forR (F := (eT2 eI (eT2 (eL eI) eI)).e) (es := fun (best : (Option ((Int × Int) × Int × (List Int)))) => [.v ((eL (eT2 (eL eI) eI)).v sets), .bl (List.map eB.e covered), .v ((eO (eT3 (eT2 eI eI) eI (eL eI))).v best), .x, .x, .x, .x, .x, .x]) (s0 := none) (si_enum (sw_varv rfl)) rfl (fun _ => rfl)
  (fun (x : (Int × ((List Int) × Int))) (best : (Option ((Int × Int) × Int × (List Int)))) => ⟨[.v ((eL (eT2 (eL eI) eI)).v sets), .bl (List.map eB.e covered), .v ((eO (eT3 (eT2 eI eI) eI (eL eI))).v best), .v (eI.v x.1), .v ((eL eI).v x.2.1), .v (eI.v x.2.2), .x, .x, .x], rfl, rfl,
  (ss_post (ss_setI (st1 := fun anew => [.v ((eL (eT2 (eL eI) eI)).v sets), .bl (List.map eB.e covered), .v ((eO (eT3 (eT2 eI eI) eI (eL eI))).v best), .v (eI.v x.1), .v ((eL eI).v x.2.1), .v (eI.v x.2.2), .v ((eL eI).v anew), .x, .x]) (sv_eE (sn_lc (E := eI) (F := eI) (si_list (sw_varv rfl)) rfl rfl (fun (member : Int) => ⟨[.v ((eL (eT2 (eL eI) eI)).v sets), .bl (List.map eB.e covered), .v ((eO (eT3 (eT2 eI eI) eI (eL eI))).v best), .v (eI.v x.1), .v ((eL eI).v x.2.1), .v (eI.v x.2.2), .x, .x, .v (eI.v member)], rfl, (st_notI (st_B (sv_op (sl_p (sl_varb rfl) (sx_p (sv_var rfl) so_ixL))))), (sv_var rfl)⟩))) (fun _ => rfl) fun anew =>
  (ss_ite (st_truth (sl_varv rfl))
  (ss_setI (st1 := fun share => [.v ((eL (eT2 (eL eI) eI)).v sets), .bl (List.map eB.e covered), .v ((eO (eT3 (eT2 eI eI) eI (eL eI))).v best), .v (eI.v x.1), .v ((eL eI).v x.2.1), .v (eI.v x.2.2), .v ((eL eI).v anew), .v ((eT2 eI eI).v share), .x]) (sv_call (sc_p (sv_var rfl) (sc_p (sv_bi (sc_lp (sl_varv rfl) (sc_nil so_len))) (sc_nil (si_fn (fnm_fraction T) (r_fraction T _ _)))))) (fun _ => rfl) fun share =>
  (ss_iteI (st_orP (st_test (sv_op (sx_p (sv_var rfl) (sx_p sv_nonU so_isN)))) (st_B (sv_call (sc_p (sv_var rfl) (sc_i (sv_op (sx_i (sv_theO (sv_var rfl)) fun u => (sx_p sv_int (so_ixT (E := (eT2 eI eI)) rfl)))) fun u1 => (sc_nil (si_fn (fnm_is_less T) (r_is_less T _ _))))))))
  (ss_last (ss_setI (st1 := fun best1 => [.v ((eL (eT2 (eL eI) eI)).v sets), .bl (List.map eB.e covered), .v ((eO (eT3 (eT2 eI eI) eI (eL eI))).v best1), .v (eI.v x.1), .v ((eL eI).v x.2.1), .v (eI.v x.2.2), .v ((eL eI).v anew), .v ((eT2 eI eI).v share), .x]) (sv_some (sv_tup (sc_p (sv_var rfl) (sc_p (sv_var rfl) (sc_p (sv_var rfl) (sc_nil (si_tup (e := (eT3 (eT2 eI eI) eI (eL eI)).v) rfl rfl))))))) (fun _ => rfl) fun best1 =>
  (ss_nx (.inl rfl))))
  (ss_theO (st := fun (o_ : Option ((Int × Int) × Int × (List Int))) => [.v ((eL (eT2 (eL eI) eI)).v sets), .bl (List.map eB.e covered), .v ((eO (eT3 (eT2 eI eI) eI (eL eI))).v o_), .v (eI.v x.1), .v ((eL eI).v x.2.1), .v (eI.v x.2.2), .v ((eL eI).v anew), .v ((eT2 eI eI).v share), .x]) fun best2 =>
  (ss_nx (.inl rfl)))))
  (ss_nx (.inl rfl)))))⟩) fun (best : (Option ((Int × Int) × Int × (List Int)))) =>
  (ss_ret (sv_var rfl) rfl))))
noncomputable def xs_quick_cover (T : Tx K mg) : XS K := (.seq (.drop (.call (fn_need_sets T) (fno_need_sets T) (.cons false (.var 0) (.cons false (.var 1) .nil))))
    (.seq (.setN 2 (XN.op O2N.rep (XN.e (XN.lst (.cons false (.bool false) .nil))) (.var 0)))
    (.seq (.setN 3 (XN.op O2N.rep (XN.e (XN.lst (.cons false (.tup (.cons false (.int 0) (.cons false (.int 1) .nil))) .nil))) (.var 0)))
    (.seq (.setN 4 (XN.lst .nil))
    (.seq (.while_ (.not (.B (.bi Bi.all (.cons true (.var 2) .nil)))) (.post [5, 6, 7, 8, 9] (.seq (.set 5 (.call (fn_cheapest_set T) (fno_cheapest_set T) (.cons false (.var 1) (.cons true (.var 2) .nil))))
    (.seq (.ite (.test (.op O2.isN (.var 5) .non))
    (.ret .non)
    XS.nx)
    (.seq (.asg (.tup (.cons (.name 6) (.cons (.name 7) (.cons (.name 8) .nil)))) (.var 5))
    (.seq (.app 4 (.var 7))
    (.for_ (.list (.var 8)) (.name 9) (.post [9] (.seq (.seti 2 (.var 9) (.bool true))
    (.seti 3 (.var 9) (.var 6)))))))))))
    (.retR (.o 4 (.v (XE.lendA (.bi Bi.sum (.cons true (XN.e (XN.lc (.list (.var 4)) (.name 7) .yes (.op O2.ixT (.op O2.ixL (.var 1) (.var 7)) (.int 1)) [7])) .nil))) (.o 3 .nil)))))))))
@[irreducible] noncomputable def fn_quick_cover (T : Tx K mg) : FnT := ⟨2, fun as => runT (xs_quick_cover T) 8 as⟩
theorem fnf_quick_cover (T : Tx K mg) (as : List Av) : (fn_quick_cover T).f as = runT (xs_quick_cover T) 8 as := by unfold fn_quick_cover; rfl
theorem fnm_quick_cover (T : Tx K mg) : (fn_quick_cover T).m = 2 := by unfold fn_quick_cover; rfl
@[irreducible] noncomputable def m_quick_cover (T : Tx K mg) (size : Int) (sets : (List ((List Int) × Int))) : Rs (Option ((List Int) × Int × (List (Option (Int × Int))))) :=
  ((m_need_sets T size sets).bind fun _ =>
  (((repC ([false] : List Bool) size)).bind fun covered =>
  (((repC ([(some (0, 1))] : List (Option (Int × Int))) size)).bind fun shares =>
  ((Rs.ok ([] : List Int)).bind fun taken =>
  (bindJ (whJ (fun (s : (List Bool) × (List (Option (Int × Int))) × (List Int)) => (Rs.ok (!(s.1.all id)))) (fun (s : (List Bool) × (List (Option (Int × Int))) × (List Int)) =>
  ((m_cheapest_set T sets s.1).bind fun best =>
  (if best.isNone = true then
  (Rs.ok (LO.ex none))
  else ((theO best).bind fun best1 =>
  ((pushC s.2.2 best1.2.1).bind fun taken1 =>
  ((forR (fun (member : Int) (s1 : (List Bool) × (List (Option (Int × Int)))) =>
  ((setC s1.1 member true).bind fun covered1 =>
  ((setC s1.2 member (some best1.1)).bind fun shares1 =>
  (Rs.ok (covered1, shares1))))) best1.2.2 (s.1, s.2.1)).bind fun (s1 : (List Bool) × (List (Option (Int × Int)))) =>
  (Rs.ok (LO.nx (s1.1, s1.2, taken1))))))))) (covered, shares, taken)) fun (s : (List Bool) × (List (Option (Int × Int))) × (List Int)) =>
  ((qu ((Rs.ok s.2.2).bind fun u_ => (((lcM (β := Int) s.2.2 (fun (number : Int) => (Rs.ok true)) (fun (number : Int) => (((ixC sets number)).bind fun u => Rs.ok u.2))).bind fun u1 => Rs.ok u1.sum).bind fun u_ => ((Rs.ok s.2.1).bind fun u_ => (Rs.ok ()).bind fun w_ => Rs.ok (u_, w_)).bind fun w_ => Rs.ok (u_, w_)).bind fun w_ => Rs.ok (u_, w_))).bind fun a_ => Rs.ok (some (a_.1, a_.2.1, a_.2.2.1))))))))
theorem r_quick_cover (T : Tx K mg) (size : Int) (sets : (List ((List Int) × Int))) : Si ((fn_quick_cover T).f [.v (eI.v size), .v ((eL (eT2 (eL eI) eI)).v sets)]) (m_quick_cover T size sets) (Option.map (fun (t_ : ((List Int) × Int × (List (Option (Int × Int))))) => ([.l (List.map eI.e t_.1), .v (eI.e t_.2.1), .l (List.map (eO (eT2 eI eI)).e t_.2.2)] : List Cp))) := by
  rw [fnf_quick_cover]
  exact si_runXT (show SS (xs_quick_cover T) [.v (eI.v size), .v ((eL (eT2 (eL eI) eI)).v sets), .x, .x, .x, .x, .x, .x, .x, .x] (m_quick_cover T size sets) (PFT (fun (t_ : ((List Int) × Int × (List (Option (Int × Int))))) => ([.l (List.map eI.e t_.1), .v (eI.e t_.2.1), .l (List.map (eO (eT2 eI eI)).e t_.2.2)] : List Cp))) from by
    unfold xs_quick_cover m_quick_cover
    exact (ss_drop (sv_call (sc_p (sv_var rfl) (sc_p (sv_var rfl) (sc_nil (si_fn (fnm_need_sets T) (r_need_sets T _ _))))))
  (ss_setNI (st1 := fun covered => [.v (eI.v size), .v ((eL (eT2 (eL eI) eI)).v sets), .ol (List.map eB.e covered), .x, .x, .x, .x, .x, .x, .x]) (sn_op (sl_p (sl_ofE (sv_eE (sn_lst (sc_p sv_bool (sc_nil (si_lst (f := List.map eB.e) rfl rfl))))) rfl) (sx_p (sv_var rfl) so_rep))) (fun _ => rfl) rfl fun covered =>
  (ss_setNI (st1 := fun shares => [.v (eI.v size), .v ((eL (eT2 (eL eI) eI)).v sets), .ol (List.map eB.e covered), .ol (List.map (eO (eT2 eI eI)).e shares), .x, .x, .x, .x, .x, .x]) (sn_op (sl_p (sl_ofE (sv_eE (sn_lst (sc_p (sv_some (sv_tup (sc_p sv_int (sc_p sv_int (sc_nil (si_tup (e := (eT2 eI eI).v) rfl rfl)))))) (sc_nil (si_lst (f := List.map (eO (eT2 eI eI)).e) rfl rfl))))) rfl) (sx_p (sv_var rfl) so_rep))) (fun _ => rfl) rfl fun shares =>
  (ss_setNI (st1 := fun taken => [.v (eI.v size), .v ((eL (eT2 (eL eI) eI)).v sets), .ol (List.map eB.e covered), .ol (List.map (eO (eT2 eI eI)).e shares), .ol (List.map eI.e taken), .x, .x, .x, .x, .x]) (sn_lst (sc_nil (si_lst (f := List.map eI.e) rfl rfl))) (fun _ => rfl) rfl fun taken =>
  (ss_while (s0 := (covered, shares, taken)) (es := fun (s : (List Bool) × (List (Option (Int × Int))) × (List Int)) => [.v (eI.v size), .v ((eL (eT2 (eL eI) eI)).v sets), .ol (List.map eB.e s.1), .ol (List.map (eO (eT2 eI eI)).e s.2.1), .ol (List.map eI.e s.2.2), .x, .x, .x, .x, .x]) rfl (fun _ => rfl) (fun (s : (List Bool) × (List (Option (Int × Int))) × (List Int)) => (st_not (st_B (sv_bi (sc_lp (sl_varo rfl) (sc_nil so_all)))))) (fun (s : (List Bool) × (List (Option (Int × Int))) × (List Int)) =>
  (ss_post (ss_setI (st1 := fun best => [.v (eI.v size), .v ((eL (eT2 (eL eI) eI)).v sets), .ol (List.map eB.e s.1), .ol (List.map (eO (eT2 eI eI)).e s.2.1), .ol (List.map eI.e s.2.2), .v ((eO (eT3 (eT2 eI eI) eI (eL eI))).v best), .x, .x, .x, .x]) (sv_call (sc_p (sv_var rfl) (sc_lp (sl_varo rfl) (sc_nil (si_fn (fnm_cheapest_set T) (r_cheapest_set T _ _)))))) (fun _ => rfl) fun best =>
  (ss_iteX (st_test (sv_op (sx_p (sv_var rfl) (sx_p sv_nonU so_isN))))
  (ss_ret sv_nonU ⟨⟨rfl, rfl⟩, rfl⟩)
  (ss_theO (st := fun (o_ : Option ((Int × Int) × Int × (List Int))) => [.v (eI.v size), .v ((eL (eT2 (eL eI) eI)).v sets), .ol (List.map eB.e s.1), .ol (List.map (eO (eT2 eI eI)).e s.2.1), .ol (List.map eI.e s.2.2), .v ((eO (eT3 (eT2 eI eI) eI (eL eI))).v o_), .x, .x, .x, .x]) fun best1 =>
  (ss_nxS (ss_asg (st1 := [.v (eI.v size), .v ((eL (eT2 (eL eI) eI)).v sets), .ol (List.map eB.e s.1), .ol (List.map (eO (eT2 eI eI)).e s.2.1), .ol (List.map eI.e s.2.2), .v ((eT3 (eT2 eI eI) eI (eL eI)).v best1), .v ((eT2 eI eI).v best1.1), .v (eI.v best1.2.1), .v ((eL eI).v best1.2.2), .x]) (sv_var rfl) rfl rfl rfl
  (ss_app (E := eI) (st1 := fun taken1 => [.v (eI.v size), .v ((eL (eT2 (eL eI) eI)).v sets), .ol (List.map eB.e s.1), .ol (List.map (eO (eT2 eI eI)).e s.2.1), .ol (List.map eI.e taken1), .v ((eT3 (eT2 eI eI) eI (eL eI)).v best1), .v ((eT2 eI eI).v best1.1), .v (eI.v best1.2.1), .v ((eL eI).v best1.2.2), .x]) rfl (sv_var rfl) (fun _ => rfl) fun taken1 =>
  (ss_last (ss_forR (F := eI.e) (es := fun (s1 : (List Bool) × (List (Option (Int × Int)))) => [.v (eI.v size), .v ((eL (eT2 (eL eI) eI)).v sets), .ol (List.map eB.e s1.1), .ol (List.map (eO (eT2 eI eI)).e s1.2), .ol (List.map eI.e taken1), .v ((eT3 (eT2 eI eI) eI (eL eI)).v best1), .v ((eT2 eI eI).v best1.1), .v (eI.v best1.2.1), .v ((eL eI).v best1.2.2), .x]) (s0 := (s.1, s.2.1)) (si_list (sw_varv rfl)) rfl (fun _ => rfl)
  (fun (member : Int) (s1 : (List Bool) × (List (Option (Int × Int)))) => ⟨[.v (eI.v size), .v ((eL (eT2 (eL eI) eI)).v sets), .ol (List.map eB.e s1.1), .ol (List.map (eO (eT2 eI eI)).e s1.2), .ol (List.map eI.e taken1), .v ((eT3 (eT2 eI eI) eI (eL eI)).v best1), .v ((eT2 eI eI).v best1.1), .v (eI.v best1.2.1), .v ((eL eI).v best1.2.2), .v (eI.v member)], rfl, rfl,
  (ss_post (ss_seti (E := eB) (st1 := fun covered1 => [.v (eI.v size), .v ((eL (eT2 (eL eI) eI)).v sets), .ol (List.map eB.e covered1), .ol (List.map (eO (eT2 eI eI)).e s1.2), .ol (List.map eI.e taken1), .v ((eT3 (eT2 eI eI) eI (eL eI)).v best1), .v ((eT2 eI eI).v best1.1), .v (eI.v best1.2.1), .v ((eL eI).v best1.2.2), .v (eI.v member)]) rfl sv_bool (sv_var rfl) (fun _ => rfl) fun covered1 =>
  (ss_last (ss_seti (E := (eO (eT2 eI eI))) (st1 := fun shares1 => [.v (eI.v size), .v ((eL (eT2 (eL eI) eI)).v sets), .ol (List.map eB.e covered1), .ol (List.map (eO (eT2 eI eI)).e shares1), .ol (List.map eI.e taken1), .v ((eT3 (eT2 eI eI) eI (eL eI)).v best1), .v ((eT2 eI eI).v best1.1), .v (eI.v best1.2.1), .v ((eL eI).v best1.2.2), .v (eI.v member)]) rfl (sv_some (sv_var rfl)) (sv_var rfl) (fun _ => rfl) fun shares1 =>
  (ss_nx (.inl rfl))))))⟩) fun (s1 : (List Bool) × (List (Option (Int × Int)))) =>
  (ss_nx (.inl rfl)))))))))))) fun (s : (List Bool) × (List (Option (Int × Int))) × (List Int)) =>
  (ss_retR (w := fun a_ => (some (a_.1, a_.2.1, a_.2.2.1))) (sr_o (E := eI) (m := (((lcM (β := Int) s.2.2 (fun (number : Int) => (Rs.ok true)) (fun (number : Int) => (((ixC sets number)).bind fun u => Rs.ok u.2))).bind fun u1 => Rs.ok u1.sum).bind fun u_ => ((Rs.ok s.2.1).bind fun u_ => (Rs.ok ()).bind fun w_ => Rs.ok (u_, w_)).bind fun w_ => Rs.ok (u_, w_))) rfl (sr_v (E := eI) (r := ((lcM (β := Int) s.2.2 (fun (number : Int) => (Rs.ok true)) (fun (number : Int) => (((ixC sets number)).bind fun u => Rs.ok u.2))).bind fun u1 => Rs.ok u1.sum)) (m := ((Rs.ok s.2.1).bind fun u_ => (Rs.ok ()).bind fun w_ => Rs.ok (u_, w_))) (sv_lendA (E := eI) (st1 := fun p_ => [.pin (p_ 0) (.v (eI.v size)), .pin (p_ 1) (.v ((eL (eT2 (eL eI) eI)).v sets)), .pin (p_ 2) (.v ((eL eB).v s.1)), .pin (p_ 3) (.v ((eL (eO (eT2 eI eI))).v s.2.1)), .pin (p_ 4) (.v ((eL eI).v s.2.2)), .x, .x, .x, .x, .x]) (fun _ => rfl) (fun p_ => by exact (sv_bi (sc_li (sl_ofE (sv_eE (sn_lc (E := eI) (F := eI) (si_list (sw_varPv rfl)) rfl rfl (fun (number : Int) => ⟨[.pin (p_ 0) (.v (eI.v size)), .pin (p_ 1) (.v ((eL (eT2 (eL eI) eI)).v sets)), .pin (p_ 2) (.v ((eL eB).v s.1)), .pin (p_ 3) (.v ((eL (eO (eT2 eI eI))).v s.2.1)), .pin (p_ 4) (.v ((eL eI).v s.2.2)), .x, .x, .v (eI.v number), .x, .x], rfl, st_yes, (sv_op (sx_i (sv_op (sl_p (sl_varPv (f := List.map (eT2 (eL eI) eI).e) rfl) (sx_p (sv_var rfl) so_ixL))) fun u => (sx_p sv_int (so_ixT (E := eI) rfl))))⟩))) rfl) fun u1 => (sc_nil so_sum)))) flI) (sr_o (E := (eO (eT2 eI eI))) (m := (Rs.ok ())) rfl sr_nil))) (fun _ => ⟨by show (3 : Nat) ≤ 1000; decide, by show ([4, 3] : List Nat).Nodup; decide⟩) (fun _ => rfl))))))))
noncomputable def xs_harmonic (T : Tx K mg) : XS K := (.ret (.call (fn_added T) (fno_added T) (.cons false (XN.e (XN.lc (.range2 (.cons false (.int 1) (.cons false (.op O2.add (.var 0) (.int 1)) .nil))) (.name 1) .yes (.tup (.cons false (.int 1) (.cons false (.var 1) .nil))) [1])) .nil)))
@[irreducible] noncomputable def fn_harmonic (T : Tx K mg) : Fn := ⟨1, false, fun as => runX (xs_harmonic T) false 1 as⟩
theorem fnf_harmonic (T : Tx K mg) (as : List Av) : (fn_harmonic T).f as = runX (xs_harmonic T) false 1 as := by unfold fn_harmonic; rfl
theorem fnm_harmonic (T : Tx K mg) : (fn_harmonic T).m = 1 := by unfold fn_harmonic; rfl
theorem fno_harmonic (T : Tx K mg) : (fn_harmonic T).own = false := by unfold fn_harmonic; rfl
@[irreducible] noncomputable def m_harmonic (T : Tx K mg) (many : Int) : Rs (Int × Int) :=
  (((rng2C 1 (many + 1)).bind fun xs_ => lcM (β := (Int × Int)) xs_ (fun (number : Int) => (Rs.ok true)) (fun (number : Int) => (Rs.ok (1, number)))).bind fun u => m_added T u)
theorem r_harmonic (T : Tx K mg) (many : Int) : Si ((fn_harmonic T).f [.v (eI.v many)]) (m_harmonic T many) (eT2 eI eI).v := by
  rw [fnf_harmonic]
  exact si_runX (show SS (xs_harmonic T) [.v (eI.v many), .x] (m_harmonic T many) (PF false (eT2 eI eI).v) from by
    unfold xs_harmonic m_harmonic
    exact (ss_retM (sv_call (sc_i (sv_eE (sn_lcI (E := (eT2 eI eI)) (F := eI) (si_range2 (sc_p sv_int (sc_p (sv_op (sx_p (sv_var rfl) (sx_p sv_int so_add))) (sc_nil so_rng2)))) rfl rfl (fun (number : Int) => ⟨[.v (eI.v many), .v (eI.v number)], rfl, st_yes, (sv_tup (sc_p sv_int (sc_p (sv_var rfl) (sc_nil (si_tup (e := (eT2 eI eI).v) rfl rfl)))))⟩))) fun u => (sc_nil (si_fn (fnm_added T) (r_added T _))))) fun _ => rfl))
noncomputable def xs_cover_factor (T : Tx K mg) : XS K := (.seq (.drop (.call (fn_need_sets T) (fno_need_sets T) (.cons false (.var 0) (.cons false (.var 1) .nil))))
    (.ret (.call (fn_harmonic T) (fno_harmonic T) (.cons false (.bi (Bi.bestD PySem.W.maxD) (.cons true (XN.e (XN.lc (.list (.var 1)) (.tup (.cons (.name 2) (.cons (.name 3) .nil))) .yes (.bi Bi.len (.cons true (.var 2) .nil)) [2, 3])) .nil)) .nil))))
@[irreducible] noncomputable def fn_cover_factor (T : Tx K mg) : Fn := ⟨2, false, fun as => runX (xs_cover_factor T) false 2 as⟩
theorem fnf_cover_factor (T : Tx K mg) (as : List Av) : (fn_cover_factor T).f as = runX (xs_cover_factor T) false 2 as := by unfold fn_cover_factor; rfl
theorem fnm_cover_factor (T : Tx K mg) : (fn_cover_factor T).m = 2 := by unfold fn_cover_factor; rfl
theorem fno_cover_factor (T : Tx K mg) : (fn_cover_factor T).own = false := by unfold fn_cover_factor; rfl
@[irreducible] noncomputable def m_cover_factor (T : Tx K mg) (size : Int) (sets : (List ((List Int) × Int))) : Rs (Int × Int) :=
  ((m_need_sets T size sets).bind fun _ =>
  (((lcM (β := Int) sets (fun (x : ((List Int) × Int)) => (Rs.ok true)) (fun (x : ((List Int) × Int)) => (Rs.ok (lenI x.1)))).bind fun u => maxT (OrdE.lt (E := eI)) u).bind fun u1 => m_harmonic T u1))
theorem r_cover_factor (T : Tx K mg) (size : Int) (sets : (List ((List Int) × Int))) : Si ((fn_cover_factor T).f [.v (eI.v size), .v ((eL (eT2 (eL eI) eI)).v sets)]) (m_cover_factor T size sets) (eT2 eI eI).v := by
  rw [fnf_cover_factor]
  exact si_runX (show SS (xs_cover_factor T) [.v (eI.v size), .v ((eL (eT2 (eL eI) eI)).v sets), .x, .x] (m_cover_factor T size sets) (PF false (eT2 eI eI).v) from by
    unfold xs_cover_factor m_cover_factor
    exact (ss_drop (sv_call (sc_p (sv_var rfl) (sc_p (sv_var rfl) (sc_nil (si_fn (fnm_need_sets T) (r_need_sets T _ _))))))
  (ss_retM (sv_call (sc_i (sv_bi (sc_li (sl_ofE (sv_eE (sn_lc (E := eI) (F := (eT2 (eL eI) eI)) (si_list (sw_varv rfl)) rfl rfl (fun (x : ((List Int) × Int)) => ⟨[.v (eI.v size), .v ((eL (eT2 (eL eI) eI)).v sets), .v ((eL eI).v x.1), .v (eI.v x.2)], rfl, st_yes, (sv_bi (sc_lp (sl_varv rfl) (sc_nil so_len)))⟩))) rfl) fun u => (sc_nil (so_maxD (E := eI))))) fun u1 => (sc_nil (si_fn (fnm_harmonic T) (r_harmonic T _))))) fun _ => rfl)))
noncomputable def xs_are_cover (T : Tx K mg) : XS K := (.seq (.ite (.or (.test (.op O2.ne (.bi Bi.lenSet (.cons true (.var 2) .nil)) (.bi Bi.len (.cons true (.var 2) .nil)))) (.not (.B (.bi Bi.all (.cons true (XN.e (XN.lc (.list (.var 2)) (.name 3) .yes (.chain O2.le O2.lt (.int 0) (.var 3) (.bi Bi.len (.cons true (.var 1) .nil))) [3])) .nil)))))
    (.ret (.bool false))
    XS.nx)
    (.ret (.op O2.eq (.bi Bi.lenSet (.cons true (XN.e (XN.lc2 (.list (.var 2)) (.name 3) (.op O2.ixT (.op O2.ixL (.var 1) (.var 3)) (.int 0)) (.name 4) (.var 4) [3, 4] [4])) .nil)) (.var 0))))
@[irreducible] noncomputable def fn_are_cover (T : Tx K mg) : Fn := ⟨3, false, fun as => runX (xs_are_cover T) false 2 as⟩
theorem fnf_are_cover (T : Tx K mg) (as : List Av) : (fn_are_cover T).f as = runX (xs_are_cover T) false 2 as := by unfold fn_are_cover; rfl
theorem fnm_are_cover (T : Tx K mg) : (fn_are_cover T).m = 3 := by unfold fn_are_cover; rfl
theorem fno_are_cover (T : Tx K mg) : (fn_are_cover T).own = false := by unfold fn_are_cover; rfl
@[irreducible] noncomputable def m_are_cover (size : Int) (sets : (List ((List Int) × Int))) (taken : (List Int)) : Rs Bool :=
  ((((lenSetC taken).bind fun u1 => Rs.ok (!decide (u1 = (lenI taken)))).bind fun c => if c = true then Rs.ok true else (((lcM (β := Bool) taken (fun (number : Int) => (Rs.ok true)) (fun (number : Int) => (Rs.ok (decide (0 ≤ number) && decide (number < (lenI sets)))))).bind fun u => Rs.ok (u.all id)).bind fun u_ => Rs.ok (!u_))).bind fun c1 => if c1 = true then
  (Rs.ok false)
  else (((lcM2 (β := Int) (γ := Int) taken (fun (number1 : Int) => (((ixC sets number1)).bind fun u2 => Rs.ok u2.1)) (fun (number1 : Int) => fun (member : Int) => (Rs.ok member))).bind fun u3 => lenSetC u3).bind fun u4 => Rs.ok (decide (u4 = size))))
theorem r_are_cover (T : Tx K mg) (size : Int) (sets : (List ((List Int) × Int))) (taken : (List Int)) : Si ((fn_are_cover T).f [.v (eI.v size), .v ((eL (eT2 (eL eI) eI)).v sets), .v ((eL eI).v taken)]) (m_are_cover size sets taken) eB.v := by
  rw [fnf_are_cover]
  exact si_runX (show SS (xs_are_cover T) [.v (eI.v size), .v ((eL (eT2 (eL eI) eI)).v sets), .v ((eL eI).v taken), .x, .x] (m_are_cover size sets taken) (PF false eB.v) from by
    unfold xs_are_cover m_are_cover
    exact (ss_iteXI (st_orI (st_test (sv_op (sx_i (sv_bi (sc_lp (sl_varv rfl) (sc_nil so_lenSet))) fun u1 => (sx_p (sv_bi (sc_lp (sl_varv rfl) (sc_nil so_len))) so_neI)))) (st_notI (st_B (sv_bi (sc_li (sl_ofE (sv_eE (sn_lc (E := eB) (F := eI) (si_list (sw_varv rfl)) rfl rfl (fun (number : Int) => ⟨[.v (eI.v size), .v ((eL (eT2 (eL eI) eI)).v sets), .v ((eL eI).v taken), .v (eI.v number), .x], rfl, st_yes, (sv_chain ⟨rfl, rfl, rfl⟩ sv_int (sv_var rfl) (sv_bi (sc_lp (sl_varv rfl) (sc_nil so_len))) so_le so_lt)⟩))) rfl) fun u => (sc_nil so_all))))))
  (ss_ret sv_bool ⟨rfl, rfl⟩)
  (ss_nxS (ss_retM (sv_op (sx_i (sv_bi (sc_li (sl_ofE (sv_eE (sn_lc2 (E := eI) (G := eI) (F := eI) (si_list (sw_varv rfl)) rfl rfl rfl (fun (number1 : Int) => ⟨[.v (eI.v size), .v ((eL (eT2 (eL eI) eI)).v sets), .v ((eL eI).v taken), .v (eI.v number1), .x], rfl, rfl, rfl, (sv_op (sx_i (sv_op (sl_p (sl_varv rfl) (sx_p (sv_var rfl) so_ixL))) fun u2 => (sx_p sv_int (so_ixT (E := (eL eI)) rfl)))), fun (member : Int) => ⟨[.v (eI.v size), .v ((eL (eT2 (eL eI) eI)).v sets), .v ((eL eI).v taken), .v (eI.v number1), .v (eI.v member)], rfl, (sv_var rfl)⟩⟩))) rfl) fun u3 => (sc_nil so_lenSet))) fun u4 => (sx_p (sv_var rfl) so_eqI))) fun _ => rfl))))
noncomputable def xs_check_shares (T : Tx K mg) : XS K := (.seq (.drop (.call (fn_need_sets T) (fno_need_sets T) (.cons false (.var 0) (.cons false (.var 1) .nil))))
    (.seq (.ite (.or (.not (.B (.call (fn_are_cover T) (fno_are_cover T) (.cons false (.var 0) (.cons false (.var 1) (.cons false (.var 2) .nil)))))) (.or (.test (.op O2.ne (.bi Bi.len (.cons true (.var 3) .nil)) (.var 0))) (.not (.B (.bi Bi.all (.cons true (XN.e (XN.lc (.list (.var 3)) (.name 7) .yes (.op O2.ge (.op O2.ixT (.var 7) (.int 0)) (.int 0)) [7])) .nil))))))
    (.ret (.bool false))
    XS.nx)
    (.seq (.for_ (.list (.var 1)) (.tup (.cons (.name 4) (.cons (.name 5) .nil))) (.post [4, 5, 6] (.seq (.set 6 (.call (fn_times T) (fno_times T) (.cons false (.call (fn_harmonic T) (fno_harmonic T) (.cons false (.bi Bi.len (.cons true (.var 4) .nil)) .nil)) (.cons false (.tup (.cons false (.var 5) (.cons false (.int 1) .nil))) .nil))))
    (.ite (.B (.call (fn_is_less T) (fno_is_less T) (.cons false (.var 6) (.cons false (.call (fn_added T) (fno_added T) (.cons false (XN.e (XN.lc (.list (.var 4)) (.name 8) .yes (.op O2.ixL (.var 3) (.var 8)) [8])) .nil)) .nil))))
    (.ret (.bool false))
    XS.nx))))
    (.ret (.op O2.eqD (.call (fn_added T) (fno_added T) (.cons false (.var 3) .nil)) (.tup (.cons false (.bi Bi.sum (.cons true (XN.e (XN.lc (.list (.var 2)) (.name 9) .yes (.op O2.ixT (.op O2.ixL (.var 1) (.var 9)) (.int 1)) [9])) .nil)) (.cons false (.int 1) .nil))))))))
@[irreducible] noncomputable def fn_check_shares (T : Tx K mg) : Fn := ⟨4, false, fun as => runX (xs_check_shares T) false 6 as⟩
theorem fnf_check_shares (T : Tx K mg) (as : List Av) : (fn_check_shares T).f as = runX (xs_check_shares T) false 6 as := by unfold fn_check_shares; rfl
theorem fnm_check_shares (T : Tx K mg) : (fn_check_shares T).m = 4 := by unfold fn_check_shares; rfl
theorem fno_check_shares (T : Tx K mg) : (fn_check_shares T).own = false := by unfold fn_check_shares; rfl
@[irreducible] noncomputable def m_check_shares (T : Tx K mg) (size : Int) (sets : (List ((List Int) × Int))) (taken : (List Int)) (shares : (List (Int × Int))) : Rs Bool :=
  ((m_need_sets T size sets).bind fun _ =>
  ((((m_are_cover size sets taken).bind fun u_ => Rs.ok (!u_)).bind fun c => if c = true then Rs.ok true else (if (!decide ((lenI shares) = size)) = true then Rs.ok true else (((lcM (β := Bool) shares (fun (share : (Int × Int)) => (Rs.ok true)) (fun (share : (Int × Int)) => (Rs.ok (decide (share.1 ≥ 0))))).bind fun u => Rs.ok (u.all id)).bind fun u_ => Rs.ok (!u_)))).bind fun c2 => if c2 = true then
  (Rs.ok false)
  else (bindJ (forJ (fun (x : ((List Int) × Int)) (_ : Unit) =>
  (((m_harmonic T (lenI x.1)).bind fun u1 => m_times T u1 (x.2, 1)).bind fun most =>
  ((((lcM (β := (Int × Int)) x.1 (fun (member : Int) => (Rs.ok true)) (fun (member : Int) => ((ixC shares member)))).bind fun u2 => m_added T u2).bind fun u3 => m_is_less most u3).bind fun c1 => if c1 = true then
  (Rs.ok (LO.ex false))
  else (Rs.ok (LO.nx ()))))) sets ()) fun (_ : Unit) =>
  ((m_added T shares).bind fun u7 => (((lcM (β := Int) taken (fun (number : Int) => (Rs.ok true)) (fun (number : Int) => (((ixC sets number)).bind fun u4 => Rs.ok u4.2))).bind fun u5 => Rs.ok u5.sum).bind fun u6 => .ok (u6, 1)).bind fun u8 => Rs.ok (decide (u7 = u8))))))
theorem r_check_shares (T : Tx K mg) (size : Int) (sets : (List ((List Int) × Int))) (taken : (List Int)) (shares : (List (Int × Int))) : Si ((fn_check_shares T).f [.v (eI.v size), .v ((eL (eT2 (eL eI) eI)).v sets), .v ((eL eI).v taken), .v ((eL (eT2 eI eI)).v shares)]) (m_check_shares T size sets taken shares) eB.v := by
  rw [fnf_check_shares]
  exact si_runX (show SS (xs_check_shares T) [.v (eI.v size), .v ((eL (eT2 (eL eI) eI)).v sets), .v ((eL eI).v taken), .v ((eL (eT2 eI eI)).v shares), .x, .x, .x, .x, .x, .x] (m_check_shares T size sets taken shares) (PF false eB.v) from by
    unfold xs_check_shares m_check_shares
    exact (ss_drop (sv_call (sc_p (sv_var rfl) (sc_p (sv_var rfl) (sc_nil (si_fn (fnm_need_sets T) (r_need_sets T _ _))))))
  (ss_iteXI (st_orI (st_notI (st_B (sv_call (sc_p (sv_var rfl) (sc_p (sv_var rfl) (sc_p (sv_var rfl) (sc_nil (si_fn (fnm_are_cover T) (r_are_cover T _ _ _))))))))) (st_orP (st_test (sv_op (sx_p (sv_bi (sc_lp (sl_varv rfl) (sc_nil so_len))) (sx_p (sv_var rfl) so_neI)))) (st_notI (st_B (sv_bi (sc_li (sl_ofE (sv_eE (sn_lc (E := eB) (F := (eT2 eI eI)) (si_list (sw_varv rfl)) rfl rfl (fun (share : (Int × Int)) => ⟨[.v (eI.v size), .v ((eL (eT2 (eL eI) eI)).v sets), .v ((eL eI).v taken), .v ((eL (eT2 eI eI)).v shares), .x, .x, .x, .v ((eT2 eI eI).v share), .x, .x], rfl, st_yes, (sv_op (sx_p (sv_op (sx_p (sv_var rfl) (sx_p sv_int (so_ixT (E := eI) rfl)))) (sx_p sv_int so_ge)))⟩))) rfl) fun u => (sc_nil so_all)))))))
  (ss_ret sv_bool ⟨rfl, rfl⟩)
  (ss_nxS (ss_forJ (F := (eT2 (eL eI) eI).e) (es := fun (_ : Unit) => [.v (eI.v size), .v ((eL (eT2 (eL eI) eI)).v sets), .v ((eL eI).v taken), .v ((eL (eT2 eI eI)).v shares), .x, .x, .x, .x, .x, .x]) (s0 := ()) (si_list (sw_varv rfl)) rfl (fun _ => rfl)
  (fun (x : ((List Int) × Int)) (_ : Unit) => ⟨[.v (eI.v size), .v ((eL (eT2 (eL eI) eI)).v sets), .v ((eL eI).v taken), .v ((eL (eT2 eI eI)).v shares), .v ((eL eI).v x.1), .v (eI.v x.2), .x, .x, .x, .x], rfl, rfl,
  (ss_post (ss_setI (st1 := fun most => [.v (eI.v size), .v ((eL (eT2 (eL eI) eI)).v sets), .v ((eL eI).v taken), .v ((eL (eT2 eI eI)).v shares), .v ((eL eI).v x.1), .v (eI.v x.2), .v ((eT2 eI eI).v most), .x, .x, .x]) (sv_call (sc_i (sv_call (sc_p (sv_bi (sc_lp (sl_varv rfl) (sc_nil so_len))) (sc_nil (si_fn (fnm_harmonic T) (r_harmonic T _))))) fun u1 => (sc_p (sv_tup (sc_p (sv_var rfl) (sc_p sv_int (sc_nil (si_tup (e := (eT2 eI eI).v) rfl rfl))))) (sc_nil (si_fn (fnm_times T) (r_times T _ _)))))) (fun _ => rfl) fun most =>
  (ss_iteI (st_B (sv_call (sc_p (sv_var rfl) (sc_i (sv_call (sc_i (sv_eE (sn_lc (E := (eT2 eI eI)) (F := eI) (si_list (sw_varv rfl)) rfl rfl (fun (member : Int) => ⟨[.v (eI.v size), .v ((eL (eT2 (eL eI) eI)).v sets), .v ((eL eI).v taken), .v ((eL (eT2 eI eI)).v shares), .v ((eL eI).v x.1), .v (eI.v x.2), .v ((eT2 eI eI).v most), .x, .v (eI.v member), .x], rfl, st_yes, (sv_op (sl_p (sl_varv rfl) (sx_p (sv_var rfl) so_ixL)))⟩))) fun u2 => (sc_nil (si_fn (fnm_added T) (r_added T _))))) fun u3 => (sc_nil (si_fn (fnm_is_less T) (r_is_less T _ _)))))))
  (ss_ret sv_bool ⟨rfl, rfl⟩)
  (ss_nx (.inl rfl)))))⟩) fun (_ : Unit) =>
  (ss_retM (sv_op (sx_i (sv_call (sc_p (sv_var rfl) (sc_nil (si_fn (fnm_added T) (r_added T _))))) fun u7 => (sx_i (sv_tup (sc_i (sv_bi (sc_li (sl_ofE (sv_eE (sn_lc (E := eI) (F := eI) (si_list (sw_varv rfl)) rfl rfl (fun (number : Int) => ⟨[.v (eI.v size), .v ((eL (eT2 (eL eI) eI)).v sets), .v ((eL eI).v taken), .v ((eL (eT2 eI eI)).v shares), .x, .x, .x, .x, .x, .v (eI.v number)], rfl, st_yes, (sv_op (sx_i (sv_op (sl_p (sl_varv rfl) (sx_p (sv_var rfl) so_ixL))) fun u4 => (sx_p sv_int (so_ixT (E := eI) rfl))))⟩))) rfl) fun u5 => (sc_nil so_sum))) fun u6 => (sc_p sv_int (sc_nil (si_tup (e := (eT2 eI eI).v) rfl rfl))))) fun u8 => (so_eqD (E := (eT2 eI eI)))))) fun _ => rfl))))))
noncomputable def xs_cover_bound (T : Tx K mg) : XS K := (.seq (.set 3 (.call (fn_cover_factor T) (fno_cover_factor T) (.cons false (.var 0) (.cons false (.var 1) .nil))))
    (.seq (.ite (.test (.op O2.eq (.op O2.ixT (.var 3) (.int 0)) (.int 0)))
    (.ret (.tup (.cons false (.int 0) (.cons false (.int 1) .nil))))
    XS.nx)
    (.ret (.call (fn_over T) (fno_over T) (.cons false (.call (fn_added T) (fno_added T) (.cons false (.var 2) .nil)) (.cons false (.var 3) .nil))))))
@[irreducible] noncomputable def fn_cover_bound (T : Tx K mg) : Fn := ⟨3, false, fun as => runX (xs_cover_bound T) false 1 as⟩
theorem fnf_cover_bound (T : Tx K mg) (as : List Av) : (fn_cover_bound T).f as = runX (xs_cover_bound T) false 1 as := by unfold fn_cover_bound; rfl
theorem fnm_cover_bound (T : Tx K mg) : (fn_cover_bound T).m = 3 := by unfold fn_cover_bound; rfl
theorem fno_cover_bound (T : Tx K mg) : (fn_cover_bound T).own = false := by unfold fn_cover_bound; rfl
@[irreducible] noncomputable def m_cover_bound (T : Tx K mg) (size : Int) (sets : (List ((List Int) × Int))) (shares : (List (Int × Int))) : Rs (Int × Int) :=
  ((m_cover_factor T size sets).bind fun factor =>
  (if (decide (factor.1 = 0)) = true then
  (Rs.ok (0, 1))
  else ((m_added T shares).bind fun u => m_over T u factor)))
theorem r_cover_bound (T : Tx K mg) (size : Int) (sets : (List ((List Int) × Int))) (shares : (List (Int × Int))) : Si ((fn_cover_bound T).f [.v (eI.v size), .v ((eL (eT2 (eL eI) eI)).v sets), .v ((eL (eT2 eI eI)).v shares)]) (m_cover_bound T size sets shares) (eT2 eI eI).v := by
  rw [fnf_cover_bound]
  exact si_runX (show SS (xs_cover_bound T) [.v (eI.v size), .v ((eL (eT2 (eL eI) eI)).v sets), .v ((eL (eT2 eI eI)).v shares), .x] (m_cover_bound T size sets shares) (PF false (eT2 eI eI).v) from by
    unfold xs_cover_bound m_cover_bound
    exact (ss_setI (st1 := fun factor => [.v (eI.v size), .v ((eL (eT2 (eL eI) eI)).v sets), .v ((eL (eT2 eI eI)).v shares), .v ((eT2 eI eI).v factor)]) (sv_call (sc_p (sv_var rfl) (sc_p (sv_var rfl) (sc_nil (si_fn (fnm_cover_factor T) (r_cover_factor T _ _)))))) (fun _ => rfl) fun factor =>
  (ss_iteX (st_test (sv_op (sx_p (sv_op (sx_p (sv_var rfl) (sx_p sv_int (so_ixT (E := eI) rfl)))) (sx_p sv_int so_eqI))))
  (ss_ret (sv_tup (sc_p sv_int (sc_p sv_int (sc_nil (si_tup (e := (eT2 eI eI).v) rfl rfl))))) ⟨rfl, rfl⟩)
  (ss_nxS (ss_retM (sv_call (sc_i (sv_call (sc_p (sv_var rfl) (sc_nil (si_fn (fnm_added T) (r_added T _))))) fun u => (sc_p (sv_var rfl) (sc_nil (si_fn (fnm_over T) (r_over T _ _)))))) fun _ => rfl)))))
noncomputable def xs_law_numbers (T : Tx K mg) : XS K := (.seq (.setN 2 (XN.op O2N.cat (XN.e (XN.lc (.list (XN.e (XN.slS (.var 0) .none (.some (.int 63))))) (.name 7) .yes (.bi Bi.abs (.cons false (.var 7) .nil)) [7])) (XN.e (XN.lst (.cons false (.int 0) .nil)))))
    (.seq (.ite (.test (.op O2.gt (.bi Bi.len (.cons false (.var 0) .nil)) (.int 0)))
    (.setN 2 (XN.sl (.var 2) .none (.some (.neg (.int 1)))))
    XS.nx)
    (.seq (.setN 3 (XN.lend 2 (XN.lc (.list (.var 2)) (.name 7) .yes (.op O2.mod (.bi Bi.int (.cons false (.op O2.add (.op O2.mul (.var 7) (.int 48271)) (.int 11)) .nil)) (.int 2147483647)) [7])))
    (.seq (.setN 4 (XN.lst .nil))
    (.seq (.for_ (.range1 (.cons false (.var 1) .nil)) (.name 5) (.post [5, 6] (.seq (.set 6 (.op O2.mod (.bi Bi.int (.cons false (.var 5) .nil)) (.bi Bi.len (.cons true (.var 2) .nil))))
    (.ite (.test (.op O2.ge (.op O2.ixL (.var 2) (.var 6)) (.op O2.pow (.int 10) (.int 18))))
    (.seq (.app 4 (.op O2.mod (.bi Bi.int (.cons false (.op O2.ixL (.var 2) (.var 6)) .nil)) (.int 65536)))
    (.seti 2 (.var 6) (.op O2.div (.op O2.ixL (.var 2) (.var 6)) (.int 65536))))
    (.seq (.seti 3 (.var 6) (.op O2.mod (.bi Bi.int (.cons false (.op O2.add (.op O2.add (.op O2.mul (.op O2.ixL (.var 3) (.var 6)) (.int 16807)) (.int 12345)) (.op O2.mul (.int 7919) (.var 5))) .nil)) (.int 2147483647)))
    (.app 4 (.op O2.mod (.bi Bi.int (.cons false (.op O2.add (.op O2.ixL (.var 2) (.var 6)) (.op O2.div (.op O2.ixL (.var 3) (.var 6)) (.int 5))) .nil)) (.int 65536))))))))
    (.frz 4 (.ret (.var 4))))))))
@[irreducible] noncomputable def fn_law_numbers (T : Tx K mg) : Fn := ⟨2, false, fun as => runX (xs_law_numbers T) false 6 as⟩
theorem fnf_law_numbers (T : Tx K mg) (as : List Av) : (fn_law_numbers T).f as = runX (xs_law_numbers T) false 6 as := by unfold fn_law_numbers; rfl
theorem fnm_law_numbers (T : Tx K mg) : (fn_law_numbers T).m = 2 := by unfold fn_law_numbers; rfl
theorem fno_law_numbers (T : Tx K mg) : (fn_law_numbers T).own = false := by unfold fn_law_numbers; rfl
@[irreducible] noncomputable def m_law_numbers (script : (List Int)) (many : Int) : Rs (List Int) :=
  (((lcM (β := Int) (cutT script none (some 63)) (fun (cell : Int) => (Rs.ok true)) (fun (cell : Int) => (Rs.ok (iabs cell)))).bind fun u => (catC u ([0] : List Int))).bind fun rest =>
  (((if (decide ((lenI script) > 0)) = true then
  ((Rs.ok (cutT rest none (some (-1)))).bind fun rest1 =>
  (Rs.ok rest1))
  else (Rs.ok rest))).bind fun (rest2 : (List Int)) =>
  ((qu (lcM (β := Int) rest2 (fun (cell1 : Int) => (Rs.ok true)) (fun (cell1 : Int) => (Rs.ok (((cell1 * 48271) + 11) % 2147483647))))).bind fun mixed =>
  ((Rs.ok ([] : List Int)).bind fun numbers =>
  ((rng1C many).bind fun xs_ => (forR (fun (k : Int) (s : (List Int) × (List Int) × (List Int)) =>
  (((modC k (lenI s.1))).bind fun at' =>
  ((((ixC s.1 at')).bind fun u1 => Rs.ok (decide (u1 ≥ 1000000000000000000))).bind fun c => if c = true then
  (((((ixC s.1 at')).bind fun u2 => Rs.ok u2).bind fun u3 => Rs.ok (u3 % 65536)).bind fun u_ => (pushC s.2.2 u_).bind fun numbers1 =>
  ((((ixC s.1 at')).bind fun u4 => Rs.ok (u4 / 65536)).bind fun u_ => (qu (Rs.ok at')).bind fun z_ => (setC s.1 z_ u_).bind fun rest3 =>
  (Rs.ok (rest3, s.2.1, numbers1))))
  else ((((((((ixC s.2.1 at')).bind fun u5 => Rs.ok (u5 * 16807)).bind fun u6 => Rs.ok (u6 + 12345)).bind fun u7 => Rs.ok (u7 + (7919 * k))).bind fun u8 => Rs.ok u8).bind fun u9 => Rs.ok (u9 % 2147483647)).bind fun u_ => (qu (Rs.ok at')).bind fun z_ => (setC s.2.1 z_ u_).bind fun mixed1 =>
  ((((((ixC s.1 at')).bind fun u11 => (((ixC mixed1 at')).bind fun u10 => Rs.ok (u10 / 5)).bind fun u12 => Rs.ok (u11 + u12)).bind fun u13 => Rs.ok u13).bind fun u14 => Rs.ok (u14 % 65536)).bind fun u_ => (pushC s.2.2 u_).bind fun numbers2 =>
  (Rs.ok (s.1, mixed1, numbers2))))))) xs_ (rest2, mixed, numbers)).bind fun (s : (List Int) × (List Int) × (List Int)) =>
  (Rs.ok s.2.2))))))
theorem r_law_numbers (T : Tx K mg) (script : (List Int)) (many : Int) : Si ((fn_law_numbers T).f [.v (Vl.s script), .v (eI.v many)]) (m_law_numbers script many) (eL eI).v := by
  rw [fnf_law_numbers]
  exact si_runX (show SS (xs_law_numbers T) [.v (Vl.s script), .v (eI.v many), .x, .x, .x, .x, .x, .x] (m_law_numbers script many) (PF false (eL eI).v) from by
    unfold xs_law_numbers m_law_numbers
    exact (ss_setNI (st1 := fun rest => [.v (Vl.s script), .v (eI.v many), .ol (List.map eI.e rest), .x, .x, .x, .x, .x]) (sn_op (sl_i (sl_ofE (sv_eE (sn_lc (E := eI) (F := eI) (si_list (sw_ofE (sv_eE (sn_slS (sv_var rfl) so_none (so_some sv_int))) rfl)) rfl rfl (fun (cell : Int) => ⟨[.v (Vl.s script), .v (eI.v many), .x, .x, .x, .x, .x, .v (eI.v cell)], rfl, st_yes, (sv_bi (sc_p (sv_var rfl) (sc_nil so_abs)))⟩))) rfl) fun u => (sl_p (sl_ofE (sv_eE (sn_lst (sc_p sv_int (sc_nil (si_lst (f := List.map eI.e) rfl rfl))))) rfl) so_cat))) (fun _ => rfl) rfl fun rest =>
  (ss_seq (es := fun (rest2 : (List Int)) => [.v (Vl.s script), .v (eI.v many), .ol (List.map eI.e rest2), .x, .x, .x, .x, .x]) (ss_ite (st_test (sv_op (sx_p (sv_bi (sc_p (sv_var rfl) (sc_nil so_lenS))) (sx_p sv_int so_gt))))
  (ss_last (ss_setNI (st1 := fun rest1 => [.v (Vl.s script), .v (eI.v many), .ol (List.map eI.e rest1), .x, .x, .x, .x, .x]) (sn_sl (sl_varo rfl) so_none (so_some (sv_neg sv_int))) (fun _ => rfl) rfl fun rest1 =>
  (ss_nx rfl)))
  (ss_nx rfl)) (fun _ => rfl) fun rest2 =>
  (ss_setNI (st1 := fun mixed => [.v (Vl.s script), .v (eI.v many), .ol (List.map eI.e rest2), .ol (List.map eI.e mixed), .x, .x, .x, .x]) (sn_lend rfl (sn_lc (E := eI) (F := eI) (si_list (sw_varb rfl)) rfl rfl (fun (cell1 : Int) => ⟨[.v (Vl.s script), .v (eI.v many), .bl (List.map eI.e rest2), .x, .x, .x, .x, .v (eI.v cell1)], rfl, st_yes, (sv_op (sx_p (sv_bi (sc_p (sv_op (sx_p (sv_op (sx_p (sv_var rfl) (sx_p sv_int (so_mulp (mul_litr (by decide)))))) (sx_p sv_int so_add))) (sc_nil so_int))) (sx_p sv_int (so_modp (by decide)))))⟩))) (fun _ => rfl) rfl fun mixed =>
  (ss_setNI (st1 := fun numbers => [.v (Vl.s script), .v (eI.v many), .ol (List.map eI.e rest2), .ol (List.map eI.e mixed), .ol (List.map eI.e numbers), .x, .x, .x]) (sn_lst (sc_nil (si_lst (f := List.map eI.e) rfl rfl))) (fun _ => rfl) rfl fun numbers =>
  (ss_forRI (F := eI.e) (es := fun (s : (List Int) × (List Int) × (List Int)) => [.v (Vl.s script), .v (eI.v many), .ol (List.map eI.e s.1), .ol (List.map eI.e s.2.1), .ol (List.map eI.e s.2.2), .x, .x, .x]) (s0 := (rest2, mixed, numbers)) (si_range1 (sc_p (sv_var rfl) (sc_nil so_rng1))) rfl (fun _ => rfl)
  (fun (k : Int) (s : (List Int) × (List Int) × (List Int)) => ⟨[.v (Vl.s script), .v (eI.v many), .ol (List.map eI.e s.1), .ol (List.map eI.e s.2.1), .ol (List.map eI.e s.2.2), .v (eI.v k), .x, .x], rfl, rfl,
  (ss_post (ss_setI (st1 := fun at' => [.v (Vl.s script), .v (eI.v many), .ol (List.map eI.e s.1), .ol (List.map eI.e s.2.1), .ol (List.map eI.e s.2.2), .v (eI.v k), .v (eI.v at'), .x]) (sv_op (sx_p (sv_bi (sc_p (sv_var rfl) (sc_nil so_int))) (sx_p (sv_bi (sc_lp (sl_varo rfl) (sc_nil so_len))) so_mod))) (fun _ => rfl) fun at' =>
  (ss_iteI (st_test (sv_op (sx_i (sv_op (sl_p (sl_varo rfl) (sx_p (sv_var rfl) so_ixL))) fun u1 => (sx_p (sv_op (sx_p sv_int (sx_p sv_int (so_powp (by decide))))) so_ge))))
  (ss_appI (E := eI) (st1 := fun numbers1 => [.v (Vl.s script), .v (eI.v many), .ol (List.map eI.e s.1), .ol (List.map eI.e s.2.1), .ol (List.map eI.e numbers1), .v (eI.v k), .v (eI.v at'), .x]) rfl (sv_op (sx_i (sv_bi (sc_i (sv_op (sl_p (sl_varo rfl) (sx_p (sv_var rfl) so_ixL))) fun u2 => (sc_nil so_int))) fun u3 => (sx_p sv_int (so_modp (by decide))))) (fun _ => rfl) fun numbers1 =>
  (ss_last (ss_setiI (E := eI) (st1 := fun rest3 => [.v (Vl.s script), .v (eI.v many), .ol (List.map eI.e rest3), .ol (List.map eI.e s.2.1), .ol (List.map eI.e numbers1), .v (eI.v k), .v (eI.v at'), .x]) rfl (sv_op (sx_i (sv_op (sl_p (sl_varo rfl) (sx_p (sv_var rfl) so_ixL))) fun u4 => (sx_p sv_int (so_divp (div_lit ⟨by decide, by decide⟩))))) (sv_var rfl) (fun _ => rfl) fun rest3 =>
  (ss_nx (.inl rfl)))))
  (ss_setiI (E := eI) (st1 := fun mixed1 => [.v (Vl.s script), .v (eI.v many), .ol (List.map eI.e s.1), .ol (List.map eI.e mixed1), .ol (List.map eI.e s.2.2), .v (eI.v k), .v (eI.v at'), .x]) rfl (sv_op (sx_i (sv_bi (sc_i (sv_op (sx_i (sv_op (sx_i (sv_op (sx_i (sv_op (sl_p (sl_varo rfl) (sx_p (sv_var rfl) so_ixL))) fun u5 => (sx_p sv_int (so_mulp (mul_litr (by decide)))))) fun u6 => (sx_p sv_int so_add))) fun u7 => (sx_p (sv_op (sx_p sv_int (sx_p (sv_var rfl) (so_mulp (mul_litl (by decide)))))) so_add))) fun u8 => (sc_nil so_int))) fun u9 => (sx_p sv_int (so_modp (by decide))))) (sv_var rfl) (fun _ => rfl) fun mixed1 =>
  (ss_last (ss_appI (E := eI) (st1 := fun numbers2 => [.v (Vl.s script), .v (eI.v many), .ol (List.map eI.e s.1), .ol (List.map eI.e mixed1), .ol (List.map eI.e numbers2), .v (eI.v k), .v (eI.v at'), .x]) rfl (sv_op (sx_i (sv_bi (sc_i (sv_op (sx_i (sv_op (sl_p (sl_varo rfl) (sx_p (sv_var rfl) so_ixL))) fun u11 => (sx_i (sv_op (sx_i (sv_op (sl_p (sl_varo rfl) (sx_p (sv_var rfl) so_ixL))) fun u10 => (sx_p sv_int (so_divp (div_lit ⟨by decide, by decide⟩))))) fun u12 => so_add))) fun u13 => (sc_nil so_int))) fun u14 => (sx_p sv_int (so_modp (by decide))))) (fun _ => rfl) fun numbers2 =>
  (ss_nx (.inl rfl))))))))⟩) fun (s : (List Int) × (List Int) × (List Int)) =>
  (ss_frz (st1 := [.v (Vl.s script), .v (eI.v many), .ol (List.map eI.e s.1), .ol (List.map eI.e s.2.1), .v ((eL eI).v s.2.2), .x, .x, .x]) rfl rfl (ss_ret (sv_var rfl) rfl))))))))
noncomputable def xs_law_lowest (T : Tx K mg) : XS K := (.seq (.ite (.test (.op O2.lt (.var 1) (.int 0)))
    (.par 0 1 (.cons false (.neg (.var 0)) (.cons false (.neg (.var 1)) .nil)))
    XS.nx)
    (.seq (.par 2 3 (.cons false (.bi Bi.abs (.cons false (.var 0) .nil)) (.cons false (.var 1) .nil)))
    (.seq (.for_ (.range1 (.cons false (.int 4000) .nil)) (.name 4) (.post [4] (.seq (.ite (.test (.op O2.eq (.var 3) (.int 0)))
    .brk
    XS.nx)
    (.par 2 3 (.cons false (.var 3) (.cons false (.op O2.mod (.bi Bi.int (.cons false (.var 2) .nil)) (.var 3)) .nil))))))
    (.ret (.tup (.cons false (.op O2.div (.var 0) (.var 2)) (.cons false (.op O2.div (.var 1) (.var 2)) .nil)))))))
@[irreducible] noncomputable def fn_law_lowest (T : Tx K mg) : Fn := ⟨2, false, fun as => runX (xs_law_lowest T) false 3 as⟩
theorem fnf_law_lowest (T : Tx K mg) (as : List Av) : (fn_law_lowest T).f as = runX (xs_law_lowest T) false 3 as := by unfold fn_law_lowest; rfl
theorem fnm_law_lowest (T : Tx K mg) : (fn_law_lowest T).m = 2 := by unfold fn_law_lowest; rfl
theorem fno_law_lowest (T : Tx K mg) : (fn_law_lowest T).own = false := by unfold fn_law_lowest; rfl
@[irreducible] noncomputable def m_law_lowest (p : Int) (q : Int) : Rs (Int × Int) :=
  (((if (decide (q < 0)) = true then
  (Rs.ok ((-p), (-q)))
  else (Rs.ok (p, q)))).bind fun (s : Int × Int) =>
  (bindJ (forJ (fun (turn : Int) (s1 : Int × Int) =>
  (if (decide (s1.2 = 0)) = true then
  (Rs.ok (LO.bk (s1.1, s1.2)))
  else (((modC s1.1 s1.2)).bind fun two =>
  (Rs.ok (LO.nx (s1.2, two)))))) (rngL 0 4000) ((iabs s.1), s.2)) fun (s1 : Int × Int) =>
  (((divC s.1 s1.1)).bind fun u => ((divC s.2 s1.1)).bind fun u1 => .ok (u, u1))))
theorem r_law_lowest (T : Tx K mg) (p : Int) (q : Int) : Si ((fn_law_lowest T).f [.v (eI.v p), .v (eI.v q)]) (m_law_lowest p q) (eT2 eI eI).v := by
  rw [fnf_law_lowest]
  exact si_runX (show SS (xs_law_lowest T) [.v (eI.v p), .v (eI.v q), .x, .x, .x] (m_law_lowest p q) (PF false (eT2 eI eI).v) from by
    unfold xs_law_lowest m_law_lowest
    exact (ss_seq (es := fun (s : Int × Int) => [.v (eI.v s.1), .v (eI.v s.2), .x, .x, .x]) (ss_ite (st_test (sv_op (sx_p (sv_var rfl) (sx_p sv_int so_lt))))
  (ss_last (ss_parpp (st1 := [.v (eI.v (-p)), .v (eI.v (-q)), .x, .x, .x]) (sv_neg (sv_var rfl)) (sv_neg (sv_var rfl)) rfl
  (ss_nx rfl)))
  (ss_nx rfl)) (fun _ => rfl) fun s =>
  (ss_parpp (st1 := [.v (eI.v s.1), .v (eI.v s.2), .v (eI.v (iabs s.1)), .v (eI.v s.2), .x]) (sv_bi (sc_p (sv_var rfl) (sc_nil so_abs))) (sv_var rfl) rfl
  (ss_forJ (F := eI.e) (es := fun (s1 : Int × Int) => [.v (eI.v s.1), .v (eI.v s.2), .v (eI.v s1.1), .v (eI.v s1.2), .x]) (s0 := ((iabs s.1), s.2)) (si_range1 (sc_p sv_int (sc_nil (so_rng1p (by decide))))) rfl (fun _ => rfl)
  (fun (turn : Int) (s1 : Int × Int) => ⟨[.v (eI.v s.1), .v (eI.v s.2), .v (eI.v s1.1), .v (eI.v s1.2), .v (eI.v turn)], rfl, rfl,
  (ss_post (ss_iteX (st_test (sv_op (sx_p (sv_var rfl) (sx_p sv_int so_eqI))))
  (ss_brk ⟨rfl, rfl⟩)
  (ss_nxS (ss_last (ss_parpi (st1 := fun two => [.v (eI.v s.1), .v (eI.v s.2), .v (eI.v s1.2), .v (eI.v two), .v (eI.v turn)]) (sv_var rfl) (sv_op (sx_p (sv_bi (sc_p (sv_var rfl) (sc_nil so_int))) (sx_p (sv_var rfl) so_mod))) (fun _ => rfl) fun two =>
  (ss_nx (.inl rfl)))))))⟩) fun (s1 : Int × Int) =>
  (ss_retM (sv_tup (sc_i (sv_op (sx_p (sv_var rfl) (sx_p (sv_var rfl) so_div))) fun u => (sc_i (sv_op (sx_p (sv_var rfl) (sx_p (sv_var rfl) so_div))) fun u1 => (sc_nil (si_tup (e := (eT2 eI eI).v) rfl rfl))))) fun _ => rfl)))))
noncomputable def xs_law_plus (T : Tx K mg) : XS K := (.ret (.call (fn_law_lowest T) (fno_law_lowest T) (.cons false (.op O2.add (.op O2.mul (.op O2.ixT (.var 0) (.int 0)) (.op O2.ixT (.var 1) (.int 1))) (.op O2.mul (.op O2.ixT (.var 1) (.int 0)) (.op O2.ixT (.var 0) (.int 1)))) (.cons false (.op O2.mul (.op O2.ixT (.var 0) (.int 1)) (.op O2.ixT (.var 1) (.int 1))) .nil))))
@[irreducible] noncomputable def fn_law_plus (T : Tx K mg) : Fn := ⟨2, false, fun as => runX (xs_law_plus T) false 0 as⟩
theorem fnf_law_plus (T : Tx K mg) (as : List Av) : (fn_law_plus T).f as = runX (xs_law_plus T) false 0 as := by unfold fn_law_plus; rfl
theorem fnm_law_plus (T : Tx K mg) : (fn_law_plus T).m = 2 := by unfold fn_law_plus; rfl
theorem fno_law_plus (T : Tx K mg) : (fn_law_plus T).own = false := by unfold fn_law_plus; rfl
@[irreducible] noncomputable def m_law_plus (first : (Int × Int)) (second : (Int × Int)) : Rs (Int × Int) :=
  ((((mulC first.1 second.2)).bind fun u => ((mulC second.1 first.2)).bind fun u1 => Rs.ok (u + u1)).bind fun u2 => ((mulC first.2 second.2)).bind fun u3 => m_law_lowest u2 u3)
theorem r_law_plus (T : Tx K mg) (first : (Int × Int)) (second : (Int × Int)) : Si ((fn_law_plus T).f [.v ((eT2 eI eI).v first), .v ((eT2 eI eI).v second)]) (m_law_plus first second) (eT2 eI eI).v := by
  rw [fnf_law_plus]
  exact si_runX (show SS (xs_law_plus T) [.v ((eT2 eI eI).v first), .v ((eT2 eI eI).v second)] (m_law_plus first second) (PF false (eT2 eI eI).v) from by
    unfold xs_law_plus m_law_plus
    exact (ss_retM (sv_call (sc_i (sv_op (sx_i (sv_op (sx_p (sv_op (sx_p (sv_var rfl) (sx_p sv_int (so_ixT (E := eI) rfl)))) (sx_p (sv_op (sx_p (sv_var rfl) (sx_p sv_int (so_ixT (E := eI) rfl)))) so_mul))) fun u => (sx_i (sv_op (sx_p (sv_op (sx_p (sv_var rfl) (sx_p sv_int (so_ixT (E := eI) rfl)))) (sx_p (sv_op (sx_p (sv_var rfl) (sx_p sv_int (so_ixT (E := eI) rfl)))) so_mul))) fun u1 => so_add))) fun u2 => (sc_i (sv_op (sx_p (sv_op (sx_p (sv_var rfl) (sx_p sv_int (so_ixT (E := eI) rfl)))) (sx_p (sv_op (sx_p (sv_var rfl) (sx_p sv_int (so_ixT (E := eI) rfl)))) so_mul))) fun u3 => (sc_nil (si_fn (fnm_law_lowest T) (r_law_lowest T _ _)))))) fun _ => rfl))
noncomputable def xs_law_added (T : Tx K mg) : XS K := (.seq (.set 1 (.tup (.cons false (.int 0) (.cons false (.int 1) .nil))))
    (.seq (.for_ (.list (.var 0)) (.name 2) (.post [2] (.set 1 (.call (fn_law_plus T) (fno_law_plus T) (.cons false (.var 1) (.cons false (.var 2) .nil))))))
    (.ret (.var 1))))
@[irreducible] noncomputable def fn_law_added (T : Tx K mg) : Fn := ⟨1, false, fun as => runX (xs_law_added T) false 2 as⟩
theorem fnf_law_added (T : Tx K mg) (as : List Av) : (fn_law_added T).f as = runX (xs_law_added T) false 2 as := by unfold fn_law_added; rfl
theorem fnm_law_added (T : Tx K mg) : (fn_law_added T).m = 1 := by unfold fn_law_added; rfl
theorem fno_law_added (T : Tx K mg) : (fn_law_added T).own = false := by unfold fn_law_added; rfl
@[irreducible] noncomputable def m_law_added (rows : (List (Int × Int))) : Rs (Int × Int) :=
  ((Rs.ok (0, 1)).bind fun total =>
  ((forR (fun (one : (Int × Int)) (total1 : (Int × Int)) =>
  ((m_law_plus total1 one).bind fun total2 =>
  (Rs.ok total2))) rows total).bind fun (total1 : (Int × Int)) =>
  (Rs.ok total1)))
theorem r_law_added (T : Tx K mg) (rows : (List (Int × Int))) : Si ((fn_law_added T).f [.v ((eL (eT2 eI eI)).v rows)]) (m_law_added rows) (eT2 eI eI).v := by
  rw [fnf_law_added]
  exact si_runX (show SS (xs_law_added T) [.v ((eL (eT2 eI eI)).v rows), .x, .x] (m_law_added rows) (PF false (eT2 eI eI).v) from by
    unfold xs_law_added m_law_added
    exact (ss_setI (st1 := fun total => [.v ((eL (eT2 eI eI)).v rows), .v ((eT2 eI eI).v total), .x]) (sv_tup (sc_p sv_int (sc_p sv_int (sc_nil (si_tup (e := (eT2 eI eI).v) rfl rfl))))) (fun _ => rfl) fun total =>
  (ss_forR (F := (eT2 eI eI).e) (es := fun (total1 : (Int × Int)) => [.v ((eL (eT2 eI eI)).v rows), .v ((eT2 eI eI).v total1), .x]) (s0 := total) (si_list (sw_varv rfl)) rfl (fun _ => rfl)
  (fun (one : (Int × Int)) (total1 : (Int × Int)) => ⟨[.v ((eL (eT2 eI eI)).v rows), .v ((eT2 eI eI).v total1), .v ((eT2 eI eI).v one)], rfl, rfl,
  (ss_post (ss_last (ss_setI (st1 := fun total2 => [.v ((eL (eT2 eI eI)).v rows), .v ((eT2 eI eI).v total2), .v ((eT2 eI eI).v one)]) (sv_call (sc_p (sv_var rfl) (sc_p (sv_var rfl) (sc_nil (si_fn (fnm_law_plus T) (r_law_plus T _ _)))))) (fun _ => rfl) fun total2 =>
  (ss_nx (.inl rfl)))))⟩) fun (total1 : (Int × Int)) =>
  (ss_ret (sv_var rfl) rfl))))
noncomputable def xs_law_sets (T : Tx K mg) : XS K := (.seq (.set 4 (.op O2.add (.int 1) (.op O2.mod (.bi Bi.int (.cons false (.op O2.ixL (.var 0) (.var 1)) .nil)) (.var 2))))
    (.seq (.setN 5 (XN.lst .nil))
    (.seq (.for_ (.range1 (.cons false (.op O2.add (.int 1) (.op O2.mod (.bi Bi.int (.cons false (.op O2.ixL (.var 0) (.op O2.add (.var 1) (.int 1))) .nil)) (.var 3))) .nil)) (.name 6) (.post [6, 7, 8] (.seq (.set 7 (.bi Bi.int (.cons false (.op O2.ixL (.var 0) (.op O2.add (.op O2.add (.var 1) (.int 2)) (.var 6))) .nil)))
    (.seq (.set 8 (XN.e (XN.lc (.range1 (.cons false (.var 4) .nil)) (.name 10) (.test (.op O2.lt (.op O2.mod (.op O2.div (.bi Bi.int (.cons false (.op O2.ixL (.var 0) (.op O2.add (.op O2.add (.var 1) (.int 14)) (.op O2.mod (.bi Bi.int (.cons false (.op O2.add (.var 10) (.op O2.mul (.int 5) (.var 6))) .nil)) (.int 40)))) .nil)) (.op O2.add (.int 1) (.op O2.mod (.var 7) (.int 7)))) (.int 5)) (.int 2))) (.var 10) [10])))
    (.app 5 (.tup (.cons false (.var 8) (.cons false (.op O2.add (.op O2.ixL (XN.e (XN.lst (.cons false (.int 0) (.cons false (.int 1) (.cons false (.int 2) (.cons false (.int 3) (.cons false (.int 4) (.cons false (.int 6) (.cons false (.int 12) (.cons false (.int 60) .nil)))))))))) (.op O2.mod (.op O2.div (.var 7) (.int 7)) (.int 8))) (.op O2.mod (.op O2.div (.var 7) (.int 56)) (.int 3))) .nil))))))))
    (.seq (.ite (.test (.op O2.gt (.op O2.mod (.bi Bi.int (.cons false (.op O2.ixL (.var 0) (.op O2.add (.var 1) (.int 54))) .nil)) (.int 4)) (.int 0)))
    (.post [6, 9] (.seq (.set 9 (XN.e (XN.lc (.range1 (.cons false (.var 4) .nil)) (.name 10) (.test (.op O2.eq (.bi Bi.len (.cons true (XN.e (XN.lend 5 (XN.lc (.list (.var 5)) (.tup (.cons (.name 8) (.cons (.name 11) .nil))) (.test (.op O2.inL (.var 10) (.var 8))) (.int 1) [8, 11]))) .nil)) (.int 0))) (.var 10) [10])))
    (.seq (.set 6 (.op O2.mod (.bi Bi.int (.cons false (.op O2.ixL (.var 0) (.op O2.add (.var 1) (.int 55))) .nil)) (.bi Bi.len (.cons true (.var 5) .nil))))
    (.seti 5 (.var 6) (.tup (.cons false (XN.e (XN.bi BiN.sortD (.cons true (XN.e (XN.op O2N.cat (.op O2.ixT (.op O2.ixL (.var 5) (.var 6)) (.int 0)) (.var 9))) .nil))) (.cons false (.op O2.ixT (.op O2.ixL (.var 5) (.var 6)) (.int 1)) .nil)))))))
    (.post [6, 9] XS.nx))
    (.frz 5 (.ret (.tup (.cons false (.var 4) (.cons false (.var 5) .nil)))))))))
@[irreducible] noncomputable def fn_law_sets (T : Tx K mg) : Fn := ⟨4, false, fun as => runX (xs_law_sets T) false 8 as⟩
theorem fnf_law_sets (T : Tx K mg) (as : List Av) : (fn_law_sets T).f as = runX (xs_law_sets T) false 8 as := by unfold fn_law_sets; rfl
theorem fnm_law_sets (T : Tx K mg) : (fn_law_sets T).m = 4 := by unfold fn_law_sets; rfl
theorem fno_law_sets (T : Tx K mg) : (fn_law_sets T).own = false := by unfold fn_law_sets; rfl
@[irreducible] noncomputable def m_law_sets (numbers : (List Int)) (at' : Int) (most : Int) (many : Int) : Rs (Int × (List ((List Int) × Int))) :=
  ((((((ixC numbers at')).bind fun u => Rs.ok u).bind fun u1 => (modC u1 most)).bind fun u2 => Rs.ok (1 + u2)).bind fun size =>
  ((Rs.ok ([] : List ((List Int) × Int))).bind fun sets =>
  (((((((ixC numbers (at' + 1))).bind fun u3 => Rs.ok u3).bind fun u4 => (modC u4 many)).bind fun u5 => Rs.ok (1 + u5)).bind fun u6 => rng1C u6).bind fun xs_ => (forR (fun (k : Int) (sets1 : (List ((List Int) × Int))) =>
  ((((ixC numbers ((at' + 2) + k))).bind fun u7 => Rs.ok u7).bind fun drawn =>
  (((rng1C size).bind fun xs_ => lcM (β := Int) xs_ (fun (one : Int) => ((((((ixC numbers ((at' + 14) + ((one + (5 * k)) % 40)))).bind fun u8 => Rs.ok u8).bind fun u9 => (divC u9 (1 + (drawn % 7)))).bind fun u10 => Rs.ok (u10 % 5)).bind fun u11 => Rs.ok (decide (u11 < 2)))) (fun (one : Int) => (Rs.ok one))).bind fun members =>
  (((((ixC ([0, 1, 2, 3, 4, 6, 12, 60] : List Int) ((drawn / 7) % 8))).bind fun u12 => Rs.ok (u12 + ((drawn / 56) % 3))).bind fun u13 => .ok (members, u13)).bind fun u_ => (pushC sets1 u_).bind fun sets2 =>
  (Rs.ok sets2))))) xs_ sets).bind fun (sets1 : (List ((List Int) × Int))) =>
  ((((((((ixC numbers (at' + 54))).bind fun u14 => Rs.ok u14).bind fun u15 => Rs.ok (u15 % 4)).bind fun u16 => Rs.ok (decide (u16 > 0))).bind fun c => if c = true then
  (((rng1C size).bind fun xs_ => lcM (β := Int) xs_ (fun (one1 : Int) => (((qu (lcM (β := Int) sets1 (fun (x : ((List Int) × Int)) => (Rs.ok (decide (one1 ∈ x.1)))) (fun (x : ((List Int) × Int)) => (Rs.ok (1 : Int))))).bind fun u17 => Rs.ok (lenI u17)).bind fun u18 => Rs.ok (decide (u18 = 0)))) (fun (one1 : Int) => (Rs.ok one1))).bind fun missing =>
  (((((ixC numbers (at' + 55))).bind fun u19 => Rs.ok u19).bind fun u20 => (modC u20 (lenI sets1))).bind fun k1 =>
  (((((((ixC sets1 k1)).bind fun u21 => Rs.ok u21.1).bind fun u22 => (catC u22 missing)).bind fun u23 => Rs.ok (sortT (OrdE.lt (E := eI)) u23)).bind fun u25 => (((ixC sets1 k1)).bind fun u24 => Rs.ok u24.2).bind fun u26 => .ok (u25, u26)).bind fun u_ => (qu (Rs.ok k1)).bind fun z_ => (setC sets1 z_ u_).bind fun sets3 =>
  (Rs.ok sets3))))
  else (Rs.ok sets1))).bind fun (sets4 : (List ((List Int) × Int))) =>
  (Rs.ok (size, sets4))))))
theorem r_law_sets (T : Tx K mg) (numbers : (List Int)) (at' : Int) (most : Int) (many : Int) : Si ((fn_law_sets T).f [.v ((eL eI).v numbers), .v (eI.v at'), .v (eI.v most), .v (eI.v many)]) (m_law_sets numbers at' most many) (eT2 eI (eL (eT2 (eL eI) eI))).v := by
  rw [fnf_law_sets]
  exact si_runX (show SS (xs_law_sets T) [.v ((eL eI).v numbers), .v (eI.v at'), .v (eI.v most), .v (eI.v many), .x, .x, .x, .x, .x, .x, .x, .x] (m_law_sets numbers at' most many) (PF false (eT2 eI (eL (eT2 (eL eI) eI))).v) from by
    unfold xs_law_sets m_law_sets
    exact (ss_setI (st1 := fun size => [.v ((eL eI).v numbers), .v (eI.v at'), .v (eI.v most), .v (eI.v many), .v (eI.v size), .x, .x, .x, .x, .x, .x, .x]) (sv_op (sx_p sv_int (sx_i (sv_op (sx_i (sv_bi (sc_i (sv_op (sl_p (sl_varv rfl) (sx_p (sv_var rfl) so_ixL))) fun u => (sc_nil so_int))) fun u1 => (sx_p (sv_var rfl) so_mod))) fun u2 => so_add))) (fun _ => rfl) fun size =>
  (ss_setNI (st1 := fun sets => [.v ((eL eI).v numbers), .v (eI.v at'), .v (eI.v most), .v (eI.v many), .v (eI.v size), .ol (List.map (eT2 (eL eI) eI).e sets), .x, .x, .x, .x, .x, .x]) (sn_lst (sc_nil (si_lst (f := List.map (eT2 (eL eI) eI).e) rfl rfl))) (fun _ => rfl) rfl fun sets =>
  (ss_forRI (F := eI.e) (es := fun (sets1 : (List ((List Int) × Int))) => [.v ((eL eI).v numbers), .v (eI.v at'), .v (eI.v most), .v (eI.v many), .v (eI.v size), .ol (List.map (eT2 (eL eI) eI).e sets1), .x, .x, .x, .x, .x, .x]) (s0 := sets) (si_range1 (sc_i (sv_op (sx_p sv_int (sx_i (sv_op (sx_i (sv_bi (sc_i (sv_op (sl_p (sl_varv rfl) (sx_p (sv_op (sx_p (sv_var rfl) (sx_p sv_int so_add))) so_ixL))) fun u3 => (sc_nil so_int))) fun u4 => (sx_p (sv_var rfl) so_mod))) fun u5 => so_add))) fun u6 => (sc_nil so_rng1))) rfl (fun _ => rfl)
  (fun (k : Int) (sets1 : (List ((List Int) × Int))) => ⟨[.v ((eL eI).v numbers), .v (eI.v at'), .v (eI.v most), .v (eI.v many), .v (eI.v size), .ol (List.map (eT2 (eL eI) eI).e sets1), .v (eI.v k), .x, .x, .x, .x, .x], rfl, rfl,
  (ss_post (ss_setI (st1 := fun drawn => [.v ((eL eI).v numbers), .v (eI.v at'), .v (eI.v most), .v (eI.v many), .v (eI.v size), .ol (List.map (eT2 (eL eI) eI).e sets1), .v (eI.v k), .v (eI.v drawn), .x, .x, .x, .x]) (sv_bi (sc_i (sv_op (sl_p (sl_varv rfl) (sx_p (sv_op (sx_p (sv_op (sx_p (sv_var rfl) (sx_p sv_int so_add))) (sx_p (sv_var rfl) so_add))) so_ixL))) fun u7 => (sc_nil so_int))) (fun _ => rfl) fun drawn =>
  (ss_setI (st1 := fun members => [.v ((eL eI).v numbers), .v (eI.v at'), .v (eI.v most), .v (eI.v many), .v (eI.v size), .ol (List.map (eT2 (eL eI) eI).e sets1), .v (eI.v k), .v (eI.v drawn), .v ((eL eI).v members), .x, .x, .x]) (sv_eE (sn_lcI (E := eI) (F := eI) (si_range1 (sc_p (sv_var rfl) (sc_nil so_rng1))) rfl rfl (fun (one : Int) => ⟨[.v ((eL eI).v numbers), .v (eI.v at'), .v (eI.v most), .v (eI.v many), .v (eI.v size), .ol (List.map (eT2 (eL eI) eI).e sets1), .v (eI.v k), .v (eI.v drawn), .x, .x, .v (eI.v one), .x], rfl, (st_test (sv_op (sx_i (sv_op (sx_i (sv_op (sx_i (sv_bi (sc_i (sv_op (sl_p (sl_varv rfl) (sx_p (sv_op (sx_p (sv_op (sx_p (sv_var rfl) (sx_p sv_int so_add))) (sx_p (sv_op (sx_p (sv_bi (sc_p (sv_op (sx_p (sv_var rfl) (sx_p (sv_op (sx_p sv_int (sx_p (sv_var rfl) (so_mulp (mul_litl (by decide)))))) so_add))) (sc_nil so_int))) (sx_p sv_int (so_modp (by decide))))) so_add))) so_ixL))) fun u8 => (sc_nil so_int))) fun u9 => (sx_p (sv_op (sx_p sv_int (sx_p (sv_op (sx_p (sv_var rfl) (sx_p sv_int (so_modp (by decide))))) so_add))) so_div))) fun u10 => (sx_p sv_int (so_modp (by decide))))) fun u11 => (sx_p sv_int so_lt)))), (sv_var rfl)⟩))) (fun _ => rfl) fun members =>
  (ss_last (ss_appI (E := (eT2 (eL eI) eI)) (st1 := fun sets2 => [.v ((eL eI).v numbers), .v (eI.v at'), .v (eI.v most), .v (eI.v many), .v (eI.v size), .ol (List.map (eT2 (eL eI) eI).e sets2), .v (eI.v k), .v (eI.v drawn), .v ((eL eI).v members), .x, .x, .x]) rfl (sv_tup (sc_p (sv_var rfl) (sc_i (sv_op (sx_i (sv_op (sl_p (sl_ofE (sv_eE (sn_lst (sc_p sv_int (sc_p sv_int (sc_p sv_int (sc_p sv_int (sc_p sv_int (sc_p sv_int (sc_p sv_int (sc_p sv_int (sc_nil (si_lst (f := List.map eI.e) rfl rfl)))))))))))) rfl) (sx_p (sv_op (sx_p (sv_op (sx_p (sv_var rfl) (sx_p sv_int (so_divp (div_lit ⟨by decide, by decide⟩))))) (sx_p sv_int (so_modp (by decide))))) so_ixL))) fun u12 => (sx_p (sv_op (sx_p (sv_op (sx_p (sv_var rfl) (sx_p sv_int (so_divp (div_lit ⟨by decide, by decide⟩))))) (sx_p sv_int (so_modp (by decide))))) so_add))) fun u13 => (sc_nil (si_tup (e := (eT2 (eL eI) eI).v) rfl rfl))))) (fun _ => rfl) fun sets2 =>
  (ss_nx (.inl rfl)))))))⟩) fun (sets1 : (List ((List Int) × Int))) =>
  (ss_seq (es := fun (sets4 : (List ((List Int) × Int))) => [.v ((eL eI).v numbers), .v (eI.v at'), .v (eI.v most), .v (eI.v many), .v (eI.v size), .ol (List.map (eT2 (eL eI) eI).e sets4), .x, .x, .x, .x, .x, .x]) (ss_iteI (st_test (sv_op (sx_i (sv_op (sx_i (sv_bi (sc_i (sv_op (sl_p (sl_varv rfl) (sx_p (sv_op (sx_p (sv_var rfl) (sx_p sv_int so_add))) so_ixL))) fun u14 => (sc_nil so_int))) fun u15 => (sx_p sv_int (so_modp (by decide))))) fun u16 => (sx_p sv_int so_gt))))
  (ss_post (ss_setI (st1 := fun missing => [.v ((eL eI).v numbers), .v (eI.v at'), .v (eI.v most), .v (eI.v many), .v (eI.v size), .ol (List.map (eT2 (eL eI) eI).e sets1), .x, .x, .x, .v ((eL eI).v missing), .x, .x]) (sv_eE (sn_lcI (E := eI) (F := eI) (si_range1 (sc_p (sv_var rfl) (sc_nil so_rng1))) rfl rfl (fun (one1 : Int) => ⟨[.v ((eL eI).v numbers), .v (eI.v at'), .v (eI.v most), .v (eI.v many), .v (eI.v size), .ol (List.map (eT2 (eL eI) eI).e sets1), .x, .x, .x, .x, .v (eI.v one1), .x], rfl, (st_test (sv_op (sx_i (sv_bi (sc_li (sl_ofE (sv_eE (sn_lend rfl (sn_lc (E := eI) (F := (eT2 (eL eI) eI)) (si_list (sw_varb rfl)) rfl rfl (fun (x : ((List Int) × Int)) => ⟨[.v ((eL eI).v numbers), .v (eI.v at'), .v (eI.v most), .v (eI.v many), .v (eI.v size), .bl (List.map (eT2 (eL eI) eI).e sets1), .x, .x, .v ((eL eI).v x.1), .x, .v (eI.v one1), .v (eI.v x.2)], rfl, (st_test (sv_op (sx_p (sv_var rfl) (sl_p (sl_varv rfl) so_inL)))), sv_int⟩)))) rfl) fun u17 => (sc_nil so_len))) fun u18 => (sx_p sv_int so_eqI)))), (sv_var rfl)⟩))) (fun _ => rfl) fun missing =>
  (ss_setI (st1 := fun k1 => [.v ((eL eI).v numbers), .v (eI.v at'), .v (eI.v most), .v (eI.v many), .v (eI.v size), .ol (List.map (eT2 (eL eI) eI).e sets1), .v (eI.v k1), .x, .x, .v ((eL eI).v missing), .x, .x]) (sv_op (sx_i (sv_bi (sc_i (sv_op (sl_p (sl_varv rfl) (sx_p (sv_op (sx_p (sv_var rfl) (sx_p sv_int so_add))) so_ixL))) fun u19 => (sc_nil so_int))) fun u20 => (sx_p (sv_bi (sc_lp (sl_varo rfl) (sc_nil so_len))) so_mod))) (fun _ => rfl) fun k1 =>
  (ss_last (ss_setiI (E := (eT2 (eL eI) eI)) (st1 := fun sets3 => [.v ((eL eI).v numbers), .v (eI.v at'), .v (eI.v most), .v (eI.v many), .v (eI.v size), .ol (List.map (eT2 (eL eI) eI).e sets3), .v (eI.v k1), .x, .x, .v ((eL eI).v missing), .x, .x]) rfl (sv_tup (sc_i (sv_eE (sn_bi (sc_li (sl_ofE (sv_eE (sn_op (sl_i (sl_ofE (sv_op (sx_i (sv_op (sl_p (sl_varo rfl) (sx_p (sv_var rfl) so_ixL))) fun u21 => (sx_p sv_int (so_ixT (E := (eL eI)) rfl)))) rfl) fun u22 => (sl_p (sl_varv rfl) so_cat)))) rfl) fun u23 => (sc_nil (so_sortD (E := eI)))))) fun u25 => (sc_i (sv_op (sx_i (sv_op (sl_p (sl_varo rfl) (sx_p (sv_var rfl) so_ixL))) fun u24 => (sx_p sv_int (so_ixT (E := eI) rfl)))) fun u26 => (sc_nil (si_tup (e := (eT2 (eL eI) eI).v) rfl rfl))))) (sv_var rfl) (fun _ => rfl) fun sets3 =>
  (ss_nx rfl))))))
  (ss_post (ss_nx rfl))) (fun _ => rfl) fun sets4 =>
  (ss_frz (st1 := [.v ((eL eI).v numbers), .v (eI.v at'), .v (eI.v most), .v (eI.v many), .v (eI.v size), .v ((eL (eT2 (eL eI) eI)).v sets4), .x, .x, .x, .x, .x, .x]) rfl rfl (ss_ret (sv_tup (sc_p (sv_var rfl) (sc_p (sv_var rfl) (sc_nil (si_tup (e := (eT2 eI (eL (eT2 (eL eI) eI))).v) rfl rfl))))) rfl)))))))
noncomputable def xs_law_quick (T : Tx K mg) : XS K := (.seq (.setN 2 (XN.op O2N.rep (XN.e (XN.lst (.cons false .non .nil))) (.var 0)))
    (.seq (.setN 3 (XN.lst .nil))
    (.seq (.for_ (.range1 (.cons false (.var 0) .nil)) (.name 4) (.post [4, 5, 6, 7, 8] (.seq (.set 5 .non)
    (.seq (.for_ (.range1 (.cons false (.bi Bi.len (.cons true (.var 1) .nil)) .nil)) (.name 6) (.post [6, 8] (.seq (.set 8 (XN.e (XN.lc (.list (.op O2.ixT (.op O2.ixL (.var 1) (.var 6)) (.int 0))) (.name 7) (.test (.op O2.isN (.op O2.ixL (.var 2) (.var 7)) .non)) (.var 7) [7])))
    (.ite (.and (.test (.op O2.gt (.bi Bi.len (.cons true (.var 8) .nil)) (.int 0))) (.or (.test (.op O2.isN (.var 5) .non)) (.test (.op O2.lt (.op O2.mul (.op O2.ixT (.op O2.ixL (.var 1) (.var 6)) (.int 1)) (.op O2.ixT (.var 5) (.int 1))) (.op O2.mul (.op O2.ixT (.var 5) (.int 0)) (.bi Bi.len (.cons true (.var 8) .nil)))))))
    (.set 5 (.tup (.cons false (.op O2.ixT (.op O2.ixL (.var 1) (.var 6)) (.int 1)) (.cons false (.bi Bi.len (.cons true (.var 8) .nil)) (.cons false (.var 6) .nil)))))
    XS.nx))))
    (.ite (.test (.op O2.notN (.var 5) .non))
    (.seq (.app 3 (.op O2.ixT (.var 5) (.int 2)))
    (.for_ (.list (.op O2.ixT (.op O2.ixL (.var 1) (.op O2.ixT (.var 5) (.int 2))) (.int 0))) (.name 7) (.post [7] (.ite (.test (.op O2.isN (.op O2.ixL (.var 2) (.var 7)) .non))
    (.seti 2 (.var 7) (.call (fn_law_lowest T) (fno_law_lowest T) (.cons false (.op O2.ixT (.var 5) (.int 0)) (.cons false (.op O2.ixT (.var 5) (.int 1)) .nil))))
    XS.nx))))
    XS.nx)))))
    (.seq (.ite (.test (.op O2.inLD .non (.var 2)))
    (.ret .non)
    XS.nx)
    (.frz 3 (.frz 2 (.ret (.tup (.cons false (.var 3) (.cons false (.bi Bi.sum (.cons true (XN.e (XN.lc (.list (.var 3)) (.name 6) .yes (.op O2.ixT (.op O2.ixL (.var 1) (.var 6)) (.int 1)) [6])) .nil)) (.cons false (.var 2) .nil)))))))))))
@[irreducible] noncomputable def fn_law_quick (T : Tx K mg) : Fn := ⟨2, false, fun as => runX (xs_law_quick T) false 7 as⟩
theorem fnf_law_quick (T : Tx K mg) (as : List Av) : (fn_law_quick T).f as = runX (xs_law_quick T) false 7 as := by unfold fn_law_quick; rfl
theorem fnm_law_quick (T : Tx K mg) : (fn_law_quick T).m = 2 := by unfold fn_law_quick; rfl
theorem fno_law_quick (T : Tx K mg) : (fn_law_quick T).own = false := by unfold fn_law_quick; rfl
@[irreducible] noncomputable def m_law_quick (size : Int) (sets : (List ((List Int) × Int))) : Rs (Option ((List Int) × Int × (List (Option (Int × Int))))) :=
  (((repC ([none] : List (Option (Int × Int))) size)).bind fun shares =>
  ((Rs.ok ([] : List Int)).bind fun taken =>
  ((rng1C size).bind fun xs_ => (forR (fun (turn : Int) (s : (List (Option (Int × Int))) × (List Int)) =>
  ((rng1C (lenI sets)).bind fun xs_ => (forR (fun (k : Int) (best : (Option (Int × Int × Int))) =>
  (((((ixC sets k)).bind fun u => Rs.ok u.1).bind fun xs_ => lcM (β := Int) xs_ (fun (one : Int) => (((ixC s.1 one)).bind fun u1 => Rs.ok u1.isNone)) (fun (one : Int) => (Rs.ok one))).bind fun fresh =>
  ((if (decide ((lenI fresh) > 0)) = true then (if best.isNone = true then Rs.ok true else (((((ixC sets k)).bind fun u2 => Rs.ok u2.2).bind fun u4 => ((theO best).bind fun u3 => Rs.ok u3.2.1).bind fun u5 => (mulC u4 u5)).bind fun u8 => (((theO best).bind fun u6 => Rs.ok u6.1).bind fun u7 => (mulC u7 (lenI fresh))).bind fun u9 => Rs.ok (decide (u8 < u9)))) else Rs.ok false).bind fun c => if c = true then
  ((((((ixC sets k)).bind fun u10 => Rs.ok u10.2).bind fun u11 => .ok (u11, (lenI fresh), k)).bind fun o_ => Rs.ok (some o_)).bind fun best1 =>
  (Rs.ok best1))
  else (Rs.ok best)))) xs_ none).bind fun (best : (Option (Int × Int × Int))) =>
  (if best.isSome = true then
  ((theO best).bind fun best2 =>
  ((pushC s.2 best2.2.2).bind fun taken1 =>
  ((((ixC sets best2.2.2)).bind fun u12 => Rs.ok u12.1).bind fun xs_ => (forR (fun (one1 : Int) (shares1 : (List (Option (Int × Int)))) =>
  ((((ixC shares1 one1)).bind fun u13 => Rs.ok u13.isNone).bind fun c1 => if c1 = true then
  (((m_law_lowest best2.1 best2.2.1).bind fun o_ => Rs.ok (some o_)).bind fun u_ => (qu (Rs.ok one1)).bind fun z_ => (setC shares1 z_ u_).bind fun shares2 =>
  (Rs.ok shares2))
  else (Rs.ok shares1))) xs_ s.1).bind fun (shares1 : (List (Option (Int × Int)))) =>
  (Rs.ok (shares1, taken1)))))
  else (Rs.ok (s.1, s.2))))) xs_ (shares, taken)).bind fun (s : (List (Option (Int × Int))) × (List Int)) =>
  (if (decide (none ∈ s.1)) = true then
  (Rs.ok none)
  else ((((lcM (β := Int) s.2 (fun (k1 : Int) => (Rs.ok true)) (fun (k1 : Int) => (((ixC sets k1)).bind fun u14 => Rs.ok u14.2))).bind fun u15 => Rs.ok u15.sum).bind fun u16 => .ok (s.2, u16, s.1)).bind fun o_ => Rs.ok (some o_))))))
theorem r_law_quick (T : Tx K mg) (size : Int) (sets : (List ((List Int) × Int))) : Si ((fn_law_quick T).f [.v (eI.v size), .v ((eL (eT2 (eL eI) eI)).v sets)]) (m_law_quick size sets) (eO (eT3 (eL eI) eI (eL (eO (eT2 eI eI))))).v := by
  rw [fnf_law_quick]
  exact si_runX (show SS (xs_law_quick T) [.v (eI.v size), .v ((eL (eT2 (eL eI) eI)).v sets), .x, .x, .x, .x, .x, .x, .x] (m_law_quick size sets) (PF false (eO (eT3 (eL eI) eI (eL (eO (eT2 eI eI))))).v) from by
    unfold xs_law_quick m_law_quick
    exact (ss_setNI (st1 := fun shares => [.v (eI.v size), .v ((eL (eT2 (eL eI) eI)).v sets), .ol (List.map (eO (eT2 eI eI)).e shares), .x, .x, .x, .x, .x, .x]) (sn_op (sl_p (sl_ofE (sv_eE (sn_lst (sc_p sv_non (sc_nil (si_lst (f := List.map (eO (eT2 eI eI)).e) rfl rfl))))) rfl) (sx_p (sv_var rfl) so_rep))) (fun _ => rfl) rfl fun shares =>
  (ss_setNI (st1 := fun taken => [.v (eI.v size), .v ((eL (eT2 (eL eI) eI)).v sets), .ol (List.map (eO (eT2 eI eI)).e shares), .ol (List.map eI.e taken), .x, .x, .x, .x, .x]) (sn_lst (sc_nil (si_lst (f := List.map eI.e) rfl rfl))) (fun _ => rfl) rfl fun taken =>
  (ss_forRI (F := eI.e) (es := fun (s : (List (Option (Int × Int))) × (List Int)) => [.v (eI.v size), .v ((eL (eT2 (eL eI) eI)).v sets), .ol (List.map (eO (eT2 eI eI)).e s.1), .ol (List.map eI.e s.2), .x, .x, .x, .x, .x]) (s0 := (shares, taken)) (si_range1 (sc_p (sv_var rfl) (sc_nil so_rng1))) rfl (fun _ => rfl)
  (fun (turn : Int) (s : (List (Option (Int × Int))) × (List Int)) => ⟨[.v (eI.v size), .v ((eL (eT2 (eL eI) eI)).v sets), .ol (List.map (eO (eT2 eI eI)).e s.1), .ol (List.map eI.e s.2), .v (eI.v turn), .x, .x, .x, .x], rfl, rfl,
  (ss_post (ss_set (st1 := [.v (eI.v size), .v ((eL (eT2 (eL eI) eI)).v sets), .ol (List.map (eO (eT2 eI eI)).e s.1), .ol (List.map eI.e s.2), .v (eI.v turn), .v ((eO (eT3 eI eI eI)).v none), .x, .x, .x]) sv_non rfl
  (ss_forRI (F := eI.e) (es := fun (best : (Option (Int × Int × Int))) => [.v (eI.v size), .v ((eL (eT2 (eL eI) eI)).v sets), .ol (List.map (eO (eT2 eI eI)).e s.1), .ol (List.map eI.e s.2), .v (eI.v turn), .v ((eO (eT3 eI eI eI)).v best), .x, .x, .x]) (s0 := none) (si_range1 (sc_p (sv_bi (sc_lp (sl_varv rfl) (sc_nil so_len))) (sc_nil so_rng1))) rfl (fun _ => rfl)
  (fun (k : Int) (best : (Option (Int × Int × Int))) => ⟨[.v (eI.v size), .v ((eL (eT2 (eL eI) eI)).v sets), .ol (List.map (eO (eT2 eI eI)).e s.1), .ol (List.map eI.e s.2), .v (eI.v turn), .v ((eO (eT3 eI eI eI)).v best), .v (eI.v k), .x, .x], rfl, rfl,
  (ss_post (ss_setI (st1 := fun fresh => [.v (eI.v size), .v ((eL (eT2 (eL eI) eI)).v sets), .ol (List.map (eO (eT2 eI eI)).e s.1), .ol (List.map eI.e s.2), .v (eI.v turn), .v ((eO (eT3 eI eI eI)).v best), .v (eI.v k), .x, .v ((eL eI).v fresh)]) (sv_eE (sn_lcI (E := eI) (F := eI) (si_list (sw_ofE (sv_op (sx_i (sv_op (sl_p (sl_varv rfl) (sx_p (sv_var rfl) so_ixL))) fun u => (sx_p sv_int (so_ixT (E := (eL eI)) rfl)))) rfl)) rfl rfl (fun (one : Int) => ⟨[.v (eI.v size), .v ((eL (eT2 (eL eI) eI)).v sets), .ol (List.map (eO (eT2 eI eI)).e s.1), .ol (List.map eI.e s.2), .v (eI.v turn), .v ((eO (eT3 eI eI eI)).v best), .v (eI.v k), .v (eI.v one), .x], rfl, (st_test (sv_op (sx_i (sv_op (sl_p (sl_varo rfl) (sx_p (sv_var rfl) so_ixL))) fun u1 => (sx_p sv_nonU so_isN)))), (sv_var rfl)⟩))) (fun _ => rfl) fun fresh =>
  (ss_iteI (st_andP (st_test (sv_op (sx_p (sv_bi (sc_lp (sl_varv rfl) (sc_nil so_len))) (sx_p sv_int so_gt)))) (st_orP (st_test (sv_op (sx_p (sv_var rfl) (sx_p sv_nonU so_isN)))) (st_test (sv_op (sx_i (sv_op (sx_i (sv_op (sx_i (sv_op (sl_p (sl_varv rfl) (sx_p (sv_var rfl) so_ixL))) fun u2 => (sx_p sv_int (so_ixT (E := eI) rfl)))) fun u4 => (sx_i (sv_op (sx_i (sv_theO (sv_var rfl)) fun u3 => (sx_p sv_int (so_ixT (E := eI) rfl)))) fun u5 => so_mul))) fun u8 => (sx_i (sv_op (sx_i (sv_op (sx_i (sv_theO (sv_var rfl)) fun u6 => (sx_p sv_int (so_ixT (E := eI) rfl)))) fun u7 => (sx_p (sv_bi (sc_lp (sl_varv rfl) (sc_nil so_len))) so_mul))) fun u9 => so_lt))))))
  (ss_last (ss_setI (st1 := fun best1 => [.v (eI.v size), .v ((eL (eT2 (eL eI) eI)).v sets), .ol (List.map (eO (eT2 eI eI)).e s.1), .ol (List.map eI.e s.2), .v (eI.v turn), .v ((eO (eT3 eI eI eI)).v best1), .v (eI.v k), .x, .v ((eL eI).v fresh)]) (sv_someI (sv_tup (sc_i (sv_op (sx_i (sv_op (sl_p (sl_varv rfl) (sx_p (sv_var rfl) so_ixL))) fun u10 => (sx_p sv_int (so_ixT (E := eI) rfl)))) fun u11 => (sc_p (sv_bi (sc_lp (sl_varv rfl) (sc_nil so_len))) (sc_p (sv_var rfl) (sc_nil (si_tup (e := (eT3 eI eI eI).v) rfl rfl))))))) (fun _ => rfl) fun best1 =>
  (ss_nx (.inl rfl))))
  (ss_nx (.inl rfl)))))⟩) fun (best : (Option (Int × Int × Int))) =>
  (ss_ite (st_test (sv_op (sx_p (sv_var rfl) (sx_p sv_nonU so_notN))))
  (ss_theO (st := fun (o_ : Option (Int × Int × Int)) => [.v (eI.v size), .v ((eL (eT2 (eL eI) eI)).v sets), .ol (List.map (eO (eT2 eI eI)).e s.1), .ol (List.map eI.e s.2), .v (eI.v turn), .v ((eO (eT3 eI eI eI)).v o_), .x, .x, .x]) fun best2 =>
  (ss_app (E := eI) (st1 := fun taken1 => [.v (eI.v size), .v ((eL (eT2 (eL eI) eI)).v sets), .ol (List.map (eO (eT2 eI eI)).e s.1), .ol (List.map eI.e taken1), .v (eI.v turn), .v ((eT3 eI eI eI).v best2), .x, .x, .x]) rfl (sv_op (sx_p (sv_var rfl) (sx_p sv_int (so_ixT (E := eI) rfl)))) (fun _ => rfl) fun taken1 =>
  (ss_last (ss_forRI (F := eI.e) (es := fun (shares1 : (List (Option (Int × Int)))) => [.v (eI.v size), .v ((eL (eT2 (eL eI) eI)).v sets), .ol (List.map (eO (eT2 eI eI)).e shares1), .ol (List.map eI.e taken1), .v (eI.v turn), .v ((eT3 eI eI eI).v best2), .x, .x, .x]) (s0 := s.1) (si_list (sw_ofE (sv_op (sx_i (sv_op (sl_p (sl_varv rfl) (sx_p (sv_op (sx_p (sv_var rfl) (sx_p sv_int (so_ixT (E := eI) rfl)))) so_ixL))) fun u12 => (sx_p sv_int (so_ixT (E := (eL eI)) rfl)))) rfl)) rfl (fun _ => rfl)
  (fun (one1 : Int) (shares1 : (List (Option (Int × Int)))) => ⟨[.v (eI.v size), .v ((eL (eT2 (eL eI) eI)).v sets), .ol (List.map (eO (eT2 eI eI)).e shares1), .ol (List.map eI.e taken1), .v (eI.v turn), .v ((eT3 eI eI eI).v best2), .x, .v (eI.v one1), .x], rfl, rfl,
  (ss_post (ss_iteI (st_test (sv_op (sx_i (sv_op (sl_p (sl_varo rfl) (sx_p (sv_var rfl) so_ixL))) fun u13 => (sx_p sv_nonU so_isN))))
  (ss_last (ss_setiI (E := (eO (eT2 eI eI))) (st1 := fun shares2 => [.v (eI.v size), .v ((eL (eT2 (eL eI) eI)).v sets), .ol (List.map (eO (eT2 eI eI)).e shares2), .ol (List.map eI.e taken1), .v (eI.v turn), .v ((eT3 eI eI eI).v best2), .x, .v (eI.v one1), .x]) rfl (sv_someI (sv_call (sc_p (sv_op (sx_p (sv_var rfl) (sx_p sv_int (so_ixT (E := eI) rfl)))) (sc_p (sv_op (sx_p (sv_var rfl) (sx_p sv_int (so_ixT (E := eI) rfl)))) (sc_nil (si_fn (fnm_law_lowest T) (r_law_lowest T _ _))))))) (sv_var rfl) (fun _ => rfl) fun shares2 =>
  (ss_nx (.inl rfl))))
  (ss_nx (.inl rfl))))⟩) fun (shares1 : (List (Option (Int × Int)))) =>
  (ss_nx (.inl rfl))))))
  (ss_nx (.inl rfl))))))⟩) fun (s : (List (Option (Int × Int))) × (List Int)) =>
  (ss_iteX (st_test (sv_op (sx_p sv_non (sl_p (sl_varo rfl) (so_inLD (E := (eO (eT2 eI eI))))))))
  (ss_ret sv_non ⟨rfl, rfl⟩)
  (ss_nxS (ss_frz (st1 := [.v (eI.v size), .v ((eL (eT2 (eL eI) eI)).v sets), .ol (List.map (eO (eT2 eI eI)).e s.1), .v ((eL eI).v s.2), .x, .x, .x, .x, .x]) rfl rfl (ss_frz (st1 := [.v (eI.v size), .v ((eL (eT2 (eL eI) eI)).v sets), .v ((eL (eO (eT2 eI eI))).v s.1), .v ((eL eI).v s.2), .x, .x, .x, .x, .x]) rfl rfl (ss_retM (sv_someI (sv_tup (sc_p (sv_var rfl) (sc_i (sv_bi (sc_li (sl_ofE (sv_eE (sn_lc (E := eI) (F := eI) (si_list (sw_varv rfl)) rfl rfl (fun (k1 : Int) => ⟨[.v (eI.v size), .v ((eL (eT2 (eL eI) eI)).v sets), .v ((eL (eO (eT2 eI eI))).v s.1), .v ((eL eI).v s.2), .x, .x, .v (eI.v k1), .x, .x], rfl, st_yes, (sv_op (sx_i (sv_op (sl_p (sl_varv rfl) (sx_p (sv_var rfl) so_ixL))) fun u14 => (sx_p sv_int (so_ixT (E := eI) rfl))))⟩))) rfl) fun u15 => (sc_nil so_sum))) fun u16 => (sc_p (sv_var rfl) (sc_nil (si_tup (e := (eT3 (eL eI) eI (eL (eO (eT2 eI eI)))).v) rfl rfl))))))) fun _ => rfl)))))))))
noncomputable def xu_law_refused (T : Tx K mg) (a : Addr) (cls : Value) (d : Option Addr) : XS K := (.seq (.set 4 (XN.e (XN.lst (.cons false (.isX 3 a cls d T.c_OutOfRange T.kn T.kn_is) (.cons false (.isX 3 a cls d T.c_TooMany T.kn T.kn_is) (.cons false (.isX 3 a cls d T.c_BadSet T.kn T.kn_is) .nil))))))
    (.ret (.tup (.cons false (XN.e (XN.op O2N.cat (.var 4) (XN.e (XN.lst (.cons false (.isX 3 a cls d T.c_BadPrice T.kn T.kn_is) .nil))))) (.cons false (.errAt 3 a cls d T.kn T.kn_at) .nil)))))
noncomputable def xs_law_refused (T : Tx K mg) : XS K := (.seq (.try_ 3 T.c_WebError (.ite (.test (.op O2.eq (.var 0) (.int 0)))
    (.drop (.call (fn_cover_program T) (fno_cover_program T) (.cons false (.var 1) (.cons false (.var 2) .nil))))
    (.ite (.test (.op O2.eq (.var 0) (.int 1)))
    (.drop (.callTv (fn_quick_cover T) (.cons false (.var 1) (.cons false (.var 2) .nil))))
    (.ite (.test (.op O2.eq (.var 0) (.int 2)))
    (.drop (.call (fn_cover_factor T) (fno_cover_factor T) (.cons false (.var 1) (.cons false (.var 2) .nil))))
    (.ite (.test (.op O2.eq (.var 0) (.int 3)))
    (.drop (.call (fn_check_shares T) (fno_check_shares T) (.cons false (.var 1) (.cons false (.var 2) (.cons false (XN.e (XN.lst .nil)) (.cons false (XN.e (XN.lst .nil)) .nil))))))
    (.drop (.call (fn_cover_bound T) (fno_cover_bound T) (.cons false (.var 1) (.cons false (.var 2) (.cons false (XN.e (XN.lst .nil)) .nil))))))))) (XH.any 3 (xu_law_refused T)))
    (.ret .non))
@[irreducible] noncomputable def fn_law_refused (T : Tx K mg) : Fn := ⟨3, false, fun as => runX (xs_law_refused T) false 2 as⟩
theorem fnf_law_refused (T : Tx K mg) (as : List Av) : (fn_law_refused T).f as = runX (xs_law_refused T) false 2 as := by unfold fn_law_refused; rfl
theorem fnm_law_refused (T : Tx K mg) : (fn_law_refused T).m = 3 := by unfold fn_law_refused; rfl
theorem fno_law_refused (T : Tx K mg) : (fn_law_refused T).own = false := by unfold fn_law_refused; rfl
@[irreducible] noncomputable def m_law_refused (T : Tx K mg) (way : Int) (size : Int) (sets : (List ((List Int) × Int))) : Rs (Option ((List Bool) × Int)) :=
  (bindJ (tryJ (if (decide (way = 0)) = true then
  ((m_cover_program T size sets).bind fun _ =>
  (Rs.ok (J.nx ())))
  else (if (decide (way = 1)) = true then
  ((m_quick_cover T size sets).bind fun _ =>
  (Rs.ok (J.nx ())))
  else (if (decide (way = 2)) = true then
  ((m_cover_factor T size sets).bind fun _ =>
  (Rs.ok (J.nx ())))
  else (if (decide (way = 3)) = true then
  ((m_check_shares T size sets ([] : List Int) ([] : List (Int × Int))).bind fun _ =>
  (Rs.ok (J.nx ())))
  else ((m_cover_bound T size sets ([] : List (Int × Int))).bind fun _ =>
  (Rs.ok (J.nx ()))))))) fun C n => hndM K T.c_WebError C (((isXC K T.kn C T.c_OutOfRange).bind fun u => (isXC K T.kn C T.c_TooMany).bind fun u1 => (isXC K T.kn C T.c_BadSet).bind fun u2 => .ok ([u, u1, u2] : List Bool)).bind fun kinds =>
  (((((isXC K T.kn C T.c_BadPrice).bind fun u3 => .ok ([u3] : List Bool)).bind fun u4 => (catC kinds u4)).bind fun u5 => (grd (C ∈ T.kn) (Rs.ok n)).bind fun u6 => .ok (u5, u6)).bind fun o_ => Rs.ok (some o_))) (fun v_ => v_)) fun (_ : Unit) =>
  (Rs.ok none))
theorem r_law_refused (T : Tx K mg) (way : Int) (size : Int) (sets : (List ((List Int) × Int))) : Si ((fn_law_refused T).f [.v (eI.v way), .v (eI.v size), .v ((eL (eT2 (eL eI) eI)).v sets)]) (m_law_refused T way size sets) (eO (eT2 (eL eB) eI)).v := by
  rw [fnf_law_refused]
  exact si_runX (show SS (xs_law_refused T) [.v (eI.v way), .v (eI.v size), .v ((eL (eT2 (eL eI) eI)).v sets), .x, .x] (m_law_refused T way size sets) (PF false (eO (eT2 (eL eB) eI)).v) from by
    unfold xs_law_refused m_law_refused
    exact (ss_tryK (M := fun C n => (((isXC K T.kn C T.c_OutOfRange).bind fun u => (isXC K T.kn C T.c_TooMany).bind fun u1 => (isXC K T.kn C T.c_BadSet).bind fun u2 => .ok ([u, u1, u2] : List Bool)).bind fun kinds =>
  (((((isXC K T.kn C T.c_BadPrice).bind fun u3 => .ok ([u3] : List Bool)).bind fun u4 => (catC kinds u4)).bind fun u5 => (grd (C ∈ T.kn) (Rs.ok n)).bind fun u6 => .ok (u5, u6)).bind fun o_ => Rs.ok (some o_)))) (e := (eO (eT2 (eL eB) eI)).v) (es := fun (_ : Unit) => [.v (eI.v way), .v (eI.v size), .v ((eL (eT2 (eL eI) eI)).v sets), .x, .x]) (f := fun v_ => v_) (kx_ite kx_drop (kx_ite kx_drop (kx_ite kx_drop (kx_ite kx_drop kx_drop)))) (fun a d C n => show SS (xu_law_refused T a (.ref C) (some d)) [.v (eI.v way), .v (eI.v size), .v ((eL (eT2 (eL eI) eI)).v sets), .er a d n, .x] _ _ from (by unfold xu_law_refused; exact (ss_setI (st1 := fun kinds => [.v (eI.v way), .v (eI.v size), .v ((eL (eT2 (eL eI) eI)).v sets), .er a d n, .v ((eL eB).v kinds)]) (sv_eE (sn_lst (sc_i (sv_isX rfl) fun u => (sc_i (sv_isX rfl) fun u1 => (sc_i (sv_isX rfl) fun u2 => (sc_nil (si_lst (f := List.map eB.e) rfl rfl))))))) (fun _ => rfl) fun kinds =>
  (ss_retM (sv_someI (sv_tup (sc_i (sv_eE (sn_op (sl_p (sl_varv rfl) (sl_i (sl_ofE (sv_eE (sn_lst (sc_i (sv_isX rfl) fun u3 => (sc_nil (si_lst (f := List.map eB.e) rfl rfl))))) rfl) fun u4 => so_cat)))) fun u5 => (sc_i (sv_errAt rfl) fun u6 => (sc_nil (si_tup (e := (eT2 (eL eB) eI).v) rfl rfl)))))) fun _ => rfl)))) (ss_ite (st_test (sv_op (sx_p (sv_var rfl) (sx_p sv_int so_eqI))))
  (ss_last (ss_drop (sv_call (sc_p (sv_var rfl) (sc_p (sv_var rfl) (sc_nil (si_fn (fnm_cover_program T) (r_cover_program T _ _))))))
  (ss_nx rfl)))
  (ss_ite (st_test (sv_op (sx_p (sv_var rfl) (sx_p sv_int so_eqI))))
  (ss_last (ss_drop (sv_callT (E := (eT3 (eL eI) eI (eL (eO (eT2 eI eI))))) (f := (fun (t_ : ((List Int) × Int × (List (Option (Int × Int))))) => ([.l (List.map eI.e t_.1), .v (eI.e t_.2.1), .l (List.map (eO (eT2 eI eI)).e t_.2.2)] : List Cp))) (fun _ => rfl) (sc_p (sv_var rfl) (sc_p (sv_var rfl) (sc_nil (si_fnT (fnm_quick_cover T) (r_quick_cover T _ _))))))
  (ss_nx rfl)))
  (ss_ite (st_test (sv_op (sx_p (sv_var rfl) (sx_p sv_int so_eqI))))
  (ss_last (ss_drop (sv_call (sc_p (sv_var rfl) (sc_p (sv_var rfl) (sc_nil (si_fn (fnm_cover_factor T) (r_cover_factor T _ _))))))
  (ss_nx rfl)))
  (ss_ite (st_test (sv_op (sx_p (sv_var rfl) (sx_p sv_int so_eqI))))
  (ss_last (ss_drop (sv_call (sc_p (sv_var rfl) (sc_p (sv_var rfl) (sc_p (sv_eE (sn_lst (sc_nil (si_lst (f := List.map eI.e) rfl rfl)))) (sc_p (sv_eE (sn_lst (sc_nil (si_lst (f := List.map (eT2 eI eI).e) rfl rfl)))) (sc_nil (si_fn (fnm_check_shares T) (r_check_shares T _ _ _ _))))))))
  (ss_nx rfl)))
  (ss_last (ss_drop (sv_call (sc_p (sv_var rfl) (sc_p (sv_var rfl) (sc_p (sv_eE (sn_lst (sc_nil (si_lst (f := List.map (eT2 eI eI).e) rfl rfl)))) (sc_nil (si_fn (fnm_cover_bound T) (r_cover_bound T _ _ _)))))))
  (ss_nx rfl))))))) (fun _ => rfl) (fun _ => rfl) fun (_ : Unit) =>
  (ss_ret sv_non rfl)))
noncomputable def xs_law_refusals (T : Tx K mg) : XS K := (.seq (.set 3 (.op O2.ixL (XN.e (XN.lst (.cons false (.tup (.cons false (XN.e (XN.lst (.cons false (.var 1) .nil))) (.cons false (.int 0) .nil))) (.cons false (.tup (.cons false (XN.e (XN.lst (.cons false (.int 0) (.cons false (.int 0) .nil)))) (.cons false (.int 1) .nil))) (.cons false (.tup (.cons false (XN.e (XN.lst (.cons false (.neg (.int 1)) .nil))) (.cons false (.int 1) .nil))) (.cons false (.tup (.cons false (XN.e (XN.lst (.cons false (.op O2.sub (.var 1) (.int 1)) (.cons false (.op O2.sub (.var 1) (.int 2)) .nil)))) (.cons false (.int 2) .nil))) .nil)))))) (.op O2.mod (.bi Bi.int (.cons false (.op O2.ixL (.var 0) (.int 0)) .nil)) (.int 4))))
    (.seq (.set 4 (.tup (.cons false (XN.e (XN.lst (.cons false (.int 0) .nil))) (.cons false (.op O2.ixL (XN.e (XN.lst (.cons false (.neg (.int 1)) (.cons false (.int 1048577) .nil)))) (.op O2.mod (.bi Bi.int (.cons false (.op O2.ixL (.var 0) (.int 1)) .nil)) (.int 2))) .nil))))
    (.seq (.set 5 (.op O2.mod (.bi Bi.int (.cons false (.op O2.ixL (.var 0) (.int 2)) .nil)) (.op O2.add (.bi Bi.len (.cons true (.var 2) .nil)) (.int 1))))
    (.seq (.for_ (.range1 (.cons false (.int 5) .nil)) (.name 6) (.post [6, 7] (.seq (.for_ (.list (XN.e (XN.lst (.cons false (.int 0) (.cons false (.neg (.int 3)) (.cons false (.op O2.add (.int 41) (.op O2.mod (.bi Bi.int (.cons false (.op O2.ixL (.var 0) (.int 3)) .nil)) (.int 5))) .nil)))))) (.name 7) (.post [7] (.ite (.test (.op O2.neD (.call (fn_law_refused T) (fno_law_refused T) (.cons false (.var 6) (.cons false (.var 7) (.cons false (XN.e (XN.lst (.cons false (.var 3) .nil))) .nil)))) (.tup (.cons false (XN.e (XN.lst (.cons false (.bool true) (.cons false (.bool false) (.cons false (.bool false) (.cons false (.bool false) .nil)))))) (.cons false (.var 7) .nil)))))
    (.ret (.bool false))
    XS.nx)))
    (.seq (.ite (.test (.op O2.neD (.call (fn_law_refused T) (fno_law_refused T) (.cons false (.var 6) (.cons false (.var 1) (.cons false (XN.e (XN.lst .nil)) .nil)))) (.tup (.cons false (XN.e (XN.lst (.cons false (.bool false) (.cons false (.bool true) (.cons false (.bool false) (.cons false (.bool false) .nil)))))) (.cons false (.int 0) .nil)))))
    (.ret (.bool false))
    XS.nx)
    (.seq (.ite (.test (.op O2.neD (.call (fn_law_refused T) (fno_law_refused T) (.cons false (.var 6) (.cons false (.var 1) (.cons false (XN.e (XN.op O2N.rep (XN.e (XN.lst (.cons false (.var 3) .nil))) (.int 41))) .nil)))) (.tup (.cons false (XN.e (XN.lst (.cons false (.bool false) (.cons false (.bool true) (.cons false (.bool false) (.cons false (.bool false) .nil)))))) (.cons false (.int 41) .nil)))))
    (.ret (.bool false))
    XS.nx)
    (.seq (.ite (.test (.op O2.neD (.call (fn_law_refused T) (fno_law_refused T) (.cons false (.var 6) (.cons false (.var 1) (.cons false (XN.e (XN.op O2N.cat (XN.e (XN.op O2N.cat (XN.e (XN.op O2N.cat (XN.e (XN.sl (.var 2) .none (.some (.var 5)))) (XN.e (XN.lst (.cons false (.tup (.cons false (.op O2.ixT (.var 3) (.int 0)) (.cons false (.neg (.int 5)) .nil))) .nil))))) (XN.e (XN.sl (.var 2) (.some (.var 5)) .none)))) (XN.e (XN.lst (.cons false (.var 4) .nil))))) .nil)))) (.tup (.cons false (XN.e (XN.lst (.cons false (.bool false) (.cons false (.bool false) (.cons false (.bool true) (.cons false (.bool false) .nil)))))) (.cons false (.var 5) .nil)))))
    (.ret (.bool false))
    XS.nx)
    (.ite (.test (.op O2.neD (.call (fn_law_refused T) (fno_law_refused T) (.cons false (.var 6) (.cons false (.var 1) (.cons false (XN.e (XN.op O2N.cat (XN.e (XN.op O2N.cat (XN.e (XN.op O2N.cat (XN.e (XN.sl (.var 2) .none (.some (.var 5)))) (XN.e (XN.lst (.cons false (.var 4) .nil))))) (XN.e (XN.sl (.var 2) (.some (.var 5)) .none)))) (XN.e (XN.lst (.cons false (.var 3) .nil))))) .nil)))) (.tup (.cons false (XN.e (XN.lst (.cons false (.bool false) (.cons false (.bool false) (.cons false (.bool false) (.cons false (.bool true) .nil)))))) (.cons false (.var 5) .nil)))))
    (.ret (.bool false))
    XS.nx)))))))
    (.ret (.bool true))))))
@[irreducible] noncomputable def fn_law_refusals (T : Tx K mg) : Fn := ⟨3, false, fun as => runX (xs_law_refusals T) false 5 as⟩
theorem fnf_law_refusals (T : Tx K mg) (as : List Av) : (fn_law_refusals T).f as = runX (xs_law_refusals T) false 5 as := by unfold fn_law_refusals; rfl
theorem fnm_law_refusals (T : Tx K mg) : (fn_law_refusals T).m = 3 := by unfold fn_law_refusals; rfl
theorem fno_law_refusals (T : Tx K mg) : (fn_law_refusals T).own = false := by unfold fn_law_refusals; rfl
@[irreducible] noncomputable def m_law_refusals (T : Tx K mg) (numbers : (List Int)) (size : Int) (sets : (List ((List Int) × Int))) : Rs Bool :=
  ((((((ixC numbers 0)).bind fun u => Rs.ok u).bind fun u1 => Rs.ok (u1 % 4)).bind fun u2 => (ixC ([(([size] : List Int), 0), (([0, 0] : List Int), 1), (([(-1)] : List Int), 1), (([(size - 1), (size - 2)] : List Int), 2)] : List ((List Int) × Int)) u2)).bind fun bad =>
  (((((((ixC numbers 1)).bind fun u3 => Rs.ok u3).bind fun u4 => Rs.ok (u4 % 2)).bind fun u5 => (ixC ([(-1), 1048577] : List Int) u5)).bind fun u6 => .ok (([0] : List Int), u6)).bind fun dear =>
  (((((ixC numbers 2)).bind fun u7 => Rs.ok u7).bind fun u8 => (modC u8 ((lenI sets) + 1))).bind fun at' =>
  (bindJ (forJ (fun (way : Int) (_ : Unit) =>
  (((((((ixC numbers 3)).bind fun u9 => Rs.ok u9).bind fun u10 => Rs.ok (u10 % 5)).bind fun u11 => Rs.ok (41 + u11)).bind fun u12 => .ok ([0, (-3), u12] : List Int)).bind fun xs_ => bindJ (forJ (fun (wrong : Int) (_ : Unit) =>
  (((m_law_refused T way wrong ([bad] : List ((List Int) × Int))).bind fun u13 => Rs.ok (!decide (u13 = (some (([true, false, false, false] : List Bool), wrong))))).bind fun c => if c = true then
  (Rs.ok (LO.ex (LO.ex false)))
  else (Rs.ok (LO.nx ())))) xs_ ()) fun (_ : Unit) =>
  (((m_law_refused T way size ([] : List ((List Int) × Int))).bind fun u14 => Rs.ok (!decide (u14 = (some (([false, true, false, false] : List Bool), 0))))).bind fun c4 => if c4 = true then
  (Rs.ok (LO.ex false))
  else (((((repC ([bad] : List ((List Int) × Int)) 41)).bind fun u15 => m_law_refused T way size u15).bind fun u16 => Rs.ok (!decide (u16 = (some (([false, true, false, false] : List Bool), 41))))).bind fun c3 => if c3 = true then
  (Rs.ok (LO.ex false))
  else (((((((catC (cutT sets none (some at')) ([(bad.1, (-5))] : List ((List Int) × Int)))).bind fun u17 => (catC u17 (cutT sets (some at') none))).bind fun u18 => (catC u18 ([dear] : List ((List Int) × Int)))).bind fun u19 => m_law_refused T way size u19).bind fun u20 => Rs.ok (!decide (u20 = (some (([false, false, true, false] : List Bool), at'))))).bind fun c2 => if c2 = true then
  (Rs.ok (LO.ex false))
  else (((((((catC (cutT sets none (some at')) ([dear] : List ((List Int) × Int)))).bind fun u21 => (catC u21 (cutT sets (some at') none))).bind fun u22 => (catC u22 ([bad] : List ((List Int) × Int)))).bind fun u23 => m_law_refused T way size u23).bind fun u24 => Rs.ok (!decide (u24 = (some (([false, false, false, true] : List Bool), at'))))).bind fun c1 => if c1 = true then
  (Rs.ok (LO.ex false))
  else (Rs.ok (LO.nx ())))))))) (rngL 0 5) ()) fun (_ : Unit) =>
  (Rs.ok true)))))
theorem r_law_refusals (T : Tx K mg) (numbers : (List Int)) (size : Int) (sets : (List ((List Int) × Int))) : Si ((fn_law_refusals T).f [.v ((eL eI).v numbers), .v (eI.v size), .v ((eL (eT2 (eL eI) eI)).v sets)]) (m_law_refusals T numbers size sets) eB.v := by
  rw [fnf_law_refusals]
  exact si_runX (show SS (xs_law_refusals T) [.v ((eL eI).v numbers), .v (eI.v size), .v ((eL (eT2 (eL eI) eI)).v sets), .x, .x, .x, .x, .x] (m_law_refusals T numbers size sets) (PF false eB.v) from by
    unfold xs_law_refusals m_law_refusals
    exact (ss_setI (st1 := fun bad => [.v ((eL eI).v numbers), .v (eI.v size), .v ((eL (eT2 (eL eI) eI)).v sets), .v ((eT2 (eL eI) eI).v bad), .x, .x, .x, .x]) (sv_op (sl_p (sl_ofE (sv_eE (sn_lst (sc_p (sv_tup (sc_p (sv_eE (sn_lst (sc_p (sv_var rfl) (sc_nil (si_lst (f := List.map eI.e) rfl rfl))))) (sc_p sv_int (sc_nil (si_tup (e := (eT2 (eL eI) eI).v) rfl rfl))))) (sc_p (sv_tup (sc_p (sv_eE (sn_lst (sc_p sv_int (sc_p sv_int (sc_nil (si_lst (f := List.map eI.e) rfl rfl)))))) (sc_p sv_int (sc_nil (si_tup (e := (eT2 (eL eI) eI).v) rfl rfl))))) (sc_p (sv_tup (sc_p (sv_eE (sn_lst (sc_p (sv_neg sv_int) (sc_nil (si_lst (f := List.map eI.e) rfl rfl))))) (sc_p sv_int (sc_nil (si_tup (e := (eT2 (eL eI) eI).v) rfl rfl))))) (sc_p (sv_tup (sc_p (sv_eE (sn_lst (sc_p (sv_op (sx_p (sv_var rfl) (sx_p sv_int so_sub))) (sc_p (sv_op (sx_p (sv_var rfl) (sx_p sv_int so_sub))) (sc_nil (si_lst (f := List.map eI.e) rfl rfl)))))) (sc_p sv_int (sc_nil (si_tup (e := (eT2 (eL eI) eI).v) rfl rfl))))) (sc_nil (si_lst (f := List.map (eT2 (eL eI) eI).e) rfl rfl)))))))) rfl) (sx_i (sv_op (sx_i (sv_bi (sc_i (sv_op (sl_p (sl_varv rfl) (sx_p sv_int so_ixL))) fun u => (sc_nil so_int))) fun u1 => (sx_p sv_int (so_modp (by decide))))) fun u2 => so_ixL))) (fun _ => rfl) fun bad =>
  (ss_setI (st1 := fun dear => [.v ((eL eI).v numbers), .v (eI.v size), .v ((eL (eT2 (eL eI) eI)).v sets), .v ((eT2 (eL eI) eI).v bad), .v ((eT2 (eL eI) eI).v dear), .x, .x, .x]) (sv_tup (sc_p (sv_eE (sn_lst (sc_p sv_int (sc_nil (si_lst (f := List.map eI.e) rfl rfl))))) (sc_i (sv_op (sl_p (sl_ofE (sv_eE (sn_lst (sc_p (sv_neg sv_int) (sc_p sv_int (sc_nil (si_lst (f := List.map eI.e) rfl rfl)))))) rfl) (sx_i (sv_op (sx_i (sv_bi (sc_i (sv_op (sl_p (sl_varv rfl) (sx_p sv_int so_ixL))) fun u3 => (sc_nil so_int))) fun u4 => (sx_p sv_int (so_modp (by decide))))) fun u5 => so_ixL))) fun u6 => (sc_nil (si_tup (e := (eT2 (eL eI) eI).v) rfl rfl))))) (fun _ => rfl) fun dear =>
  (ss_setI (st1 := fun at' => [.v ((eL eI).v numbers), .v (eI.v size), .v ((eL (eT2 (eL eI) eI)).v sets), .v ((eT2 (eL eI) eI).v bad), .v ((eT2 (eL eI) eI).v dear), .v (eI.v at'), .x, .x]) (sv_op (sx_i (sv_bi (sc_i (sv_op (sl_p (sl_varv rfl) (sx_p sv_int so_ixL))) fun u7 => (sc_nil so_int))) fun u8 => (sx_p (sv_op (sx_p (sv_bi (sc_lp (sl_varv rfl) (sc_nil so_len))) (sx_p sv_int so_add))) so_mod))) (fun _ => rfl) fun at' =>
  (ss_forJ (F := eI.e) (es := fun (_ : Unit) => [.v ((eL eI).v numbers), .v (eI.v size), .v ((eL (eT2 (eL eI) eI)).v sets), .v ((eT2 (eL eI) eI).v bad), .v ((eT2 (eL eI) eI).v dear), .v (eI.v at'), .x, .x]) (s0 := ()) (si_range1 (sc_p sv_int (sc_nil (so_rng1p (by decide))))) rfl (fun _ => rfl)
  (fun (way : Int) (_ : Unit) => ⟨[.v ((eL eI).v numbers), .v (eI.v size), .v ((eL (eT2 (eL eI) eI)).v sets), .v ((eT2 (eL eI) eI).v bad), .v ((eT2 (eL eI) eI).v dear), .v (eI.v at'), .v (eI.v way), .x], rfl, rfl,
  (ss_post (ss_forJI (F := eI.e) (es := fun (_ : Unit) => [.v ((eL eI).v numbers), .v (eI.v size), .v ((eL (eT2 (eL eI) eI)).v sets), .v ((eT2 (eL eI) eI).v bad), .v ((eT2 (eL eI) eI).v dear), .v (eI.v at'), .v (eI.v way), .x]) (s0 := ()) (si_list (sw_ofE (sv_eE (sn_lst (sc_p sv_int (sc_p (sv_neg sv_int) (sc_i (sv_op (sx_p sv_int (sx_i (sv_op (sx_i (sv_bi (sc_i (sv_op (sl_p (sl_varv rfl) (sx_p sv_int so_ixL))) fun u9 => (sc_nil so_int))) fun u10 => (sx_p sv_int (so_modp (by decide))))) fun u11 => so_add))) fun u12 => (sc_nil (si_lst (f := List.map eI.e) rfl rfl))))))) rfl)) rfl (fun _ => rfl)
  (fun (wrong : Int) (_ : Unit) => ⟨[.v ((eL eI).v numbers), .v (eI.v size), .v ((eL (eT2 (eL eI) eI)).v sets), .v ((eT2 (eL eI) eI).v bad), .v ((eT2 (eL eI) eI).v dear), .v (eI.v at'), .v (eI.v way), .v (eI.v wrong)], rfl, rfl,
  (ss_post (ss_iteI (st_test (sv_op (sx_i (sv_call (sc_p (sv_var rfl) (sc_p (sv_var rfl) (sc_p (sv_eE (sn_lst (sc_p (sv_var rfl) (sc_nil (si_lst (f := List.map (eT2 (eL eI) eI).e) rfl rfl))))) (sc_nil (si_fn (fnm_law_refused T) (r_law_refused T _ _ _))))))) fun u13 => (sx_p (sv_some (sv_tup (sc_p (sv_eE (sn_lst (sc_p sv_bool (sc_p sv_bool (sc_p sv_bool (sc_p sv_bool (sc_nil (si_lst (f := List.map eB.e) rfl rfl)))))))) (sc_p (sv_var rfl) (sc_nil (si_tup (e := (eT2 (eL eB) eI).v) rfl rfl)))))) (so_neD (E := (eO (eT2 (eL eB) eI))))))))
  (ss_ret sv_bool ⟨⟨rfl, rfl⟩, rfl⟩)
  (ss_nx (.inl rfl))))⟩) fun (_ : Unit) =>
  (ss_iteXI (st_test (sv_op (sx_i (sv_call (sc_p (sv_var rfl) (sc_p (sv_var rfl) (sc_p (sv_eE (sn_lst (sc_nil (si_lst (f := List.map (eT2 (eL eI) eI).e) rfl rfl)))) (sc_nil (si_fn (fnm_law_refused T) (r_law_refused T _ _ _))))))) fun u14 => (sx_p (sv_some (sv_tup (sc_p (sv_eE (sn_lst (sc_p sv_bool (sc_p sv_bool (sc_p sv_bool (sc_p sv_bool (sc_nil (si_lst (f := List.map eB.e) rfl rfl)))))))) (sc_p sv_int (sc_nil (si_tup (e := (eT2 (eL eB) eI).v) rfl rfl)))))) (so_neD (E := (eO (eT2 (eL eB) eI))))))))
  (ss_ret sv_bool ⟨⟨rfl, rfl⟩, rfl⟩)
  (ss_nxS (ss_iteXI (st_test (sv_op (sx_i (sv_call (sc_p (sv_var rfl) (sc_p (sv_var rfl) (sc_i (sv_eE (sn_op (sl_p (sl_ofE (sv_eE (sn_lst (sc_p (sv_var rfl) (sc_nil (si_lst (f := List.map (eT2 (eL eI) eI).e) rfl rfl))))) rfl) (sx_p sv_int so_rep)))) fun u15 => (sc_nil (si_fn (fnm_law_refused T) (r_law_refused T _ _ _))))))) fun u16 => (sx_p (sv_some (sv_tup (sc_p (sv_eE (sn_lst (sc_p sv_bool (sc_p sv_bool (sc_p sv_bool (sc_p sv_bool (sc_nil (si_lst (f := List.map eB.e) rfl rfl)))))))) (sc_p sv_int (sc_nil (si_tup (e := (eT2 (eL eB) eI).v) rfl rfl)))))) (so_neD (E := (eO (eT2 (eL eB) eI))))))))
  (ss_ret sv_bool ⟨⟨rfl, rfl⟩, rfl⟩)
  (ss_nxS (ss_iteXI (st_test (sv_op (sx_i (sv_call (sc_p (sv_var rfl) (sc_p (sv_var rfl) (sc_i (sv_eE (sn_op (sl_i (sl_ofE (sv_eE (sn_op (sl_i (sl_ofE (sv_eE (sn_op (sl_p (sl_ofE (sv_eE (sn_sl (sl_varv rfl) so_none (so_some (sv_var rfl)))) rfl) (sl_p (sl_ofE (sv_eE (sn_lst (sc_p (sv_tup (sc_p (sv_op (sx_p (sv_var rfl) (sx_p sv_int (so_ixT (E := (eL eI)) rfl)))) (sc_p (sv_neg sv_int) (sc_nil (si_tup (e := (eT2 (eL eI) eI).v) rfl rfl))))) (sc_nil (si_lst (f := List.map (eT2 (eL eI) eI).e) rfl rfl))))) rfl) so_cat)))) rfl) fun u17 => (sl_p (sl_ofE (sv_eE (sn_sl (sl_varv rfl) (so_some (sv_var rfl)) so_none)) rfl) so_cat)))) rfl) fun u18 => (sl_p (sl_ofE (sv_eE (sn_lst (sc_p (sv_var rfl) (sc_nil (si_lst (f := List.map (eT2 (eL eI) eI).e) rfl rfl))))) rfl) so_cat)))) fun u19 => (sc_nil (si_fn (fnm_law_refused T) (r_law_refused T _ _ _))))))) fun u20 => (sx_p (sv_some (sv_tup (sc_p (sv_eE (sn_lst (sc_p sv_bool (sc_p sv_bool (sc_p sv_bool (sc_p sv_bool (sc_nil (si_lst (f := List.map eB.e) rfl rfl)))))))) (sc_p (sv_var rfl) (sc_nil (si_tup (e := (eT2 (eL eB) eI).v) rfl rfl)))))) (so_neD (E := (eO (eT2 (eL eB) eI))))))))
  (ss_ret sv_bool ⟨⟨rfl, rfl⟩, rfl⟩)
  (ss_nxS (ss_iteI (st_test (sv_op (sx_i (sv_call (sc_p (sv_var rfl) (sc_p (sv_var rfl) (sc_i (sv_eE (sn_op (sl_i (sl_ofE (sv_eE (sn_op (sl_i (sl_ofE (sv_eE (sn_op (sl_p (sl_ofE (sv_eE (sn_sl (sl_varv rfl) so_none (so_some (sv_var rfl)))) rfl) (sl_p (sl_ofE (sv_eE (sn_lst (sc_p (sv_var rfl) (sc_nil (si_lst (f := List.map (eT2 (eL eI) eI).e) rfl rfl))))) rfl) so_cat)))) rfl) fun u21 => (sl_p (sl_ofE (sv_eE (sn_sl (sl_varv rfl) (so_some (sv_var rfl)) so_none)) rfl) so_cat)))) rfl) fun u22 => (sl_p (sl_ofE (sv_eE (sn_lst (sc_p (sv_var rfl) (sc_nil (si_lst (f := List.map (eT2 (eL eI) eI).e) rfl rfl))))) rfl) so_cat)))) fun u23 => (sc_nil (si_fn (fnm_law_refused T) (r_law_refused T _ _ _))))))) fun u24 => (sx_p (sv_some (sv_tup (sc_p (sv_eE (sn_lst (sc_p sv_bool (sc_p sv_bool (sc_p sv_bool (sc_p sv_bool (sc_nil (si_lst (f := List.map eB.e) rfl rfl)))))))) (sc_p (sv_var rfl) (sc_nil (si_tup (e := (eT2 (eL eB) eI).v) rfl rfl)))))) (so_neD (E := (eO (eT2 (eL eB) eI))))))))
  (ss_ret sv_bool ⟨rfl, rfl⟩)
  (ss_nx (.inl rfl)))))))))))⟩) fun (_ : Unit) =>
  (ss_ret sv_bool rfl))))))
noncomputable def xs_law (T : Tx K mg) : XS K := (.seq (.set 1 (.call (fn_law_numbers T) (fno_law_numbers T) (.cons false (.var 0) (.cons false (.int 90) .nil))))
    (.seq (.asg (.tup (.cons (.name 2) (.cons (.name 3) .nil))) (.call (fn_law_sets T) (fno_law_sets T) (.cons false (.var 1) (.cons false (.int 10) (.cons false (.int 8) (.cons false (.int 9) .nil))))))
    (.seq (.set 4 (.bi Bi.repr (.cons false (.var 3) .nil)))
    (.seq (.set 5 (.call (fn_cover_program T) (fno_cover_program T) (.cons false (.var 2) (.cons false (.var 3) .nil))))
    (.seq (.set 6 (XN.e (XN.lc (.range1 (.cons false (.var 2) .nil)) (.name 11) .yes (XN.e (XN.lc (.list (.var 3)) (.tup (.cons (.name 12) (.cons (.name 13) .nil))) .yes (.bi Bi.int (.cons false (.op O2.inL (.var 11) (.var 12)) .nil)) [12, 13])) [11])))
    (.seq (.ite (.or (.test (.op O2.neD (.meth T.c_Program "prices" (fn_Program_prices T) (fno_Program_prices T) (.var 5) .nil) (XN.e (XN.lc (.list (.var 3)) (.tup (.cons (.name 12) (.cons (.name 13) .nil))) .yes (.var 13) [12, 13])))) (.test (.op O2.neD (.meth T.c_Program "rows" (fn_Program_rows T) (fno_Program_rows T) (.var 5) .nil) (XN.e (XN.lc (.list (.var 6)) (.name 14) .yes (.tup (.cons false (.var 14) (.cons false (.str (PySem.Str.ofString "least")) (.cons false (.int 1) .nil)))) [14])))))
    (.ret (.bool false))
    XS.nx)
    (.seq (.set 7 (.call (fn_law_quick T) (fno_law_quick T) (.cons false (.var 2) (.cons false (.var 3) .nil))))
    (.seq (.for_ (.range1 (.cons false (.int 2) .nil)) (.name 8) (.post [8, 9] (.seq (.setT 9 (fn_quick_cover T) (.cons false (.var 2) (.cons false (.var 3) .nil)))
    (.seq (.ite (XT.lendA (.or (.test (.op O2.neD (.var 9) (.var 7))) (.test (.op O2.ne (.bi Bi.repr (.cons false (.var 3) .nil)) (.var 4)))))
    (.ret (.bool false))
    XS.nx)
    (.ite (XT.lendA (.test (.op O2.notN (.var 9) .non)))
    (.seq (.unT 9 (.appT 9 (.int 0) (.int 1)))
    (.post [9] (.appT 9 (.int 2) (.int 1))))
    XS.nx)))))
    (.seq (.set 10 (XN.e (XN.lrg2 (.int 1) (.op O2.add (.bi (Bi.bestD PySem.W.maxD) (.cons true (XN.e (XN.lc (.list (.var 3)) (.tup (.cons (.name 12) (.cons (.name 13) .nil))) .yes (.bi Bi.len (.cons true (.var 12) .nil)) [12, 13])) .nil)) (.int 1)))))
    (.seq (.ite (.or (.test (.op O2.neD (.call (fn_cover_factor T) (fno_cover_factor T) (.cons false (.var 2) (.cons false (.var 3) .nil))) (.call (fn_law_added T) (fno_law_added T) (.cons false (XN.e (XN.lc (.list (.var 10)) (.name 15) .yes (.tup (.cons false (.int 1) (.cons false (.var 15) .nil))) [15])) .nil)))) (.test (.op O2.ne (.bi Bi.repr (.cons false (.var 3) .nil)) (.var 4))))
    (.ret (.bool false))
    XS.nx)
    (.ret (.call (fn_law_refusals T) (fno_law_refusals T) (.cons false (XN.e (XN.sl (.var 1) (.some (.int 3)) (.some (.int 9)))) (.cons false (.var 2) (.cons false (.var 3) .nil)))))))))))))))
@[irreducible] noncomputable def fn_law (T : Tx K mg) : Fn := ⟨1, false, fun as => runX (xs_law T) false 15 as⟩
theorem fnf_law (T : Tx K mg) (as : List Av) : (fn_law T).f as = runX (xs_law T) false 15 as := by unfold fn_law; rfl
@[irreducible] noncomputable def m_law (T : Tx K mg) (script : (List Int)) : Rs Bool :=
  ((m_law_numbers script 90).bind fun numbers =>
  ((m_law_sets numbers 10 8 9).bind fun p =>
  (((reprC (eL (eT2 (eL eI) eI)) p.2)).bind fun kept =>
  ((m_cover_program T p.1 p.2).bind fun program =>
  (((rng1C p.1).bind fun xs_ => lcM (β := (List Int)) xs_ (fun (one : Int) => (Rs.ok true)) (fun (one : Int) => (lcM (β := Int) p.2 (fun (x : ((List Int) × Int)) => (Rs.ok true)) (fun (x : ((List Int) × Int)) => (Rs.ok (bInt (decide (one ∈ x.1)))))))).bind fun lines =>
  ((((m_Program_prices program).bind fun u2 => (lcM (β := Int) p.2 (fun (x1 : ((List Int) × Int)) => (Rs.ok true)) (fun (x1 : ((List Int) × Int)) => (Rs.ok x1.2))).bind fun u3 => Rs.ok (!decide (u2 = u3))).bind fun c => if c = true then Rs.ok true else ((m_Program_rows program).bind fun u => (lcM (β := ((List Int) × Str × Int)) lines (fun (line : (List Int)) => (Rs.ok true)) (fun (line : (List Int)) => (Rs.ok (line, (PySem.Str.ofString "least"), 1)))).bind fun u1 => (grd (shOk (eL (eT3 (eL eI) eS eI)) u u1) (Rs.ok (!decide (u = u1)))))).bind fun c4 => if c4 = true then
  (Rs.ok false)
  else ((m_law_quick p.1 p.2).bind fun due =>
  (bindJ (forJ (fun (again : Int) (_ : Unit) =>
  ((m_quick_cover T p.1 p.2).bind fun told =>
  ((if (!decide (told = due)) = true then Rs.ok true else (((reprC (eL (eT2 (eL eI) eI)) p.2)).bind fun u4 => Rs.ok (!decide (u4 = kept)))).bind fun c1 => if c1 = true then
  (Rs.ok (LO.ex false))
  else (if told.isSome = true then
  ((theO told).bind fun told1 =>
  ((qu (Rs.ok 1)).bind fun u5 => (pushC told1.1 u5).bind fun told2 =>
  ((qu (Rs.ok 1)).bind fun _ => (pushC (List.map (fun _ => ()) told1.2.2) ()).bind fun _ =>
  (Rs.ok (LO.nx ())))))
  else (Rs.ok (LO.nx ())))))) (rngL 0 2) ()) fun (_ : Unit) =>
  (((qu (((lcM (β := Int) p.2 (fun (x2 : ((List Int) × Int)) => (Rs.ok true)) (fun (x2 : ((List Int) × Int)) => (Rs.ok (lenI x2.1)))).bind fun u6 => maxT (OrdE.lt (E := eI)) u6).bind fun u7 => Rs.ok (u7 + 1))).bind fun z => lrg2C 1 z).bind fun parts =>
  ((((m_cover_factor T p.1 p.2).bind fun u10 => ((lcM (β := (Int × Int)) parts (fun (part : Int) => (Rs.ok true)) (fun (part : Int) => (Rs.ok (1, part)))).bind fun u9 => m_law_added u9).bind fun u11 => Rs.ok (!decide (u10 = u11))).bind fun c2 => if c2 = true then Rs.ok true else (((reprC (eL (eT2 (eL eI) eI)) p.2)).bind fun u8 => Rs.ok (!decide (u8 = kept)))).bind fun c3 => if c3 = true then
  (Rs.ok false)
  else (m_law_refusals T (cutT numbers (some 3) (some 9)) p.1 p.2)))))))))))
theorem r_law (T : Tx K mg) (script : (List Int)) : Si ((fn_law T).f [.v (Vl.s script)]) (m_law T script) eB.v := by
  rw [fnf_law]
  exact si_runX (show SS (xs_law T) [.v (Vl.s script), .x, .x, .x, .x, .x, .x, .x, .x, .x, .x, .x, .x, .x, .x, .x] (m_law T script) (PF false eB.v) from by
    unfold xs_law m_law
    exact (ss_setI (st1 := fun numbers => [.v (Vl.s script), .v ((eL eI).v numbers), .x, .x, .x, .x, .x, .x, .x, .x, .x, .x, .x, .x, .x, .x]) (sv_call (sc_p (sv_var rfl) (sc_p sv_int (sc_nil (si_fn (fnm_law_numbers T) (r_law_numbers T _ _)))))) (fun _ => rfl) fun numbers =>
  (ss_asgI (st1 := fun (p : (Int × (List ((List Int) × Int)))) => [.v (Vl.s script), .v ((eL eI).v numbers), .v (eI.v p.1), .v ((eL (eT2 (eL eI) eI)).v p.2), .x, .x, .x, .x, .x, .x, .x, .x, .x, .x, .x, .x]) (sv_call (sc_p (sv_var rfl) (sc_p sv_int (sc_p sv_int (sc_p sv_int (sc_nil (si_fn (fnm_law_sets T) (r_law_sets T _ _ _ _)))))))) (fun _ => rfl) (fun _ => rfl) (fun _ => rfl) fun p =>
  (ss_setI (st1 := fun kept => [.v (Vl.s script), .v ((eL eI).v numbers), .v (eI.v p.1), .v ((eL (eT2 (eL eI) eI)).v p.2), .v (eS.v kept), .x, .x, .x, .x, .x, .x, .x, .x, .x, .x, .x]) (sv_bi (sc_p (sv_var rfl) (sc_nil so_repr))) (fun _ => rfl) fun kept =>
  (ss_setI (st1 := fun program => [.v (Vl.s script), .v ((eL eI).v numbers), .v (eI.v p.1), .v ((eL (eT2 (eL eI) eI)).v p.2), .v (eS.v kept), .v ((vo_Program T) program), .x, .x, .x, .x, .x, .x, .x, .x, .x, .x]) (sv_call (sc_p (sv_var rfl) (sc_p (sv_var rfl) (sc_nil (si_fn (fnm_cover_program T) (r_cover_program T _ _)))))) (fun _ => rfl) fun program =>
  (ss_setI (st1 := fun lines => [.v (Vl.s script), .v ((eL eI).v numbers), .v (eI.v p.1), .v ((eL (eT2 (eL eI) eI)).v p.2), .v (eS.v kept), .v ((vo_Program T) program), .v ((eL (eL eI)).v lines), .x, .x, .x, .x, .x, .x, .x, .x, .x]) (sv_eE (sn_lcI (E := (eL eI)) (F := eI) (si_range1 (sc_p (sv_var rfl) (sc_nil so_rng1))) rfl rfl (fun (one : Int) => ⟨[.v (Vl.s script), .v ((eL eI).v numbers), .v (eI.v p.1), .v ((eL (eT2 (eL eI) eI)).v p.2), .v (eS.v kept), .v ((vo_Program T) program), .x, .x, .x, .x, .x, .v (eI.v one), .x, .x, .x, .x], rfl, st_yes, (sv_eE (sn_lc (E := eI) (F := (eT2 (eL eI) eI)) (si_list (sw_varv rfl)) rfl rfl (fun (x : ((List Int) × Int)) => ⟨[.v (Vl.s script), .v ((eL eI).v numbers), .v (eI.v p.1), .v ((eL (eT2 (eL eI) eI)).v p.2), .v (eS.v kept), .v ((vo_Program T) program), .x, .x, .x, .x, .x, .v (eI.v one), .v ((eL eI).v x.1), .v (eI.v x.2), .x, .x], rfl, st_yes, (sv_bi (sc_p (sv_op (sx_p (sv_var rfl) (sl_p (sl_varv rfl) so_inL))) (sc_nil so_intB)))⟩)))⟩))) (fun _ => rfl) fun lines =>
  (ss_iteXI (st_orI (st_test (sv_op (sx_i (sv_meth (sv_var rfl) (inst_of rfl) (sc_nil (si_me (fnm_Program_prices T) (r_Program_prices T program)))) fun u2 => (sx_i (sv_eE (sn_lc (E := eI) (F := (eT2 (eL eI) eI)) (si_list (sw_varv rfl)) rfl rfl (fun (x1 : ((List Int) × Int)) => ⟨[.v (Vl.s script), .v ((eL eI).v numbers), .v (eI.v p.1), .v ((eL (eT2 (eL eI) eI)).v p.2), .v (eS.v kept), .v ((vo_Program T) program), .v ((eL (eL eI)).v lines), .x, .x, .x, .x, .x, .v ((eL eI).v x1.1), .v (eI.v x1.2), .x, .x], rfl, st_yes, (sv_var rfl)⟩))) fun u3 => (so_neD (E := (eL eI))))))) (st_test (sv_op (sx_i (sv_meth (sv_var rfl) (inst_of rfl) (sc_nil (si_me (fnm_Program_rows T) (r_Program_rows T program)))) fun u => (sx_i (sv_eE (sn_lc (E := (eT3 (eL eI) eS eI)) (F := (eL eI)) (si_list (sw_varv rfl)) rfl rfl (fun (line : (List Int)) => ⟨[.v (Vl.s script), .v ((eL eI).v numbers), .v (eI.v p.1), .v ((eL (eT2 (eL eI) eI)).v p.2), .v (eS.v kept), .v ((vo_Program T) program), .v ((eL (eL eI)).v lines), .x, .x, .x, .x, .x, .x, .x, .v ((eL eI).v line), .x], rfl, st_yes, (sv_tup (sc_p (sv_var rfl) (sc_p sv_str (sc_p sv_int (sc_nil (si_tup (e := (eT3 (eL eI) eS eI).v) rfl rfl))))))⟩))) fun u1 => (so_neG (E := (eL (eT3 (eL eI) eS eI)))))))))
  (ss_ret sv_bool ⟨rfl, rfl⟩)
  (ss_nxS (ss_setI (st1 := fun due => [.v (Vl.s script), .v ((eL eI).v numbers), .v (eI.v p.1), .v ((eL (eT2 (eL eI) eI)).v p.2), .v (eS.v kept), .v ((vo_Program T) program), .v ((eL (eL eI)).v lines), .v ((eO (eT3 (eL eI) eI (eL (eO (eT2 eI eI))))).v due), .x, .x, .x, .x, .x, .x, .x, .x]) (sv_call (sc_p (sv_var rfl) (sc_p (sv_var rfl) (sc_nil (si_fn (fnm_law_quick T) (r_law_quick T _ _)))))) (fun _ => rfl) fun due =>
  (ss_forJ (F := eI.e) (es := fun (_ : Unit) => [.v (Vl.s script), .v ((eL eI).v numbers), .v (eI.v p.1), .v ((eL (eT2 (eL eI) eI)).v p.2), .v (eS.v kept), .v ((vo_Program T) program), .v ((eL (eL eI)).v lines), .v ((eO (eT3 (eL eI) eI (eL (eO (eT2 eI eI))))).v due), .x, .x, .x, .x, .x, .x, .x, .x]) (s0 := ()) (si_range1 (sc_p sv_int (sc_nil (so_rng1p (by decide))))) rfl (fun _ => rfl)
  (fun (again : Int) (_ : Unit) => ⟨[.v (Vl.s script), .v ((eL eI).v numbers), .v (eI.v p.1), .v ((eL (eT2 (eL eI) eI)).v p.2), .v (eS.v kept), .v ((vo_Program T) program), .v ((eL (eL eI)).v lines), .v ((eO (eT3 (eL eI) eI (eL (eO (eT2 eI eI))))).v due), .v (eI.v again), .x, .x, .x, .x, .x, .x, .x], rfl, rfl,
  (ss_post (ss_setT (f := (fun (t_ : ((List Int) × Int × (List (Option (Int × Int))))) => ([.l (List.map eI.e t_.1), .v (eI.e t_.2.1), .l (List.map (eO (eT2 eI eI)).e t_.2.2)] : List Cp))) (st1 := fun told => [.v (Vl.s script), .v ((eL eI).v numbers), .v (eI.v p.1), .v ((eL (eT2 (eL eI) eI)).v p.2), .v (eS.v kept), .v ((vo_Program T) program), .v ((eL (eL eI)).v lines), .v ((eO (eT3 (eL eI) eI (eL (eO (eT2 eI eI))))).v due), .v (eI.v again), .oto (Option.map (fun (t_ : ((List Int) × Int × (List (Option (Int × Int))))) => ([.l (List.map eI.e t_.1), .v (eI.e t_.2.1), .l (List.map (eO (eT2 eI eI)).e t_.2.2)] : List Cp)) told), .x, .x, .x, .x, .x, .x]) (sc_p (sv_var rfl) (sc_p (sv_var rfl) (sc_nil (si_fnT (fnm_quick_cover T) (r_quick_cover T _ _))))) (fun _ => rfl) rfl fun told =>
  (ss_iteXI (st_lendA (st1 := fun p_ => [.pin (p_ 0) (.v (Vl.s script)), .pin (p_ 1) (.v ((eL eI).v numbers)), .pin (p_ 2) (.v (eI.v p.1)), .pin (p_ 3) (.v ((eL (eT2 (eL eI) eI)).v p.2)), .pin (p_ 4) (.v (eS.v kept)), .pin (p_ 5) (.v ((vo_Program T) program)), .pin (p_ 6) (.v ((eL (eL eI)).v lines)), .pin (p_ 7) (.v ((eO (eT3 (eL eI) eI (eL (eO (eT2 eI eI))))).v due)), .pin (p_ 8) (.v (eI.v again)), .pin (p_ 9) (.v (.d (otD (Option.map (fun (t_ : ((List Int) × Int × (List (Option (Int × Int))))) => ([.l (List.map eI.e t_.1), .v (eI.e t_.2.1), .l (List.map (eO (eT2 eI eI)).e t_.2.2)] : List Cp)) told)))), .x, .x, .x, .x, .x, .x]) (fun _ => rfl) (fun p_ => (st_orP (st_test (sv_op (sx_p (sv_varPt (E := (eT3 (eL eI) eI (eL (eO (eT2 eI eI))))) (f := (fun (t_ : ((List Int) × Int × (List (Option (Int × Int))))) => ([.l (List.map eI.e t_.1), .v (eI.e t_.2.1), .l (List.map (eO (eT2 eI eI)).e t_.2.2)] : List Cp))) rfl (fun _ => rfl)) (sx_p (sv_varP rfl) (so_neD (E := (eO (eT3 (eL eI) eI (eL (eO (eT2 eI eI))))))))))) (st_test (sv_op (sx_i (sv_bi (sc_p (sv_varP rfl) (sc_nil so_repr))) fun u4 => (sx_p (sv_varP rfl) so_neS)))))))
  (ss_ret sv_bool ⟨⟨rfl, rfl⟩, rfl⟩)
  (ss_nxS (ss_ite (st_lendA (st1 := fun p_ => [.pin (p_ 0) (.v (Vl.s script)), .pin (p_ 1) (.v ((eL eI).v numbers)), .pin (p_ 2) (.v (eI.v p.1)), .pin (p_ 3) (.v ((eL (eT2 (eL eI) eI)).v p.2)), .pin (p_ 4) (.v (eS.v kept)), .pin (p_ 5) (.v ((vo_Program T) program)), .pin (p_ 6) (.v ((eL (eL eI)).v lines)), .pin (p_ 7) (.v ((eO (eT3 (eL eI) eI (eL (eO (eT2 eI eI))))).v due)), .pin (p_ 8) (.v (eI.v again)), .pin (p_ 9) (.v (.d (otD (Option.map (fun (t_ : ((List Int) × Int × (List (Option (Int × Int))))) => ([.l (List.map eI.e t_.1), .v (eI.e t_.2.1), .l (List.map (eO (eT2 eI eI)).e t_.2.2)] : List Cp)) told)))), .x, .x, .x, .x, .x, .x]) (fun _ => rfl) (fun p_ => (st_test (sv_op (sx_p (sv_varPt (E := (eT3 (eL eI) eI (eL (eO (eT2 eI eI))))) (f := (fun (t_ : ((List Int) × Int × (List (Option (Int × Int))))) => ([.l (List.map eI.e t_.1), .v (eI.e t_.2.1), .l (List.map (eO (eT2 eI eI)).e t_.2.2)] : List Cp))) rfl (fun _ => rfl)) (sx_p sv_nonU so_notN))))))
  (ss_unTS (f := (fun (t_ : ((List Int) × Int × (List (Option (Int × Int))))) => ([.l (List.map eI.e t_.1), .v (eI.e t_.2.1), .l (List.map (eO (eT2 eI eI)).e t_.2.2)] : List Cp))) (st1 := fun told1 => [.v (Vl.s script), .v ((eL eI).v numbers), .v (eI.v p.1), .v ((eL (eT2 (eL eI) eI)).v p.2), .v (eS.v kept), .v ((vo_Program T) program), .v ((eL (eL eI)).v lines), .v ((eO (eT3 (eL eI) eI (eL (eO (eT2 eI eI))))).v due), .v (eI.v again), .otc [.l (List.map eI.e told1.1), .v (eI.e told1.2.1), .l (List.map (eO (eT2 eI eI)).e told1.2.2)], .x, .x, .x, .x, .x, .x]) rfl (fun _ => rfl) fun told1 =>
  (ss_appT (k := 0) (E := eI) (st1 := fun told2 => [.v (Vl.s script), .v ((eL eI).v numbers), .v (eI.v p.1), .v ((eL (eT2 (eL eI) eI)).v p.2), .v (eS.v kept), .v ((vo_Program T) program), .v ((eL (eL eI)).v lines), .v ((eO (eT3 (eL eI) eI (eL (eO (eT2 eI eI))))).v due), .v (eI.v again), .otc [.l (List.map eI.e told2), .v (eI.e told1.2.1), .l (List.map (eO (eT2 eI eI)).e told1.2.2)], .x, .x, .x, .x, .x, .x]) rfl rfl sv_int (fun _ => rfl) fun told2 =>
  (ss_last (ss_appTd (k := 2) (E := (eO (eT2 eI eI))) (E2 := eI) rfl rfl sv_int rfl fun _ =>
  (ss_nx (.inl rfl))))))
  (ss_nx (.inl rfl)))))))⟩) fun (_ : Unit) =>
  (ss_setI (st1 := fun parts => [.v (Vl.s script), .v ((eL eI).v numbers), .v (eI.v p.1), .v ((eL (eT2 (eL eI) eI)).v p.2), .v (eS.v kept), .v ((vo_Program T) program), .v ((eL (eL eI)).v lines), .v ((eO (eT3 (eL eI) eI (eL (eO (eT2 eI eI))))).v due), .x, .x, .v ((eL eI).v parts), .x, .x, .x, .x, .x]) (sv_eE (sn_lrg2E sv_int (sv_op (sx_i (sv_bi (sc_li (sl_ofE (sv_eE (sn_lc (E := eI) (F := (eT2 (eL eI) eI)) (si_list (sw_varv rfl)) rfl rfl (fun (x2 : ((List Int) × Int)) => ⟨[.v (Vl.s script), .v ((eL eI).v numbers), .v (eI.v p.1), .v ((eL (eT2 (eL eI) eI)).v p.2), .v (eS.v kept), .v ((vo_Program T) program), .v ((eL (eL eI)).v lines), .v ((eO (eT3 (eL eI) eI (eL (eO (eT2 eI eI))))).v due), .x, .x, .x, .x, .v ((eL eI).v x2.1), .v (eI.v x2.2), .x, .x], rfl, st_yes, (sv_bi (sc_lp (sl_varv rfl) (sc_nil so_len)))⟩))) rfl) fun u6 => (sc_nil (so_maxD (E := eI))))) fun u7 => (sx_p sv_int so_add))) rfl)) (fun _ => rfl) fun parts =>
  (ss_iteXI (st_orI (st_test (sv_op (sx_i (sv_call (sc_p (sv_var rfl) (sc_p (sv_var rfl) (sc_nil (si_fn (fnm_cover_factor T) (r_cover_factor T _ _)))))) fun u10 => (sx_i (sv_call (sc_i (sv_eE (sn_lc (E := (eT2 eI eI)) (F := eI) (si_list (sw_varv rfl)) rfl rfl (fun (part : Int) => ⟨[.v (Vl.s script), .v ((eL eI).v numbers), .v (eI.v p.1), .v ((eL (eT2 (eL eI) eI)).v p.2), .v (eS.v kept), .v ((vo_Program T) program), .v ((eL (eL eI)).v lines), .v ((eO (eT3 (eL eI) eI (eL (eO (eT2 eI eI))))).v due), .x, .x, .v ((eL eI).v parts), .x, .x, .x, .x, .v (eI.v part)], rfl, st_yes, (sv_tup (sc_p sv_int (sc_p (sv_var rfl) (sc_nil (si_tup (e := (eT2 eI eI).v) rfl rfl)))))⟩))) fun u9 => (sc_nil (si_fn (fnm_law_added T) (r_law_added T _))))) fun u11 => (so_neD (E := (eT2 eI eI))))))) (st_test (sv_op (sx_i (sv_bi (sc_p (sv_var rfl) (sc_nil so_repr))) fun u8 => (sx_p (sv_var rfl) so_neS)))))
  (ss_ret sv_bool ⟨rfl, rfl⟩)
  (ss_nxS (ss_retM (sv_call (sc_p (sv_eE (sn_sl (sl_varv rfl) (so_some sv_int) (so_some sv_int))) (sc_p (sv_var rfl) (sc_p (sv_var rfl) (sc_nil (si_fn (fnm_law_refusals T) (r_law_refusals T _ _ _))))))) fun _ => rfl))))))))))))))
end
end Q

set_option Elab.async false
set_option linter.all false
set_option maxRecDepth 100000
set_option maxHeartbeats 4000000
set_option synthInstance.maxSize 1000
set_option synthInstance.maxHeartbeats 400000
namespace Q
open PySem PySem.Spec PyProof.Rows L2 Z R
section
variable {P : Program} {w : World} {K : PySem.W.Frag} {mg : Str → Option Value} {base : Heap}
theorem ok_WebError___init__ (T : Tx K mg) : FnOk P w K mg base (L2.CX P w) 1 T.f_WebError___init__ T.fd_WebError___init__ ["self", "at"] (spAt K) := by
  refine T.F_WebError___init__.okX sc_WebError___init__ (fun vs H Q E ⟨a, C, n, e, _⟩ => by rw [e]; rfl) (fun cdv A outer s H vs Q E hr h => ⟨_, (pss_one (ps_ost (pv 0) (pv 1))), pure_at vs H Q E h⟩)
theorem ok_is_ascending (T : Tx K mg) : FnOk P w K mg base (L2.CX P w) 1 T.f_is_ascending T.fd_is_ascending ["numbers", "many"] ((fn_is_ascending T).sp K) := by
  refine T.F_is_ascending.okX sc_is_ascending (SpA.len fun x => by rw [List.length_map]; exact x.2.trans (fnm_is_ascending T)) (fun cdv A outer s H vs Q E hr h => ⟨_, (pss_cons (ps_set (i := 2) sc_is_ascending.nd rfl (by first | exact Or.inl rfl | exact Or.inr rfl) (pe_un un_neg pe_int))
      (pss_cons (ps_for (passes_of rfl) rfl (kpi_list K (pv 0)) (pg_name (i := 3) sc_is_ascending.nd rfl (by first | exact Or.inl rfl | exact Or.inr rfl))
        (pss_cons (ps_if (pt_not (pt_chain op_lt op_lt (pv 2) (pv 3) (pv 1)))
        (pss_one (ps_ret pe_bl))
        pss_nil)
      (pss_one (ps_set (i := 2) sc_is_ascending.nd rfl (by first | exact Or.inl rfl | exact Or.inr rfl) (pv 3)))))
      (pss_one (ps_ret pe_bl)))), ?_⟩)
  exact Fn.run (xs_is_ascending T) N_is_ascending h (fun as_ _ _ => by rw [fnm_is_ascending, fno_is_ascending]; exact (fnf_is_ascending T as_).symm)
theorem ok_is_price (T : Tx K mg) : FnOk P w K mg base (L2.CX P w) 1 T.f_is_price T.fd_is_price ["price"] ((fn_is_price T).sp K) := by
  refine T.F_is_price.okX sc_is_price (SpA.len fun x => by rw [List.length_map]; exact x.2.trans (fnm_is_price T)) (fun cdv A outer s H vs Q E hr h => ⟨_, (pss_one (ps_ret (pe_chain op_le op_le pe_int (pv 0) (pe_glob (v := .int 1048576) (by rfl) T.k_MOST_PRICE ⟨_, rfl⟩)))), ?_⟩)
  exact Fn.run (xs_is_price T) N_is_price h (fun as_ _ _ => by rw [fnm_is_price, fno_is_price]; exact (fnf_is_price T as_).symm)
theorem ok_fraction (T : Tx K mg) : FnOk P w K mg base (L2.CX P w) 3 T.f_fraction T.fd_fraction ["numerator", "denominator"] ((fn_fraction T).sp K) := by
  refine T.F_fraction.okX sc_fraction (SpA.len fun x => by rw [List.length_map]; exact x.2.trans (fnm_fraction T)) (fun cdv A outer s H vs Q E hr h => ⟨_, (pss_cons (ps_if (pt_cmpR op_eq (pv 1) pe_int (nomark _))
        (pss_one (ps_raise rfl (takes_of rfl rfl rfl rfl) (pmk_oex T.x_ZeroDivisor.1 T.x_ZeroDivisor.2.2.1 T.x_ZeroDivisor.2.2.2.1 (ok_WebError___init__ T) (hr.mono (by decide)) T.b_WebError___init__ .nil pass_no (by rfl) T.x_ZeroDivisor.2.2.2.2 (pa_cons (pv 0) pa_nil))))
        pss_nil)
      (pss_cons (ps_set (i := 2) sc_fraction.nd rfl (by first | exact Or.inl rfl | exact Or.inr rfl) (pe_callBfun cr_gcd (by rfl) T.z_gcd (pa_cons (pv 0) (pa_cons (pv 1) pa_nil))))
      (pss_cons (ps_if (pt_cmpR op_lt (pv 1) pe_int (nomark _))
        (pss_one (ps_set (i := 2) sc_fraction.nd rfl (by first | exact Or.inl rfl | exact Or.inr rfl) (pe_un un_neg (pv 2))))
        pss_nil)
      (pss_one (ps_ret (pe_tup (pa_cons (pe_op op_fdivW (pv 0) (pv 2)) (pa_cons (pe_op op_fdivW (pv 1) (pv 2)) pa_nil)))))))), ?_⟩)
  exact Fn.run (xs_fraction T) N_fraction h (fun as_ _ _ => by rw [fnm_fraction, fno_fraction]; exact (fnf_fraction T as_).symm)
theorem ok_times (T : Tx K mg) : FnOk P w K mg base (L2.CX P w) 4 T.f_times T.fd_times ["first", "second"] ((fn_times T).sp K) := by
  refine T.F_times.okX sc_times (SpA.len fun x => by rw [List.length_map]; exact x.2.trans (fnm_times T)) (fun cdv A outer s H vs Q E hr h => ⟨_, (pss_one (ps_ret (pe_call (ok_fraction T) (hr.mono (by decide)) (by rfl) T.g_fraction T.F_fraction.kp T.b_fraction .nil (passes_call (takes_of rfl rfl rfl rfl) fun _ _ _ _ z => z) (pa_cons (pe_op op_mulU (pe_ix (kix_tup K) (pv 0) pe_int (fun _ _ => rfl)) (pe_ix (kix_tup K) (pv 1) pe_int (fun _ _ => rfl))) (pa_cons (pe_op op_mulU (pe_ix (kix_tup K) (pv 0) pe_int (fun _ _ => rfl)) (pe_ix (kix_tup K) (pv 1) pe_int (fun _ _ => rfl))) pa_nil))))), ?_⟩)
  exact Fn.run (xs_times T) N_times h (fun as_ _ _ => by rw [fnm_times, fno_times]; exact (fnf_times T as_).symm)
theorem ok_over (T : Tx K mg) : FnOk P w K mg base (L2.CX P w) 4 T.f_over T.fd_over ["first", "second"] ((fn_over T).sp K) := by
  refine T.F_over.okX sc_over (SpA.len fun x => by rw [List.length_map]; exact x.2.trans (fnm_over T)) (fun cdv A outer s H vs Q E hr h => ⟨_, (pss_one (ps_ret (pe_call (ok_fraction T) (hr.mono (by decide)) (by rfl) T.g_fraction T.F_fraction.kp T.b_fraction .nil (passes_call (takes_of rfl rfl rfl rfl) fun _ _ _ _ z => z) (pa_cons (pe_op op_mulU (pe_ix (kix_tup K) (pv 0) pe_int (fun _ _ => rfl)) (pe_ix (kix_tup K) (pv 1) pe_int (fun _ _ => rfl))) (pa_cons (pe_op op_mulU (pe_ix (kix_tup K) (pv 0) pe_int (fun _ _ => rfl)) (pe_ix (kix_tup K) (pv 1) pe_int (fun _ _ => rfl))) pa_nil))))), ?_⟩)
  exact Fn.run (xs_over T) N_over h (fun as_ _ _ => by rw [fnm_over, fno_over]; exact (fnf_over T as_).symm)
theorem ok_is_less (T : Tx K mg) : FnOk P w K mg base (L2.CX P w) 1 T.f_is_less T.fd_is_less ["first", "second"] ((fn_is_less T).sp K) := by
  refine T.F_is_less.okX sc_is_less (SpA.len fun x => by rw [List.length_map]; exact x.2.trans (fnm_is_less T)) (fun cdv A outer s H vs Q E hr h => ⟨_, (pss_one (ps_ret (pe_cmpR op_lt (pe_op op_mulU (pe_ix (kix_tup K) (pv 0) pe_int (fun _ _ => rfl)) (pe_ix (kix_tup K) (pv 1) pe_int (fun _ _ => rfl))) (pe_op op_mulU (pe_ix (kix_tup K) (pv 1) pe_int (fun _ _ => rfl)) (pe_ix (kix_tup K) (pv 0) pe_int (fun _ _ => rfl))) (nomark _)))), ?_⟩)
  exact Fn.run (xs_is_less T) N_is_less h (fun as_ _ _ => by rw [fnm_is_less, fno_is_less]; exact (fnf_is_less T as_).symm)
theorem ok_scaled (T : Tx K mg) : FnOk P w K mg base (L2.CX P w) 1 T.f_scaled T.fd_scaled ["fractions"] ((fn_scaled T).sp K) := by
  refine T.F_scaled.okX sc_scaled (SpA.len fun x => by rw [List.length_map]; exact x.2.trans (fnm_scaled T)) (fun cdv A outer s H vs Q E hr h => ⟨_, (pss_cons (ps_set (i := 1) sc_scaled.nd rfl (by first | exact Or.inl rfl | exact Or.inr rfl) pe_int)
      (pss_cons (ps_for (passes_of rfl) rfl (kpi_list K (pv 0)) (pg_name (i := 2) sc_scaled.nd rfl (by first | exact Or.inl rfl | exact Or.inr rfl))
        (pss_one (ps_set (i := 1) sc_scaled.nd rfl (by first | exact Or.inl rfl | exact Or.inr rfl) (pe_callBfun cr_lcm (by rfl) T.z_lcm (pa_cons (pv 1) (pa_cons (pe_ix (kix_tup K) (pv 2) pe_int (fun _ _ => rfl)) pa_nil))))))
      (pss_one (ps_ret (pe_tup (pa_cons (pe_lc (own := [("pair", 2)]) (g := (gName 2)) rfl sc_scaled.nd (kpi_list K (pv 0)) (blkOk_by (N := N_scaled) (sc := defScope s_scaled) (by decide +kernel)) (fun _ _ _ _ _ => (pg_name (i := 2) sc_scaled.nd rfl (by first | exact Or.inl rfl | exact Or.inr rfl))) (fun _ _ _ _ _ => pts_nil) (fun _ _ _ _ _ => (pe_op op_mulU (pe_ix (kix_tup K) (pv 2) pe_int (fun _ _ => rfl)) (pe_op op_fdivW (pv 1) (pe_ix (kix_tup K) (pv 2) pe_int (fun _ _ => rfl)))))) (pa_cons (pv 1) pa_nil))))))), ?_⟩)
  exact Fn.run (xs_scaled T) N_scaled h (fun as_ _ _ => by rw [fnm_scaled, fno_scaled]; exact (fnf_scaled T as_).symm)
theorem ok_added (T : Tx K mg) : FnOk P w K mg base (L2.CX P w) 4 T.f_added T.fd_added ["fractions"] ((fn_added T).sp K) := by
  refine T.F_added.okX sc_added (SpA.len fun x => by rw [List.length_map]; exact x.2.trans (fnm_added T)) (fun cdv A outer s H vs Q E hr h => ⟨_, (pss_cons (ps_asg (pe_call (ok_scaled T) (hr.mono (by decide)) (by rfl) T.g_scaled T.F_scaled.kp T.b_scaled .nil (passes_call (takes_of rfl rfl rfl rfl) fun _ _ _ _ z => z) (pa_cons (pv 0) pa_nil)) (kpg_tup K (n := 2) rfl (pgs_cons (pg_name (i := 1) sc_added.nd rfl (by first | exact Or.inl rfl | exact Or.inr rfl)) (pgs_cons (pg_name (i := 2) sc_added.nd rfl (by first | exact Or.inl rfl | exact Or.inr rfl)) pgs_nil))))
      (pss_one (ps_ret (pe_call (ok_fraction T) (hr.mono (by decide)) (by rfl) T.g_fraction T.F_fraction.kp T.b_fraction .nil (passes_call (takes_of rfl rfl rfl rfl) fun _ _ _ _ z => z) (pa_cons (pe_callB (kcall_sum K rfl) (by rfl) T.z_sum (by decide +kernel) (pa_cons (pv 1) pa_nil)) (pa_cons (pv 2) pa_nil)))))), ?_⟩)
  exact Fn.run (xs_added T) N_added h (fun as_ _ _ => by rw [fnm_added, fno_added]; exact (fnf_added T as_).symm)
theorem ok_Program___init__ (T : Tx K mg) : FnOk P w K mg base (L2.CX P w) 3 T.f_Program___init__ T.fd_Program___init__ ["self", "prices", "rows"] ((fn_Program___init__ T).sp K T.c_Program) := by
  refine T.F_Program___init__.okX sc_Program___init__ (SpI.len fun x => by rw [List.length_map]; exact x.2.trans (fnm_Program___init__ T)) (fun cdv A outer s H vs Q E hr h => ⟨_, (pss_cons (ps_if (pt_not (pt_chain op_le op_le pe_int (pe_callB (kcall_len K) (by rfl) T.z_len PySem.boot_len (pa_cons (pv 1) pa_nil)) (pe_glob (v := .int 40) (by rfl) T.k_MOST_VARIABLES ⟨_, rfl⟩)))
        (pss_one (ps_raise rfl (takes_of rfl rfl rfl rfl) (pmk_oex T.x_OutOfRange.1 T.x_OutOfRange.2.2.1 T.x_OutOfRange.2.2.2.1 (ok_WebError___init__ T) (hr.mono (by decide)) T.b_WebError___init__ .nil pass_no (by rfl) T.x_OutOfRange.2.2.2.2 (pa_cons (pe_callB (kcall_len K) (by rfl) T.z_len PySem.boot_len (pa_cons (pv 1) pa_nil)) pa_nil))))
        pss_nil)
      (pss_cons (ps_if (pt_cmpR op_gt (pe_callB (kcall_len K) (by rfl) T.z_len PySem.boot_len (pa_cons (pv 2) pa_nil)) (pe_glob (v := .int 80) (by rfl) T.k_MOST_ROWS ⟨_, rfl⟩) (nomark _))
        (pss_one (ps_raise rfl (takes_of rfl rfl rfl rfl) (pmk_oex T.x_TooMany.1 T.x_TooMany.2.2.1 T.x_TooMany.2.2.2.1 (ok_WebError___init__ T) (hr.mono (by decide)) T.b_WebError___init__ .nil pass_no (by rfl) T.x_TooMany.2.2.2.2 (pa_cons (pe_callB (kcall_len K) (by rfl) T.z_len PySem.boot_len (pa_cons (pv 2) pa_nil)) pa_nil))))
        pss_nil)
      (pss_cons (ps_for (passes_of rfl) rfl (kpi_enum K (by rfl) T.z_enumerate (pa_cons (pv 2) pa_nil)) (kpg_tup K (n := 2) rfl (pgs_cons (pg_name (i := 3) sc_Program___init__.nd rfl (by first | exact Or.inl rfl | exact Or.inr rfl)) (pgs_cons (kpg_tup K (n := 3) rfl (pgs_cons (pg_name (i := 4) sc_Program___init__.nd rfl (by first | exact Or.inl rfl | exact Or.inr rfl)) (pgs_cons (pg_name (i := 5) sc_Program___init__.nd rfl (by first | exact Or.inl rfl | exact Or.inr rfl)) (pgs_cons (pg_name (i := 6) sc_Program___init__.nd rfl (by first | exact Or.inl rfl | exact Or.inr rfl)) pgs_nil)))) pgs_nil)))
        (pss_cons (ps_if (pt_cmpR op_ne (pe_callB (kcall_len K) (by rfl) T.z_len PySem.boot_len (pa_cons (pv 4) pa_nil)) (pe_callB (kcall_len K) (by rfl) T.z_len PySem.boot_len (pa_cons (pv 1) pa_nil)) (nomark _))
        (pss_one (ps_raise rfl (takes_of rfl rfl rfl rfl) (pmk_oex T.x_WrongSize.1 T.x_WrongSize.2.2.1 T.x_WrongSize.2.2.2.1 (ok_WebError___init__ T) (hr.mono (by decide)) T.b_WebError___init__ .nil pass_no (by rfl) T.x_WrongSize.2.2.2.2 (pa_cons (pv 3) pa_nil))))
        pss_nil)
      (pss_one (ps_if (pt_cmpR (kop_notIn K) (pv 5) (pe_glob (v := .ref T.c_RELATIONS) (by rfl) T.k_RELATIONS rfl) rfl)
        (pss_one (ps_raise rfl (takes_of rfl rfl rfl rfl) (pmk_oex T.x_BadRelation.1 T.x_BadRelation.2.2.1 T.x_BadRelation.2.2.2.1 (ok_WebError___init__ T) (hr.mono (by decide)) T.b_WebError___init__ .nil pass_no (by rfl) T.x_BadRelation.2.2.2.2 (pa_cons (pv 3) pa_nil))))
        pss_nil))))
      (pss_cons (kps_fld K (pv 0) (pe_callTy (kcall_list K) (by rfl) T.z_list (by decide +kernel) (pa_cons (pv 1) pa_nil)) rfl)
      (pss_one (kps_fld K (pv 0) (pe_lc (own := [("numbers", 4), ("relation", 5), ("bound", 7)]) (g := (gTup K 3 (gCons (gName 4) (gCons (gName 5) (gCons (gName 7) gNil))))) rfl sc_Program___init__.nd (kpi_list K (pv 2)) (blkOk_by (N := N_Program___init__) (sc := defScope s_Program___init__) (by decide +kernel)) (fun _ _ _ _ _ => (kpg_tup K (n := 3) rfl (pgs_cons (pg_name (i := 4) sc_Program___init__.nd rfl (by first | exact Or.inl rfl | exact Or.inr rfl)) (pgs_cons (pg_name (i := 5) sc_Program___init__.nd rfl (by first | exact Or.inl rfl | exact Or.inr rfl)) (pgs_cons (pg_name (i := 7) sc_Program___init__.nd rfl (by first | exact Or.inl rfl | exact Or.inr rfl)) pgs_nil))))) (fun _ _ _ _ _ => pts_nil) (fun _ _ _ _ _ => (pe_tup (pa_cons (pe_callTy (kcall_list K) (by rfl) T.z_list (by decide +kernel) (pa_cons (pv 4) pa_nil)) (pa_cons (pv 5) (pa_cons (pv 7) pa_nil)))))) rfl)))))), ?_⟩)
  exact FnI.run (xs_Program___init__ T) N_Program___init__ h (fun xs _ hn a => by rw [fnm_Program___init__]; exact run_Program___init__ T xs hn a)
theorem ok_Program_prices (T : Tx K mg) : FnOk P w K mg base (L2.CX P w) 1 T.f_Program_prices T.fd_Program_prices ["self"] ((fn_Program_prices T).sp K) := by
  refine T.F_Program_prices.okX sc_Program_prices (SpA.len fun x => by rw [List.length_map]; exact x.2.trans (fnm_Program_prices T)) (fun cdv A outer s H vs Q E hr h => ⟨_, (pss_one (ps_ret (pe_callTy (kcall_list K) (by rfl) T.z_list (by decide +kernel) (pa_cons (kpe_fld K (pv 0) rfl) pa_nil)))), ?_⟩)
  exact Fn.run (xs_Program_prices T) N_Program_prices h (fun as_ _ _ => by rw [fnm_Program_prices, fno_Program_prices]; exact (fnf_Program_prices T as_).symm)
theorem ok_Program_rows (T : Tx K mg) : FnOk P w K mg base (L2.CX P w) 1 T.f_Program_rows T.fd_Program_rows ["self"] ((fn_Program_rows T).sp K) := by
  refine T.F_Program_rows.okX sc_Program_rows (SpA.len fun x => by rw [List.length_map]; exact x.2.trans (fnm_Program_rows T)) (fun cdv A outer s H vs Q E hr h => ⟨_, (pss_one (ps_ret (pe_lc (own := [("numbers", 1), ("relation", 2), ("bound", 3)]) (g := (gTup K 3 (gCons (gName 1) (gCons (gName 2) (gCons (gName 3) gNil))))) rfl sc_Program_rows.nd (kpi_list K (kpe_fld K (pv 0) rfl)) (blkOk_by (N := N_Program_rows) (sc := defScope s_Program_rows) (by decide +kernel)) (fun _ _ _ _ _ => (kpg_tup K (n := 3) rfl (pgs_cons (pg_name (i := 1) sc_Program_rows.nd rfl (by first | exact Or.inl rfl | exact Or.inr rfl)) (pgs_cons (pg_name (i := 2) sc_Program_rows.nd rfl (by first | exact Or.inl rfl | exact Or.inr rfl)) (pgs_cons (pg_name (i := 3) sc_Program_rows.nd rfl (by first | exact Or.inl rfl | exact Or.inr rfl)) pgs_nil))))) (fun _ _ _ _ _ => pts_nil) (fun _ _ _ _ _ => (pe_tup (pa_cons (pe_callTy (kcall_list K) (by rfl) T.z_list (by decide +kernel) (pa_cons (pv 1) pa_nil)) (pa_cons (pv 2) (pa_cons (pv 3) pa_nil)))))))), ?_⟩)
  exact Fn.run (xs_Program_rows T) N_Program_rows h (fun as_ _ _ => by rw [fnm_Program_rows, fno_Program_rows]; exact (fnf_Program_rows T as_).symm)
theorem ok_need_sets (T : Tx K mg) : FnOk P w K mg base (L2.CX P w) 3 T.f_need_sets T.fd_need_sets ["size", "sets"] ((fn_need_sets T).sp K) := by
  refine T.F_need_sets.okX sc_need_sets (SpA.len fun x => by rw [List.length_map]; exact x.2.trans (fnm_need_sets T)) (fun cdv A outer s H vs Q E hr h => ⟨_, (pss_cons (ps_if (pt_not (pt_chain op_le op_le pe_int (pv 0) (pe_glob (v := .int 40) (by rfl) T.k_MOST_ELEMENTS ⟨_, rfl⟩)))
        (pss_one (ps_raise rfl (takes_of rfl rfl rfl rfl) (pmk_oex T.x_OutOfRange.1 T.x_OutOfRange.2.2.1 T.x_OutOfRange.2.2.2.1 (ok_WebError___init__ T) (hr.mono (by decide)) T.b_WebError___init__ .nil pass_no (by rfl) T.x_OutOfRange.2.2.2.2 (pa_cons (pv 0) pa_nil))))
        pss_nil)
      (pss_cons (ps_if (pt_not (pt_chain op_le op_le pe_int (pe_callB (kcall_len K) (by rfl) T.z_len PySem.boot_len (pa_cons (pv 1) pa_nil)) (pe_glob (v := .int 40) (by rfl) T.k_MOST_SETS ⟨_, rfl⟩)))
        (pss_one (ps_raise rfl (takes_of rfl rfl rfl rfl) (pmk_oex T.x_TooMany.1 T.x_TooMany.2.2.1 T.x_TooMany.2.2.2.1 (ok_WebError___init__ T) (hr.mono (by decide)) T.b_WebError___init__ .nil pass_no (by rfl) T.x_TooMany.2.2.2.2 (pa_cons (pe_callB (kcall_len K) (by rfl) T.z_len PySem.boot_len (pa_cons (pv 1) pa_nil)) pa_nil))))
        pss_nil)
      (pss_one (ps_for (passes_of rfl) rfl (kpi_enum K (by rfl) T.z_enumerate (pa_cons (pv 1) pa_nil)) (kpg_tup K (n := 2) rfl (pgs_cons (pg_name (i := 2) sc_need_sets.nd rfl (by first | exact Or.inl rfl | exact Or.inr rfl)) (pgs_cons (kpg_tup K (n := 2) rfl (pgs_cons (pg_name (i := 3) sc_need_sets.nd rfl (by first | exact Or.inl rfl | exact Or.inr rfl)) (pgs_cons (pg_name (i := 4) sc_need_sets.nd rfl (by first | exact Or.inl rfl | exact Or.inr rfl)) pgs_nil))) pgs_nil)))
        (pss_cons (ps_if (pt_not (pt_val (pe_call (ok_is_ascending T) (hr.mono (by decide)) (by rfl) T.g_is_ascending T.F_is_ascending.kp T.b_is_ascending .nil (passes_call (takes_of rfl rfl rfl rfl) fun _ _ _ _ z => z) (pa_cons (pv 3) (pa_cons (pv 0) pa_nil)))))
        (pss_one (ps_raise rfl (takes_of rfl rfl rfl rfl) (pmk_oex T.x_BadSet.1 T.x_BadSet.2.2.1 T.x_BadSet.2.2.2.1 (ok_WebError___init__ T) (hr.mono (by decide)) T.b_WebError___init__ .nil pass_no (by rfl) T.x_BadSet.2.2.2.2 (pa_cons (pv 2) pa_nil))))
        pss_nil)
      (pss_one (ps_if (pt_not (pt_val (pe_call (ok_is_price T) (hr.mono (by decide)) (by rfl) T.g_is_price T.F_is_price.kp T.b_is_price .nil (passes_call (takes_of rfl rfl rfl rfl) fun _ _ _ _ z => z) (pa_cons (pv 4) pa_nil))))
        (pss_one (ps_raise rfl (takes_of rfl rfl rfl rfl) (pmk_oex T.x_BadPrice.1 T.x_BadPrice.2.2.1 T.x_BadPrice.2.2.2.1 (ok_WebError___init__ T) (hr.mono (by decide)) T.b_WebError___init__ .nil pass_no (by rfl) T.x_BadPrice.2.2.2.2 (pa_cons (pv 2) pa_nil))))
        pss_nil))))))), ?_⟩)
  exact Fn.run (xs_need_sets T) N_need_sets h (fun as_ _ _ => by rw [fnm_need_sets, fno_need_sets]; exact (fnf_need_sets T as_).symm)
theorem ok_cover_program (T : Tx K mg) : FnOk P w K mg base (L2.CX P w) 5 T.f_cover_program T.fd_cover_program ["size", "sets"] ((fn_cover_program T).sp K) := by
  refine T.F_cover_program.okX sc_cover_program (SpA.len fun x => by rw [List.length_map]; exact x.2.trans (fnm_cover_program T)) (fun cdv A outer s H vs Q E hr h => ⟨_, (pss_cons (ps_expr (pe_call (ok_need_sets T) (hr.mono (by decide)) (by rfl) T.g_need_sets T.F_need_sets.kp T.b_need_sets .nil (passes_call (takes_of rfl rfl rfl rfl) fun _ _ _ _ z => z) (pa_cons (pv 0) (pa_cons (pv 1) pa_nil))))
      (pss_cons (ps_set (i := 2) sc_cover_program.nd rfl (by first | exact Or.inl rfl | exact Or.inr rfl) (pe_lst pa_nil))
      (pss_cons (ps_for (passes_of rfl) rfl (pi_range1 (by rfl) T.z_range (pa_cons (pv 0) pa_nil)) (pg_name (i := 3) sc_cover_program.nd rfl (by first | exact Or.inl rfl | exact Or.inr rfl))
        (pss_one (ps_expr (pe_bm PySem.F.plainAttrs_list PySem.F.slot_list_append PySem.F.type_list_append mt_append (pv 2) (pa_cons (pe_tup (pa_cons (pe_lc (own := [("members", 6), ("_", 4)]) (g := (gTup K 2 (gCons (gName 6) (gCons (gName 4) gNil)))) rfl sc_cover_program.nd (kpi_list K (pv 1)) (blkOk_by (N := N_cover_program) (sc := defScope s_cover_program) (by decide +kernel)) (fun _ _ _ _ _ => (kpg_tup K (n := 2) rfl (pgs_cons (pg_name (i := 6) sc_cover_program.nd rfl (by first | exact Or.inl rfl | exact Or.inr rfl)) (pgs_cons (pg_name (i := 4) sc_cover_program.nd rfl (by first | exact Or.inl rfl | exact Or.inr rfl)) pgs_nil)))) (fun _ _ _ _ _ => pts_nil) (fun _ _ _ _ _ => (pe_ifExp (pt_cmpR (kop_in K) (pv 3) (pv 6) rfl) pe_int pe_int))) (pa_cons pe_str (pa_cons pe_int pa_nil)))) pa_nil)))))
      (pss_one (ps_ret (pe_make T.mk_Program (ok_Program___init__ T) (hr.mono (by decide)) (by rfl) T.g_Program T.b_Program___init__ .nil (passes_call (takes_of rfl rfl rfl rfl) fun _ _ _ _ z => z) (pa_cons (pe_lc (own := [("_", 4), ("price", 5)]) (g := (gTup K 2 (gCons (gName 4) (gCons (gName 5) gNil)))) rfl sc_cover_program.nd (kpi_list K (pv 1)) (blkOk_by (N := N_cover_program) (sc := defScope s_cover_program) (by decide +kernel)) (fun _ _ _ _ _ => (kpg_tup K (n := 2) rfl (pgs_cons (pg_name (i := 4) sc_cover_program.nd rfl (by first | exact Or.inl rfl | exact Or.inr rfl)) (pgs_cons (pg_name (i := 5) sc_cover_program.nd rfl (by first | exact Or.inl rfl | exact Or.inr rfl)) pgs_nil)))) (fun _ _ _ _ _ => pts_nil) (fun _ _ _ _ _ => (pv 5))) (pa_cons (pv 2) pa_nil)))))))), ?_⟩)
  exact Fn.run (xs_cover_program T) N_cover_program h (fun as_ _ _ => by rw [fnm_cover_program, fno_cover_program]; exact (fnf_cover_program T as_).symm)
theorem ok_cheapest_set (T : Tx K mg) : FnOk P w K mg base (L2.CX P w) 4 T.f_cheapest_set T.fd_cheapest_set ["sets", "covered"] ((fn_cheapest_set T).sp K) := by
  refine T.F_cheapest_set.okX sc_cheapest_set (SpA.len fun x => by rw [List.length_map]; exact x.2.trans (fnm_cheapest_set T)) (fun cdv A outer s H vs Q E hr h => ⟨_, (pss_cons (ps_set (i := 2) sc_cheapest_set.nd rfl (by first | exact Or.inl rfl | exact Or.inr rfl) pe_non)
      (pss_cons (ps_for (passes_of rfl) rfl (kpi_enum K (by rfl) T.z_enumerate (pa_cons (pv 0) pa_nil)) (kpg_tup K (n := 2) rfl (pgs_cons (pg_name (i := 3) sc_cheapest_set.nd rfl (by first | exact Or.inl rfl | exact Or.inr rfl)) (pgs_cons (kpg_tup K (n := 2) rfl (pgs_cons (pg_name (i := 4) sc_cheapest_set.nd rfl (by first | exact Or.inl rfl | exact Or.inr rfl)) (pgs_cons (pg_name (i := 5) sc_cheapest_set.nd rfl (by first | exact Or.inl rfl | exact Or.inr rfl)) pgs_nil))) pgs_nil)))
        (pss_cons (ps_setLc (i := 6) (own := [("member", 8)]) (g := (gName 8)) rfl sc_cheapest_set.nd rfl rfl (sw_true rfl rfl rfl (by decide +kernel)) (kpi_list K (pv 4)) (blkOk_by (N := N_cheapest_set) (sc := defScope s_cheapest_set) (by decide +kernel)) (fun _ _ _ _ _ => (pg_name (i := 8) sc_cheapest_set.nd rfl (by first | exact Or.inl rfl | exact Or.inr rfl))) (fun _ _ _ _ _ => (pts_one (pt_not (pt_val (pe_ix (kix_list K) (pv 1) (pv 8) (fun _ _ => rfl)))))) (fun _ _ _ _ _ => (pv 8)))
      (pss_one (ps_if (kpt_truth K (pv 6) (fun _ => rfl))
        (pss_cons (ps_set (i := 7) sc_cheapest_set.nd rfl (by first | exact Or.inl rfl | exact Or.inr rfl) (pe_call (ok_fraction T) (hr.mono (by decide)) (by rfl) T.g_fraction T.F_fraction.kp T.b_fraction .nil (passes_call (takes_of rfl rfl rfl rfl) fun _ _ _ _ z => z) (pa_cons (pv 5) (pa_cons (pe_callB (kcall_len K) (by rfl) T.z_len PySem.boot_len (pa_cons (pv 6) pa_nil)) pa_nil))))
      (pss_one (ps_if (PW.pt (pw_or (pt_cmpR op_isN (pv 2) pe_non (nomark _)) (pw_or1 (pt_val (pe_call (ok_is_less T) (hr.mono (by decide)) (by rfl) T.g_is_less T.F_is_less.kp T.b_is_less .nil (passes_call (takes_of rfl rfl rfl rfl) fun _ _ _ _ z => z) (pa_cons (pv 7) (pa_cons (pe_ix (kix_tup K) (pv 2) pe_int (fun _ _ => rfl)) pa_nil)))))))
        (pss_one (ps_set (i := 2) sc_cheapest_set.nd rfl (by first | exact Or.inl rfl | exact Or.inr rfl) (pe_tup (pa_cons (pv 7) (pa_cons (pv 3) (pa_cons (pv 6) pa_nil))))))
        pss_nil)))
        pss_nil))))
      (pss_one (ps_ret (pv 2))))), ?_⟩)
  exact Fn.run (xs_cheapest_set T) N_cheapest_set h (fun as_ _ _ => by rw [fnm_cheapest_set, fno_cheapest_set]; exact (fnf_cheapest_set T as_).symm)
theorem ok_quick_cover (T : Tx K mg) : FnOk P w K mg base (L2.CX P w) 5 T.f_quick_cover T.fd_quick_cover ["size", "sets"] ((fn_quick_cover T).sp K) := by
  refine T.F_quick_cover.okX sc_quick_cover (SpA.len fun x => by rw [List.length_map]; exact x.2.trans (fnm_quick_cover T)) (fun cdv A outer s H vs Q E hr h => ⟨_, (pss_cons (ps_expr (pe_call (ok_need_sets T) (hr.mono (by decide)) (by rfl) T.g_need_sets T.F_need_sets.kp T.b_need_sets .nil (passes_call (takes_of rfl rfl rfl rfl) fun _ _ _ _ z => z) (pa_cons (pv 0) (pa_cons (pv 1) pa_nil))))
      (pss_cons (ps_set (i := 2) sc_quick_cover.nd rfl (by first | exact Or.inl rfl | exact Or.inr rfl) (pe_op op_rep (pe_lst (pa_cons pe_bl pa_nil)) (pv 0)))
      (pss_cons (ps_set (i := 3) sc_quick_cover.nd rfl (by first | exact Or.inl rfl | exact Or.inr rfl) (pe_op op_rep (pe_lst (pa_cons (pe_tup (pa_cons pe_int (pa_cons pe_int pa_nil))) pa_nil)) (pv 0)))
      (pss_cons (ps_set (i := 4) sc_quick_cover.nd rfl (by first | exact Or.inl rfl | exact Or.inr rfl) (pe_lst pa_nil))
      (pss_cons (ps_while (passes_of rfl) (pt_not (pt_val (pe_callB (kcall_all K rfl) (by rfl) T.z_all (by decide +kernel) (pa_cons (pv 2) pa_nil))))
        (pss_cons (ps_set (i := 5) sc_quick_cover.nd rfl (by first | exact Or.inl rfl | exact Or.inr rfl) (pe_call (ok_cheapest_set T) (hr.mono (by decide)) (by rfl) T.g_cheapest_set T.F_cheapest_set.kp T.b_cheapest_set .nil (passes_call (takes_of rfl rfl rfl rfl) fun _ _ _ _ z => z) (pa_cons (pv 1) (pa_cons (pv 2) pa_nil))))
      (pss_cons (ps_if (pt_cmpR op_isN (pv 5) pe_non (nomark _))
        (pss_one (ps_ret pe_non))
        pss_nil)
      (pss_cons (ps_asg (pv 5) (kpg_tup K (n := 3) rfl (pgs_cons (pg_name (i := 6) sc_quick_cover.nd rfl (by first | exact Or.inl rfl | exact Or.inr rfl)) (pgs_cons (pg_name (i := 7) sc_quick_cover.nd rfl (by first | exact Or.inl rfl | exact Or.inr rfl)) (pgs_cons (pg_name (i := 8) sc_quick_cover.nd rfl (by first | exact Or.inl rfl | exact Or.inr rfl)) pgs_nil)))))
      (pss_cons (ps_expr (pe_bm PySem.F.plainAttrs_list PySem.F.slot_list_append PySem.F.type_list_append mt_append (pv 4) (pa_cons (pv 7) pa_nil)))
      (pss_one (ps_for (passes_of rfl) rfl (kpi_list K (pv 8)) (pg_name (i := 9) sc_quick_cover.nd rfl (by first | exact Or.inl rfl | exact Or.inr rfl))
        (pss_cons (ps_asg pe_bl (pg_sub (pv 2) (pv 9) set_list))
      (pss_one (ps_asg (pv 6) (pg_sub (pv 3) (pv 9) set_list)))))))))))
      (pss_one (ps_ret (pe_tup (pa_cons (pv 4) (pa_cons (pe_callB (kcall_sum K rfl) (by rfl) T.z_sum (by decide +kernel) (pa_cons (pe_lc (own := [("number", 7)]) (g := (gName 7)) rfl sc_quick_cover.nd (kpi_list K (pv 4)) (blkOk_by (N := N_quick_cover) (sc := defScope s_quick_cover) (by decide +kernel)) (fun _ _ _ _ _ => (pg_name (i := 7) sc_quick_cover.nd rfl (by first | exact Or.inl rfl | exact Or.inr rfl))) (fun _ _ _ _ _ => pts_nil) (fun _ _ _ _ _ => (pe_ix (kix_tup K) (pe_ix (kix_list K) (pv 1) (pv 7) (fun _ _ => rfl)) pe_int (fun _ _ => rfl)))) pa_nil)) (pa_cons (pv 3) pa_nil))))))))))), ?_⟩)
  exact FnT.run (xs_quick_cover T) N_quick_cover h (fun as_ _ _ => by rw [fnm_quick_cover]; exact (fnf_quick_cover T as_).symm)
theorem ok_harmonic (T : Tx K mg) : FnOk P w K mg base (L2.CX P w) 5 T.f_harmonic T.fd_harmonic ["many"] ((fn_harmonic T).sp K) := by
  refine T.F_harmonic.okX sc_harmonic (SpA.len fun x => by rw [List.length_map]; exact x.2.trans (fnm_harmonic T)) (fun cdv A outer s H vs Q E hr h => ⟨_, (pss_one (ps_ret (pe_call (ok_added T) (hr.mono (by decide)) (by rfl) T.g_added T.F_added.kp T.b_added .nil (passes_call (takes_of rfl rfl rfl rfl) fun _ _ _ _ z => z) (pa_cons (pe_lc (own := [("number", 1)]) (g := (gName 1)) rfl sc_harmonic.nd (pi_range2 (by rfl) T.z_range (pa_cons pe_int (pa_cons (pe_op op_add (pv 0) pe_int) pa_nil))) (blkOk_by (N := N_harmonic) (sc := defScope s_harmonic) (by decide +kernel)) (fun _ _ _ _ _ => (pg_name (i := 1) sc_harmonic.nd rfl (by first | exact Or.inl rfl | exact Or.inr rfl))) (fun _ _ _ _ _ => pts_nil) (fun _ _ _ _ _ => (pe_tup (pa_cons pe_int (pa_cons (pv 1) pa_nil))))) pa_nil)))), ?_⟩)
  exact Fn.run (xs_harmonic T) N_harmonic h (fun as_ _ _ => by rw [fnm_harmonic, fno_harmonic]; exact (fnf_harmonic T as_).symm)
theorem ok_cover_factor (T : Tx K mg) : FnOk P w K mg base (L2.CX P w) 6 T.f_cover_factor T.fd_cover_factor ["size", "sets"] ((fn_cover_factor T).sp K) := by
  refine T.F_cover_factor.okX sc_cover_factor (SpA.len fun x => by rw [List.length_map]; exact x.2.trans (fnm_cover_factor T)) (fun cdv A outer s H vs Q E hr h => ⟨_, (pss_cons (ps_expr (pe_call (ok_need_sets T) (hr.mono (by decide)) (by rfl) T.g_need_sets T.F_need_sets.kp T.b_need_sets .nil (passes_call (takes_of rfl rfl rfl rfl) fun _ _ _ _ z => z) (pa_cons (pv 0) (pa_cons (pv 1) pa_nil))))
      (pss_one (ps_ret (pe_call (ok_harmonic T) (hr.mono (by decide)) (by rfl) T.g_harmonic T.F_harmonic.kp T.b_harmonic .nil (passes_call (takes_of rfl rfl rfl rfl) fun _ _ _ _ z => z) (pa_cons (pe_callB (ZD.kcr_maxD K rfl (Z.room64 hr)) (by rfl) T.z_max (by decide +kernel) (pa_cons (pe_lc (own := [("members", 2), ("_", 3)]) (g := (gTup K 2 (gCons (gName 2) (gCons (gName 3) gNil)))) rfl sc_cover_factor.nd (kpi_list K (pv 1)) (blkOk_by (N := N_cover_factor) (sc := defScope s_cover_factor) (by decide +kernel)) (fun _ _ _ _ _ => (kpg_tup K (n := 2) rfl (pgs_cons (pg_name (i := 2) sc_cover_factor.nd rfl (by first | exact Or.inl rfl | exact Or.inr rfl)) (pgs_cons (pg_name (i := 3) sc_cover_factor.nd rfl (by first | exact Or.inl rfl | exact Or.inr rfl)) pgs_nil)))) (fun _ _ _ _ _ => pts_nil) (fun _ _ _ _ _ => (pe_callB (kcall_len K) (by rfl) T.z_len PySem.boot_len (pa_cons (pv 2) pa_nil)))) pa_nil)) pa_nil))))), ?_⟩)
  exact Fn.run (xs_cover_factor T) N_cover_factor h (fun as_ _ _ => by rw [fnm_cover_factor, fno_cover_factor]; exact (fnf_cover_factor T as_).symm)
theorem ok_are_cover (T : Tx K mg) : FnOk P w K mg base (L2.CX P w) 1 T.f_are_cover T.fd_are_cover ["size", "sets", "taken"] ((fn_are_cover T).sp K) := by
  refine T.F_are_cover.okX sc_are_cover (SpA.len fun x => by rw [List.length_map]; exact x.2.trans (fnm_are_cover T)) (fun cdv A outer s H vs Q E hr h => ⟨_, (pss_cons (ps_if (PW.pt (pw_or (pt_cmpR op_ne (ZS.kpe_lenSet K (by rfl) T.z_len (by rfl) T.z_set (pv 2)) (pe_callB (kcall_len K) (by rfl) T.z_len PySem.boot_len (pa_cons (pv 2) pa_nil)) (nomark _)) (pw_or1 (pt_not (pt_val (pe_callB (kcall_all K rfl) (by rfl) T.z_all (by decide +kernel) (pa_cons (pe_lc (own := [("number", 3)]) (g := (gName 3)) rfl sc_are_cover.nd (kpi_list K (pv 2)) (blkOk_by (N := N_are_cover) (sc := defScope s_are_cover) (by decide +kernel)) (fun _ _ _ _ _ => (pg_name (i := 3) sc_are_cover.nd rfl (by first | exact Or.inl rfl | exact Or.inr rfl))) (fun _ _ _ _ _ => pts_nil) (fun _ _ _ _ _ => (pe_chain op_le op_lt pe_int (pv 3) (pe_callB (kcall_len K) (by rfl) T.z_len PySem.boot_len (pa_cons (pv 1) pa_nil))))) pa_nil)))))))
        (pss_one (ps_ret pe_bl))
        pss_nil)
      (pss_one (ps_ret (pe_cmpR op_eq (ZS.kpe_lenSet K (by rfl) T.z_len (by rfl) T.z_set (pe_lc2 (own := [("number", 3), ("member", 4)]) (vs1 := [4]) (g := (gName 3)) (g1 := (gName 4)) rfl sc_are_cover.nd (kpi_list K (pv 2)) (blkOk_by (N := N_are_cover) (sc := defScope s_are_cover) (by decide +kernel)) (by decide) (fun _ _ _ _ _ => (pg_name (i := 3) sc_are_cover.nd rfl (by first | exact Or.inl rfl | exact Or.inr rfl))) (fun _ _ _ _ _ => pts_nil) (fun _ _ _ _ _ => (kpi_list K (pe_ix (kix_tup K) (pe_ix (kix_list K) (pv 1) (pv 3) (fun _ _ => rfl)) pe_int (fun _ _ => rfl)))) (fun _ _ _ _ _ => (pg_name (i := 4) sc_are_cover.nd rfl (by first | exact Or.inl rfl | exact Or.inr rfl))) (fun _ _ _ _ _ => pts_nil) (fun _ _ _ _ _ => (pv 4)))) (pv 0) (nomark _))))), ?_⟩)
  exact Fn.run (xs_are_cover T) N_are_cover h (fun as_ _ _ => by rw [fnm_are_cover, fno_are_cover]; exact (fnf_are_cover T as_).symm)
theorem ok_check_shares (T : Tx K mg) : FnOk P w K mg base (L2.CX P w) 6 T.f_check_shares T.fd_check_shares ["size", "sets", "taken", "shares"] ((fn_check_shares T).sp K) := by
  refine T.F_check_shares.okX sc_check_shares (SpA.len fun x => by rw [List.length_map]; exact x.2.trans (fnm_check_shares T)) (fun cdv A outer s H vs Q E hr h => ⟨_, (pss_cons (ps_expr (pe_call (ok_need_sets T) (hr.mono (by decide)) (by rfl) T.g_need_sets T.F_need_sets.kp T.b_need_sets .nil (passes_call (takes_of rfl rfl rfl rfl) fun _ _ _ _ z => z) (pa_cons (pv 0) (pa_cons (pv 1) pa_nil))))
      (pss_cons (ps_if (PW.pt (pw_or (pt_not (pt_val (pe_call (ok_are_cover T) (hr.mono (by decide)) (by rfl) T.g_are_cover T.F_are_cover.kp T.b_are_cover .nil (passes_call (takes_of rfl rfl rfl rfl) fun _ _ _ _ z => z) (pa_cons (pv 0) (pa_cons (pv 1) (pa_cons (pv 2) pa_nil)))))) (pw_or (pt_cmpR op_ne (pe_callB (kcall_len K) (by rfl) T.z_len PySem.boot_len (pa_cons (pv 3) pa_nil)) (pv 0) (nomark _)) (pw_or1 (pt_not (pt_val (pe_callB (kcall_all K rfl) (by rfl) T.z_all (by decide +kernel) (pa_cons (pe_lc (own := [("share", 7)]) (g := (gName 7)) rfl sc_check_shares.nd (kpi_list K (pv 3)) (blkOk_by (N := N_check_shares) (sc := defScope s_check_shares) (by decide +kernel)) (fun _ _ _ _ _ => (pg_name (i := 7) sc_check_shares.nd rfl (by first | exact Or.inl rfl | exact Or.inr rfl))) (fun _ _ _ _ _ => pts_nil) (fun _ _ _ _ _ => (pe_cmpR op_ge (pe_ix (kix_tup K) (pv 7) pe_int (fun _ _ => rfl)) pe_int (nomark _)))) pa_nil))))))))
        (pss_one (ps_ret pe_bl))
        pss_nil)
      (pss_cons (ps_for (passes_of rfl) rfl (kpi_list K (pv 1)) (kpg_tup K (n := 2) rfl (pgs_cons (pg_name (i := 4) sc_check_shares.nd rfl (by first | exact Or.inl rfl | exact Or.inr rfl)) (pgs_cons (pg_name (i := 5) sc_check_shares.nd rfl (by first | exact Or.inl rfl | exact Or.inr rfl)) pgs_nil)))
        (pss_cons (ps_set (i := 6) sc_check_shares.nd rfl (by first | exact Or.inl rfl | exact Or.inr rfl) (pe_call (ok_times T) (hr.mono (by decide)) (by rfl) T.g_times T.F_times.kp T.b_times .nil (passes_call (takes_of rfl rfl rfl rfl) fun _ _ _ _ z => z) (pa_cons (pe_call (ok_harmonic T) (hr.mono (by decide)) (by rfl) T.g_harmonic T.F_harmonic.kp T.b_harmonic .nil (passes_call (takes_of rfl rfl rfl rfl) fun _ _ _ _ z => z) (pa_cons (pe_callB (kcall_len K) (by rfl) T.z_len PySem.boot_len (pa_cons (pv 4) pa_nil)) pa_nil)) (pa_cons (pe_tup (pa_cons (pv 5) (pa_cons pe_int pa_nil))) pa_nil))))
      (pss_one (ps_if (pt_val (pe_call (ok_is_less T) (hr.mono (by decide)) (by rfl) T.g_is_less T.F_is_less.kp T.b_is_less .nil (passes_call (takes_of rfl rfl rfl rfl) fun _ _ _ _ z => z) (pa_cons (pv 6) (pa_cons (pe_call (ok_added T) (hr.mono (by decide)) (by rfl) T.g_added T.F_added.kp T.b_added .nil (passes_call (takes_of rfl rfl rfl rfl) fun _ _ _ _ z => z) (pa_cons (pe_lc (own := [("member", 8)]) (g := (gName 8)) rfl sc_check_shares.nd (kpi_list K (pv 4)) (blkOk_by (N := N_check_shares) (sc := defScope s_check_shares) (by decide +kernel)) (fun _ _ _ _ _ => (pg_name (i := 8) sc_check_shares.nd rfl (by first | exact Or.inl rfl | exact Or.inr rfl))) (fun _ _ _ _ _ => pts_nil) (fun _ _ _ _ _ => (pe_ix (kix_list K) (pv 3) (pv 8) (fun _ _ => rfl)))) pa_nil)) pa_nil))))
        (pss_one (ps_ret pe_bl))
        pss_nil))))
      (pss_one (ps_ret (pe_cmpR (kop_eqD K (Z.room64 hr)) (pe_call (ok_added T) (hr.mono (by decide)) (by rfl) T.g_added T.F_added.kp T.b_added .nil (passes_call (takes_of rfl rfl rfl rfl) fun _ _ _ _ z => z) (pa_cons (pv 3) pa_nil)) (pe_tup (pa_cons (pe_callB (kcall_sum K rfl) (by rfl) T.z_sum (by decide +kernel) (pa_cons (pe_lc (own := [("number", 9)]) (g := (gName 9)) rfl sc_check_shares.nd (kpi_list K (pv 2)) (blkOk_by (N := N_check_shares) (sc := defScope s_check_shares) (by decide +kernel)) (fun _ _ _ _ _ => (pg_name (i := 9) sc_check_shares.nd rfl (by first | exact Or.inl rfl | exact Or.inr rfl))) (fun _ _ _ _ _ => pts_nil) (fun _ _ _ _ _ => (pe_ix (kix_tup K) (pe_ix (kix_list K) (pv 1) (pv 9) (fun _ _ => rfl)) pe_int (fun _ _ => rfl)))) pa_nil)) (pa_cons pe_int pa_nil))) (nomark _))))))), ?_⟩)
  exact Fn.run (xs_check_shares T) N_check_shares h (fun as_ _ _ => by rw [fnm_check_shares, fno_check_shares]; exact (fnf_check_shares T as_).symm)
theorem ok_cover_bound (T : Tx K mg) : FnOk P w K mg base (L2.CX P w) 7 T.f_cover_bound T.fd_cover_bound ["size", "sets", "shares"] ((fn_cover_bound T).sp K) := by
  refine T.F_cover_bound.okX sc_cover_bound (SpA.len fun x => by rw [List.length_map]; exact x.2.trans (fnm_cover_bound T)) (fun cdv A outer s H vs Q E hr h => ⟨_, (pss_cons (ps_set (i := 3) sc_cover_bound.nd rfl (by first | exact Or.inl rfl | exact Or.inr rfl) (pe_call (ok_cover_factor T) (hr.mono (by decide)) (by rfl) T.g_cover_factor T.F_cover_factor.kp T.b_cover_factor .nil (passes_call (takes_of rfl rfl rfl rfl) fun _ _ _ _ z => z) (pa_cons (pv 0) (pa_cons (pv 1) pa_nil))))
      (pss_cons (ps_if (pt_cmpR op_eq (pe_ix (kix_tup K) (pv 3) pe_int (fun _ _ => rfl)) pe_int (nomark _))
        (pss_one (ps_ret (pe_tup (pa_cons pe_int (pa_cons pe_int pa_nil)))))
        pss_nil)
      (pss_one (ps_ret (pe_call (ok_over T) (hr.mono (by decide)) (by rfl) T.g_over T.F_over.kp T.b_over .nil (passes_call (takes_of rfl rfl rfl rfl) fun _ _ _ _ z => z) (pa_cons (pe_call (ok_added T) (hr.mono (by decide)) (by rfl) T.g_added T.F_added.kp T.b_added .nil (passes_call (takes_of rfl rfl rfl rfl) fun _ _ _ _ z => z) (pa_cons (pv 2) pa_nil)) (pa_cons (pv 3) pa_nil))))))), ?_⟩)
  exact Fn.run (xs_cover_bound T) N_cover_bound h (fun as_ _ _ => by rw [fnm_cover_bound, fno_cover_bound]; exact (fnf_cover_bound T as_).symm)
theorem ok_law_numbers (T : Tx K mg) : FnOk P w K mg base (L2.CX P w) 1 T.f_law_numbers T.fd_law_numbers ["script", "many"] ((fn_law_numbers T).sp K) := by
  refine T.F_law_numbers.okX sc_law_numbers (SpA.len fun x => by rw [List.length_map]; exact x.2.trans (fnm_law_numbers T)) (fun cdv A outer s H vs Q E hr h => ⟨_, (pss_cons (ps_set (i := 2) sc_law_numbers.nd rfl (by first | exact Or.inl rfl | exact Or.inr rfl) (pe_op op_cat (pe_lc (own := [("cell", 7)]) (g := (gName 7)) rfl sc_law_numbers.nd (kpi_list K (pe_slice (ksl_list K) (pv 0) po_none (po_some pe_int))) (blkOk_by (N := N_law_numbers) (sc := defScope s_law_numbers) (by decide +kernel)) (fun _ _ _ _ _ => (pg_name (i := 7) sc_law_numbers.nd rfl (by first | exact Or.inl rfl | exact Or.inr rfl))) (fun _ _ _ _ _ => pts_nil) (fun _ _ _ _ _ => (pe_callB call_abs (by rfl) T.z_abs (by decide +kernel) (pa_cons (pv 7) pa_nil)))) (pe_lst (pa_cons pe_int pa_nil))))
      (pss_cons (ps_if (pt_cmpR op_gt (pe_callB (kcall_len K) (by rfl) T.z_len PySem.boot_len (pa_cons (pv 0) pa_nil)) pe_int (nomark _))
        (pss_one (ps_set (i := 2) sc_law_numbers.nd rfl (by first | exact Or.inl rfl | exact Or.inr rfl) (pe_slice (ksl_list K) (pv 2) po_none (po_some (pe_un un_neg pe_int)))))
        pss_nil)
      (pss_cons (ps_setLc (i := 3) (own := [("cell", 7)]) (g := (gName 7)) rfl sc_law_numbers.nd rfl rfl (sw_true rfl rfl rfl (by decide +kernel)) (kpi_list K (pv 2)) (blkOk_by (N := N_law_numbers) (sc := defScope s_law_numbers) (by decide +kernel)) (fun _ _ _ _ _ => (pg_name (i := 7) sc_law_numbers.nd rfl (by first | exact Or.inl rfl | exact Or.inr rfl))) (fun _ _ _ _ _ => pts_nil) (fun _ _ _ _ _ => (pe_op op_mod (pe_callTy call_int1 (by rfl) T.z_int (by decide +kernel) (pa_cons (pe_op op_add (pe_op op_mulU (pv 7) pe_int) pe_int) pa_nil)) pe_int)))
      (pss_cons (ps_set (i := 4) sc_law_numbers.nd rfl (by first | exact Or.inl rfl | exact Or.inr rfl) (pe_lst pa_nil))
      (pss_cons (ps_for (passes_of rfl) rfl (pi_range1 (by rfl) T.z_range (pa_cons (pv 1) pa_nil)) (pg_name (i := 5) sc_law_numbers.nd rfl (by first | exact Or.inl rfl | exact Or.inr rfl))
        (pss_cons (ps_set (i := 6) sc_law_numbers.nd rfl (by first | exact Or.inl rfl | exact Or.inr rfl) (pe_op op_mod (pe_callTy call_int1 (by rfl) T.z_int (by decide +kernel) (pa_cons (pv 5) pa_nil)) (pe_callB (kcall_len K) (by rfl) T.z_len PySem.boot_len (pa_cons (pv 2) pa_nil))))
      (pss_one (ps_if (pt_cmpR op_ge (pe_ix (kix_list K) (pv 2) (pv 6) (fun _ _ => rfl)) (pe_op op_pow pe_int pe_int) (nomark _))
        (pss_cons (ps_expr (pe_bm PySem.F.plainAttrs_list PySem.F.slot_list_append PySem.F.type_list_append mt_append (pv 4) (pa_cons (pe_op op_mod (pe_callTy call_int1 (by rfl) T.z_int (by decide +kernel) (pa_cons (pe_ix (kix_list K) (pv 2) (pv 6) (fun _ _ => rfl)) pa_nil)) pe_int) pa_nil)))
      (pss_one (ps_asg (pe_op op_fdivW (pe_ix (kix_list K) (pv 2) (pv 6) (fun _ _ => rfl)) pe_int) (pg_sub (pv 2) (pv 6) set_list))))
        (pss_cons (ps_asg (pe_op op_mod (pe_callTy call_int1 (by rfl) T.z_int (by decide +kernel) (pa_cons (pe_op op_add (pe_op op_add (pe_op op_mulU (pe_ix (kix_list K) (pv 3) (pv 6) (fun _ _ => rfl)) pe_int) pe_int) (pe_op op_mulU pe_int (pv 5))) pa_nil)) pe_int) (pg_sub (pv 3) (pv 6) set_list))
      (pss_one (ps_expr (pe_bm PySem.F.plainAttrs_list PySem.F.slot_list_append PySem.F.type_list_append mt_append (pv 4) (pa_cons (pe_op op_mod (pe_callTy call_int1 (by rfl) T.z_int (by decide +kernel) (pa_cons (pe_op op_add (pe_ix (kix_list K) (pv 2) (pv 6) (fun _ _ => rfl)) (pe_op op_fdivW (pe_ix (kix_list K) (pv 3) (pv 6) (fun _ _ => rfl)) pe_int)) pa_nil)) pe_int) pa_nil)))))))))
      (pss_one (ps_ret (pv 4)))))))), ?_⟩)
  exact Fn.run (xs_law_numbers T) N_law_numbers h (fun as_ _ _ => by rw [fnm_law_numbers, fno_law_numbers]; exact (fnf_law_numbers T as_).symm)
theorem ok_law_lowest (T : Tx K mg) : FnOk P w K mg base (L2.CX P w) 1 T.f_law_lowest T.fd_law_lowest ["p", "q"] ((fn_law_lowest T).sp K) := by
  refine T.F_law_lowest.okX sc_law_lowest (SpA.len fun x => by rw [List.length_map]; exact x.2.trans (fnm_law_lowest T)) (fun cdv A outer s H vs Q E hr h => ⟨_, (pss_cons (ps_if (pt_cmpR op_lt (pv 1) pe_int (nomark _))
        (pss_one (ps_par (i := 0) (j := 1) rfl sc_law_lowest.nd rfl rfl (by decide) rfl rfl (pa_cons (pe_un un_neg (pv 0)) (pa_cons (pe_un un_neg (pv 1)) pa_nil)) (by rfl)))
        pss_nil)
      (pss_cons (ps_par (i := 2) (j := 3) rfl sc_law_lowest.nd rfl rfl (by decide) rfl rfl (pa_cons (pe_callB call_abs (by rfl) T.z_abs (by decide +kernel) (pa_cons (pv 0) pa_nil)) (pa_cons (pv 1) pa_nil)) (by rfl))
      (pss_cons (ps_for (passes_of rfl) rfl (pi_range1 (by rfl) T.z_range (pa_cons pe_int pa_nil)) (pg_name (i := 4) sc_law_lowest.nd rfl (by first | exact Or.inl rfl | exact Or.inr rfl))
        (pss_cons (ps_if (pt_cmpR op_eq (pv 3) pe_int (nomark _))
        (pss_one ps_break)
        pss_nil)
      (pss_one (ps_par (i := 2) (j := 3) rfl sc_law_lowest.nd rfl rfl (by decide) rfl rfl (pa_cons (pv 3) (pa_cons (pe_op op_mod (pe_callTy call_int1 (by rfl) T.z_int (by decide +kernel) (pa_cons (pv 2) pa_nil)) (pv 3)) pa_nil)) (by rfl)))))
      (pss_one (ps_ret (pe_tup (pa_cons (pe_op op_fdivW (pv 0) (pv 2)) (pa_cons (pe_op op_fdivW (pv 1) (pv 2)) pa_nil)))))))), ?_⟩)
  exact Fn.run (xs_law_lowest T) N_law_lowest h (fun as_ _ _ => by rw [fnm_law_lowest, fno_law_lowest]; exact (fnf_law_lowest T as_).symm)
theorem ok_law_plus (T : Tx K mg) : FnOk P w K mg base (L2.CX P w) 2 T.f_law_plus T.fd_law_plus ["first", "second"] ((fn_law_plus T).sp K) := by
  refine T.F_law_plus.okX sc_law_plus (SpA.len fun x => by rw [List.length_map]; exact x.2.trans (fnm_law_plus T)) (fun cdv A outer s H vs Q E hr h => ⟨_, (pss_one (ps_ret (pe_call (ok_law_lowest T) (hr.mono (by decide)) (by rfl) T.g_law_lowest T.F_law_lowest.kp T.b_law_lowest .nil (passes_call (takes_of rfl rfl rfl rfl) fun _ _ _ _ z => z) (pa_cons (pe_op op_add (pe_op op_mulU (pe_ix (kix_tup K) (pv 0) pe_int (fun _ _ => rfl)) (pe_ix (kix_tup K) (pv 1) pe_int (fun _ _ => rfl))) (pe_op op_mulU (pe_ix (kix_tup K) (pv 1) pe_int (fun _ _ => rfl)) (pe_ix (kix_tup K) (pv 0) pe_int (fun _ _ => rfl)))) (pa_cons (pe_op op_mulU (pe_ix (kix_tup K) (pv 0) pe_int (fun _ _ => rfl)) (pe_ix (kix_tup K) (pv 1) pe_int (fun _ _ => rfl))) pa_nil))))), ?_⟩)
  exact Fn.run (xs_law_plus T) N_law_plus h (fun as_ _ _ => by rw [fnm_law_plus, fno_law_plus]; exact (fnf_law_plus T as_).symm)
theorem ok_law_added (T : Tx K mg) : FnOk P w K mg base (L2.CX P w) 3 T.f_law_added T.fd_law_added ["rows"] ((fn_law_added T).sp K) := by
  refine T.F_law_added.okX sc_law_added (SpA.len fun x => by rw [List.length_map]; exact x.2.trans (fnm_law_added T)) (fun cdv A outer s H vs Q E hr h => ⟨_, (pss_cons (ps_set (i := 1) sc_law_added.nd rfl (by first | exact Or.inl rfl | exact Or.inr rfl) (pe_tup (pa_cons pe_int (pa_cons pe_int pa_nil))))
      (pss_cons (ps_for (passes_of rfl) rfl (kpi_list K (pv 0)) (pg_name (i := 2) sc_law_added.nd rfl (by first | exact Or.inl rfl | exact Or.inr rfl))
        (pss_one (ps_set (i := 1) sc_law_added.nd rfl (by first | exact Or.inl rfl | exact Or.inr rfl) (pe_call (ok_law_plus T) (hr.mono (by decide)) (by rfl) T.g_law_plus T.F_law_plus.kp T.b_law_plus .nil (passes_call (takes_of rfl rfl rfl rfl) fun _ _ _ _ z => z) (pa_cons (pv 1) (pa_cons (pv 2) pa_nil))))))
      (pss_one (ps_ret (pv 1))))), ?_⟩)
  exact Fn.run (xs_law_added T) N_law_added h (fun as_ _ _ => by rw [fnm_law_added, fno_law_added]; exact (fnf_law_added T as_).symm)
theorem ok_law_sets (T : Tx K mg) : FnOk P w K mg base (L2.CX P w) 1 T.f_law_sets T.fd_law_sets ["numbers", "at", "most", "many"] ((fn_law_sets T).sp K) := by
  refine T.F_law_sets.okX sc_law_sets (SpA.len fun x => by rw [List.length_map]; exact x.2.trans (fnm_law_sets T)) (fun cdv A outer s H vs Q E hr h => ⟨_, (pss_cons (ps_set (i := 4) sc_law_sets.nd rfl (by first | exact Or.inl rfl | exact Or.inr rfl) (pe_op op_add pe_int (pe_op op_mod (pe_callTy call_int1 (by rfl) T.z_int (by decide +kernel) (pa_cons (pe_ix (kix_list K) (pv 0) (pv 1) (fun _ _ => rfl)) pa_nil)) (pv 2))))
      (pss_cons (ps_set (i := 5) sc_law_sets.nd rfl (by first | exact Or.inl rfl | exact Or.inr rfl) (pe_lst pa_nil))
      (pss_cons (ps_for (passes_of rfl) rfl (pi_range1 (by rfl) T.z_range (pa_cons (pe_op op_add pe_int (pe_op op_mod (pe_callTy call_int1 (by rfl) T.z_int (by decide +kernel) (pa_cons (pe_ix (kix_list K) (pv 0) (pe_op op_add (pv 1) pe_int) (fun _ _ => rfl)) pa_nil)) (pv 3))) pa_nil)) (pg_name (i := 6) sc_law_sets.nd rfl (by first | exact Or.inl rfl | exact Or.inr rfl))
        (pss_cons (ps_set (i := 7) sc_law_sets.nd rfl (by first | exact Or.inl rfl | exact Or.inr rfl) (pe_callTy call_int1 (by rfl) T.z_int (by decide +kernel) (pa_cons (pe_ix (kix_list K) (pv 0) (pe_op op_add (pe_op op_add (pv 1) pe_int) (pv 6)) (fun _ _ => rfl)) pa_nil)))
      (pss_cons (ps_setLc (i := 8) (own := [("one", 10)]) (g := (gName 10)) rfl sc_law_sets.nd rfl rfl (sw_true rfl rfl rfl (by decide +kernel)) (pi_range1 (by rfl) T.z_range (pa_cons (pv 4) pa_nil)) (blkOk_by (N := N_law_sets) (sc := defScope s_law_sets) (by decide +kernel)) (fun _ _ _ _ _ => (pg_name (i := 10) sc_law_sets.nd rfl (by first | exact Or.inl rfl | exact Or.inr rfl))) (fun _ _ _ _ _ => (pts_one (pt_cmpR op_lt (pe_op op_mod (pe_op op_fdivW (pe_callTy call_int1 (by rfl) T.z_int (by decide +kernel) (pa_cons (pe_ix (kix_list K) (pv 0) (pe_op op_add (pe_op op_add (pv 1) pe_int) (pe_op op_mod (pe_callTy call_int1 (by rfl) T.z_int (by decide +kernel) (pa_cons (pe_op op_add (pv 10) (pe_op op_mulU pe_int (pv 6))) pa_nil)) pe_int)) (fun _ _ => rfl)) pa_nil)) (pe_op op_add pe_int (pe_op op_mod (pv 7) pe_int))) pe_int) pe_int (nomark _)))) (fun _ _ _ _ _ => (pv 10)))
      (pss_one (ps_expr (pe_bm PySem.F.plainAttrs_list PySem.F.slot_list_append PySem.F.type_list_append mt_append (pv 5) (pa_cons (pe_tup (pa_cons (pv 8) (pa_cons (pe_op op_add (pe_ix (kix_list K) (pe_lst (pa_cons pe_int (pa_cons pe_int (pa_cons pe_int (pa_cons pe_int (pa_cons pe_int (pa_cons pe_int (pa_cons pe_int (pa_cons pe_int pa_nil))))))))) (pe_op op_mod (pe_op op_fdivW (pv 7) pe_int) pe_int) (fun _ _ => rfl)) (pe_op op_mod (pe_op op_fdivW (pv 7) pe_int) pe_int)) pa_nil))) pa_nil)))))))
      (pss_cons (ps_if (pt_cmpR op_gt (pe_op op_mod (pe_callTy call_int1 (by rfl) T.z_int (by decide +kernel) (pa_cons (pe_ix (kix_list K) (pv 0) (pe_op op_add (pv 1) pe_int) (fun _ _ => rfl)) pa_nil)) pe_int) pe_int (nomark _))
        (pss_cons (ps_setLc (i := 9) (own := [("one", 10)]) (g := (gName 10)) rfl sc_law_sets.nd rfl rfl (sw_true rfl rfl rfl (by decide +kernel)) (pi_range1 (by rfl) T.z_range (pa_cons (pv 4) pa_nil)) (blkOk_by (N := N_law_sets) (sc := defScope s_law_sets) (by decide +kernel)) (fun _ _ _ _ _ => (pg_name (i := 10) sc_law_sets.nd rfl (by first | exact Or.inl rfl | exact Or.inr rfl))) (fun _ _ _ _ _ => (pts_one (pt_cmpR op_eq (pe_callB (kcall_len K) (by rfl) T.z_len PySem.boot_len (pa_cons (pe_lc (own := [("members", 8), ("price", 11)]) (g := (gTup K 2 (gCons (gName 8) (gCons (gName 11) gNil)))) rfl sc_law_sets.nd (kpi_list K (pv 5)) (blkOk_by (by rfl)) (fun _ _ _ _ _ => (kpg_tup K (n := 2) rfl (pgs_cons (pg_name (i := 8) sc_law_sets.nd rfl (by first | exact Or.inl rfl | exact Or.inr rfl)) (pgs_cons (pg_name (i := 11) sc_law_sets.nd rfl (by first | exact Or.inl rfl | exact Or.inr rfl)) pgs_nil)))) (fun _ _ _ _ _ => (pts_one (pt_cmpR (kop_in K) (pv 10) (pv 8) rfl))) (fun _ _ _ _ _ => pe_int)) pa_nil)) pe_int (nomark _)))) (fun _ _ _ _ _ => (pv 10)))
      (pss_cons (ps_set (i := 6) sc_law_sets.nd rfl (by first | exact Or.inl rfl | exact Or.inr rfl) (pe_op op_mod (pe_callTy call_int1 (by rfl) T.z_int (by decide +kernel) (pa_cons (pe_ix (kix_list K) (pv 0) (pe_op op_add (pv 1) pe_int) (fun _ _ => rfl)) pa_nil)) (pe_callB (kcall_len K) (by rfl) T.z_len PySem.boot_len (pa_cons (pv 5) pa_nil))))
      (pss_one (ps_asg (pe_tup (pa_cons (pe_callB (ZD.kcr_sortD K (Z.room64 hr)) (by rfl) T.z_sorted (by decide +kernel) (pa_cons (pe_op op_cat (pe_ix (kix_tup K) (pe_ix (kix_list K) (pv 5) (pv 6) (fun _ _ => rfl)) pe_int (fun _ _ => rfl)) (pv 9)) pa_nil)) (pa_cons (pe_ix (kix_tup K) (pe_ix (kix_list K) (pv 5) (pv 6) (fun _ _ => rfl)) pe_int (fun _ _ => rfl)) pa_nil))) (pg_sub (pv 5) (pv 6) set_list)))))
        pss_nil)
      (pss_one (ps_ret (pe_tup (pa_cons (pv 4) (pa_cons (pv 5) pa_nil))))))))), ?_⟩)
  exact Fn.run (xs_law_sets T) N_law_sets h (fun as_ _ _ => by rw [fnm_law_sets, fno_law_sets]; exact (fnf_law_sets T as_).symm)
theorem ok_law_quick (T : Tx K mg) : FnOk P w K mg base (L2.CX P w) 2 T.f_law_quick T.fd_law_quick ["size", "sets"] ((fn_law_quick T).sp K) := by
  refine T.F_law_quick.okX sc_law_quick (SpA.len fun x => by rw [List.length_map]; exact x.2.trans (fnm_law_quick T)) (fun cdv A outer s H vs Q E hr h => ⟨_, (pss_cons (ps_set (i := 2) sc_law_quick.nd rfl (by first | exact Or.inl rfl | exact Or.inr rfl) (pe_op op_rep (pe_lst (pa_cons pe_non pa_nil)) (pv 0)))
      (pss_cons (ps_set (i := 3) sc_law_quick.nd rfl (by first | exact Or.inl rfl | exact Or.inr rfl) (pe_lst pa_nil))
      (pss_cons (ps_for (passes_of rfl) rfl (pi_range1 (by rfl) T.z_range (pa_cons (pv 0) pa_nil)) (pg_name (i := 4) sc_law_quick.nd rfl (by first | exact Or.inl rfl | exact Or.inr rfl))
        (pss_cons (ps_set (i := 5) sc_law_quick.nd rfl (by first | exact Or.inl rfl | exact Or.inr rfl) pe_non)
      (pss_cons (ps_for (passes_of rfl) rfl (pi_range1 (by rfl) T.z_range (pa_cons (pe_callB (kcall_len K) (by rfl) T.z_len PySem.boot_len (pa_cons (pv 1) pa_nil)) pa_nil)) (pg_name (i := 6) sc_law_quick.nd rfl (by first | exact Or.inl rfl | exact Or.inr rfl))
        (pss_cons (ps_setLc (i := 8) (own := [("one", 7)]) (g := (gName 7)) rfl sc_law_quick.nd rfl rfl (sw_true rfl rfl rfl (by decide +kernel)) (kpi_list K (pe_ix (kix_tup K) (pe_ix (kix_list K) (pv 1) (pv 6) (fun _ _ => rfl)) pe_int (fun _ _ => rfl))) (blkOk_by (N := N_law_quick) (sc := defScope s_law_quick) (by decide +kernel)) (fun _ _ _ _ _ => (pg_name (i := 7) sc_law_quick.nd rfl (by first | exact Or.inl rfl | exact Or.inr rfl))) (fun _ _ _ _ _ => (pts_one (pt_cmpR op_isN (pe_ix (kix_list K) (pv 2) (pv 7) (fun _ _ => rfl)) pe_non (nomark _)))) (fun _ _ _ _ _ => (pv 7)))
      (pss_one (ps_if (PW.pt (pw_and (pt_cmpR op_gt (pe_callB (kcall_len K) (by rfl) T.z_len PySem.boot_len (pa_cons (pv 8) pa_nil)) pe_int (nomark _)) (pw_and1 (PW.pt (pw_or (pt_cmpR op_isN (pv 5) pe_non (nomark _)) (pw_or1 (pt_cmpR op_lt (pe_op op_mulU (pe_ix (kix_tup K) (pe_ix (kix_list K) (pv 1) (pv 6) (fun _ _ => rfl)) pe_int (fun _ _ => rfl)) (pe_ix (kix_tup K) (pv 5) pe_int (fun _ _ => rfl))) (pe_op op_mulU (pe_ix (kix_tup K) (pv 5) pe_int (fun _ _ => rfl)) (pe_callB (kcall_len K) (by rfl) T.z_len PySem.boot_len (pa_cons (pv 8) pa_nil))) (nomark _))))))))
        (pss_one (ps_set (i := 5) sc_law_quick.nd rfl (by first | exact Or.inl rfl | exact Or.inr rfl) (pe_tup (pa_cons (pe_ix (kix_tup K) (pe_ix (kix_list K) (pv 1) (pv 6) (fun _ _ => rfl)) pe_int (fun _ _ => rfl)) (pa_cons (pe_callB (kcall_len K) (by rfl) T.z_len PySem.boot_len (pa_cons (pv 8) pa_nil)) (pa_cons (pv 6) pa_nil))))))
        pss_nil))))
      (pss_one (ps_if (pt_cmpR op_notN (pv 5) pe_non (nomark _))
        (pss_cons (ps_expr (pe_bm PySem.F.plainAttrs_list PySem.F.slot_list_append PySem.F.type_list_append mt_append (pv 3) (pa_cons (pe_ix (kix_tup K) (pv 5) pe_int (fun _ _ => rfl)) pa_nil)))
      (pss_one (ps_for (passes_of rfl) rfl (kpi_list K (pe_ix (kix_tup K) (pe_ix (kix_list K) (pv 1) (pe_ix (kix_tup K) (pv 5) pe_int (fun _ _ => rfl)) (fun _ _ => rfl)) pe_int (fun _ _ => rfl))) (pg_name (i := 7) sc_law_quick.nd rfl (by first | exact Or.inl rfl | exact Or.inr rfl))
        (pss_one (ps_if (pt_cmpR op_isN (pe_ix (kix_list K) (pv 2) (pv 7) (fun _ _ => rfl)) pe_non (nomark _))
        (pss_one (ps_asg (pe_call (ok_law_lowest T) (hr.mono (by decide)) (by rfl) T.g_law_lowest T.F_law_lowest.kp T.b_law_lowest .nil (passes_call (takes_of rfl rfl rfl rfl) fun _ _ _ _ z => z) (pa_cons (pe_ix (kix_tup K) (pv 5) pe_int (fun _ _ => rfl)) (pa_cons (pe_ix (kix_tup K) (pv 5) pe_int (fun _ _ => rfl)) pa_nil))) (pg_sub (pv 2) (pv 7) set_list)))
        pss_nil)))))
        pss_nil)))))
      (pss_cons (ps_if (pt_cmpR (R.kop_inD K (R.room65 hr)) pe_non (pv 2) rfl)
        (pss_one (ps_ret pe_non))
        pss_nil)
      (pss_one (ps_ret (pe_tup (pa_cons (pv 3) (pa_cons (pe_callB (kcall_sum K rfl) (by rfl) T.z_sum (by decide +kernel) (pa_cons (pe_lc (own := [("k", 6)]) (g := (gName 6)) rfl sc_law_quick.nd (kpi_list K (pv 3)) (blkOk_by (N := N_law_quick) (sc := defScope s_law_quick) (by decide +kernel)) (fun _ _ _ _ _ => (pg_name (i := 6) sc_law_quick.nd rfl (by first | exact Or.inl rfl | exact Or.inr rfl))) (fun _ _ _ _ _ => pts_nil) (fun _ _ _ _ _ => (pe_ix (kix_tup K) (pe_ix (kix_list K) (pv 1) (pv 6) (fun _ _ => rfl)) pe_int (fun _ _ => rfl)))) pa_nil)) (pa_cons (pv 2) pa_nil)))))))))), ?_⟩)
  exact Fn.run (xs_law_quick T) N_law_quick h (fun as_ _ _ => by rw [fnm_law_quick, fno_law_quick]; exact (fnf_law_quick T as_).symm)
theorem ok_law_refused (T : Tx K mg) : FnOk P w K mg base (L2.CX P w) 8 T.f_law_refused T.fd_law_refused ["way", "size", "sets"] ((fn_law_refused T).sp K) := by
  refine T.F_law_refused.okX sc_law_refused (SpA.len fun x => by rw [List.length_map]; exact x.2.trans (fnm_law_refused T)) (fun cdv A outer s H vs Q E hr h => ⟨_, (pss_cons (ps_try_as (i := 3) rfl rfl sc_law_refused.nd rfl rfl ⟨rfl, by decide, .inl T.x_WebError.2.2.2.2⟩ (takes_of rfl rfl rfl rfl) (fun W pn xe tk hpx => (pss_one (ps_if (pt_cmpR op_eq (pv 0) pe_int (nomark _))
        (pss_one (ps_expr (pe_callS (ok_cover_program T) (hr.mono (by decide)) (by rfl) T.g_cover_program T.F_cover_program.kp T.b_cover_program (fun σ => passAt tk σ) (pa_cons (pv 1) (pa_cons (pv 2) pa_nil)))))
        (pss_one (ps_if (pt_cmpR op_eq (pv 0) pe_int (nomark _))
        (pss_one (ps_expr (pe_callS (ok_quick_cover T) (hr.mono (by decide)) (by rfl) T.g_quick_cover T.F_quick_cover.kp T.b_quick_cover (fun σ => passAt tk σ) (pa_cons (pv 1) (pa_cons (pv 2) pa_nil)))))
        (pss_one (ps_if (pt_cmpR op_eq (pv 0) pe_int (nomark _))
        (pss_one (ps_expr (pe_callS (ok_cover_factor T) (hr.mono (by decide)) (by rfl) T.g_cover_factor T.F_cover_factor.kp T.b_cover_factor (fun σ => passAt tk σ) (pa_cons (pv 1) (pa_cons (pv 2) pa_nil)))))
        (pss_one (ps_if (pt_cmpR op_eq (pv 0) pe_int (nomark _))
        (pss_one (ps_expr (pe_callS (ok_check_shares T) (hr.mono (by decide)) (by rfl) T.g_check_shares T.F_check_shares.kp T.b_check_shares (fun σ => passAt tk σ) (pa_cons (pv 1) (pa_cons (pv 2) (pa_cons (pe_lst pa_nil) (pa_cons (pe_lst pa_nil) pa_nil)))))))
        (pss_one (ps_expr (pe_callS (ok_cover_bound T) (hr.mono (by decide)) (by rfl) T.g_cover_bound T.F_cover_bound.kp T.b_cover_bound (fun σ => passAt tk σ) (pa_cons (pv 1) (pa_cons (pv 2) (pa_cons (pe_lst pa_nil) pa_nil)))))))))))))))
        (fun a oe cls d pn hz hf => (pss_cons (ps_set (i := 4) sc_law_refused.nd rfl (by first | exact Or.inl rfl | exact Or.inr rfl) (pe_lst (pa_cons (pe_callB (call_isX hz hf) (by rfl) T.z_isinstance (by decide +kernel) (pa_cons (pv 3) (pa_cons (pe_glob (v := .ref T.c_OutOfRange) (by rfl) T.x_OutOfRange.2.2.2.2 rfl) pa_nil))) (pa_cons (pe_callB (call_isX hz hf) (by rfl) T.z_isinstance (by decide +kernel) (pa_cons (pv 3) (pa_cons (pe_glob (v := .ref T.c_TooMany) (by rfl) T.x_TooMany.2.2.2.2 rfl) pa_nil))) (pa_cons (pe_callB (call_isX hz hf) (by rfl) T.z_isinstance (by decide +kernel) (pa_cons (pv 3) (pa_cons (pe_glob (v := .ref T.c_BadSet) (by rfl) T.x_BadSet.2.2.2.2 rfl) pa_nil))) pa_nil)))))
      (pss_one (ps_ret (pe_tup (pa_cons (pe_op op_cat (pv 4) (pe_lst (pa_cons (pe_callB (call_isX hz hf) (by rfl) T.z_isinstance (by decide +kernel) (pa_cons (pv 3) (pa_cons (pe_glob (v := .ref T.c_BadPrice) (by rfl) T.x_BadPrice.2.2.2.2 rfl) pa_nil))) pa_nil))) (pa_cons (pe_xg hz hf (pv 3)) pa_nil))))))))
      (pss_one (ps_ret pe_non))), ?_⟩)
  exact Fn.run (xs_law_refused T) N_law_refused h (fun as_ _ _ => by rw [fnm_law_refused, fno_law_refused]; exact (fnf_law_refused T as_).symm)
theorem ok_law_refusals (T : Tx K mg) : FnOk P w K mg base (L2.CX P w) 9 T.f_law_refusals T.fd_law_refusals ["numbers", "size", "sets"] ((fn_law_refusals T).sp K) := by
  refine T.F_law_refusals.okX sc_law_refusals (SpA.len fun x => by rw [List.length_map]; exact x.2.trans (fnm_law_refusals T)) (fun cdv A outer s H vs Q E hr h => ⟨_, (pss_cons (ps_set (i := 3) sc_law_refusals.nd rfl (by first | exact Or.inl rfl | exact Or.inr rfl) (pe_ix (kix_list K) (pe_lst (pa_cons (pe_tup (pa_cons (pe_lst (pa_cons (pv 1) pa_nil)) (pa_cons pe_int pa_nil))) (pa_cons (pe_tup (pa_cons (pe_lst (pa_cons pe_int (pa_cons pe_int pa_nil))) (pa_cons pe_int pa_nil))) (pa_cons (pe_tup (pa_cons (pe_lst (pa_cons (pe_un un_neg pe_int) pa_nil)) (pa_cons pe_int pa_nil))) (pa_cons (pe_tup (pa_cons (pe_lst (pa_cons (pe_op op_sub (pv 1) pe_int) (pa_cons (pe_op op_sub (pv 1) pe_int) pa_nil))) (pa_cons pe_int pa_nil))) pa_nil))))) (pe_op op_mod (pe_callTy call_int1 (by rfl) T.z_int (by decide +kernel) (pa_cons (pe_ix (kix_list K) (pv 0) pe_int (fun _ _ => rfl)) pa_nil)) pe_int) (fun _ _ => rfl)))
      (pss_cons (ps_set (i := 4) sc_law_refusals.nd rfl (by first | exact Or.inl rfl | exact Or.inr rfl) (pe_tup (pa_cons (pe_lst (pa_cons pe_int pa_nil)) (pa_cons (pe_ix (kix_list K) (pe_lst (pa_cons (pe_un un_neg pe_int) (pa_cons pe_int pa_nil))) (pe_op op_mod (pe_callTy call_int1 (by rfl) T.z_int (by decide +kernel) (pa_cons (pe_ix (kix_list K) (pv 0) pe_int (fun _ _ => rfl)) pa_nil)) pe_int) (fun _ _ => rfl)) pa_nil))))
      (pss_cons (ps_set (i := 5) sc_law_refusals.nd rfl (by first | exact Or.inl rfl | exact Or.inr rfl) (pe_op op_mod (pe_callTy call_int1 (by rfl) T.z_int (by decide +kernel) (pa_cons (pe_ix (kix_list K) (pv 0) pe_int (fun _ _ => rfl)) pa_nil)) (pe_op op_add (pe_callB (kcall_len K) (by rfl) T.z_len PySem.boot_len (pa_cons (pv 2) pa_nil)) pe_int)))
      (pss_cons (ps_for (passes_of rfl) rfl (pi_range1 (by rfl) T.z_range (pa_cons pe_int pa_nil)) (pg_name (i := 6) sc_law_refusals.nd rfl (by first | exact Or.inl rfl | exact Or.inr rfl))
        (pss_cons (ps_for (passes_of rfl) rfl (kpi_list K (pe_lst (pa_cons pe_int (pa_cons (pe_un un_neg pe_int) (pa_cons (pe_op op_add pe_int (pe_op op_mod (pe_callTy call_int1 (by rfl) T.z_int (by decide +kernel) (pa_cons (pe_ix (kix_list K) (pv 0) pe_int (fun _ _ => rfl)) pa_nil)) pe_int)) pa_nil))))) (pg_name (i := 7) sc_law_refusals.nd rfl (by first | exact Or.inl rfl | exact Or.inr rfl))
        (pss_one (ps_if (pt_cmpR (kop_neD K (Z.room64 hr)) (pe_call (ok_law_refused T) (hr.mono (by decide)) (by rfl) T.g_law_refused T.F_law_refused.kp T.b_law_refused .nil (passes_call (takes_of rfl rfl rfl rfl) fun _ _ _ _ z => z) (pa_cons (pv 6) (pa_cons (pv 7) (pa_cons (pe_lst (pa_cons (pv 3) pa_nil)) pa_nil)))) (pe_tup (pa_cons (pe_lst (pa_cons pe_bl (pa_cons pe_bl (pa_cons pe_bl (pa_cons pe_bl pa_nil))))) (pa_cons (pv 7) pa_nil))) (nomark _))
        (pss_one (ps_ret pe_bl))
        pss_nil)))
      (pss_cons (ps_if (pt_cmpR (kop_neD K (Z.room64 hr)) (pe_call (ok_law_refused T) (hr.mono (by decide)) (by rfl) T.g_law_refused T.F_law_refused.kp T.b_law_refused .nil (passes_call (takes_of rfl rfl rfl rfl) fun _ _ _ _ z => z) (pa_cons (pv 6) (pa_cons (pv 1) (pa_cons (pe_lst pa_nil) pa_nil)))) (pe_tup (pa_cons (pe_lst (pa_cons pe_bl (pa_cons pe_bl (pa_cons pe_bl (pa_cons pe_bl pa_nil))))) (pa_cons pe_int pa_nil))) (nomark _))
        (pss_one (ps_ret pe_bl))
        pss_nil)
      (pss_cons (ps_if (pt_cmpR (kop_neD K (Z.room64 hr)) (pe_call (ok_law_refused T) (hr.mono (by decide)) (by rfl) T.g_law_refused T.F_law_refused.kp T.b_law_refused .nil (passes_call (takes_of rfl rfl rfl rfl) fun _ _ _ _ z => z) (pa_cons (pv 6) (pa_cons (pv 1) (pa_cons (pe_op op_rep (pe_lst (pa_cons (pv 3) pa_nil)) pe_int) pa_nil)))) (pe_tup (pa_cons (pe_lst (pa_cons pe_bl (pa_cons pe_bl (pa_cons pe_bl (pa_cons pe_bl pa_nil))))) (pa_cons pe_int pa_nil))) (nomark _))
        (pss_one (ps_ret pe_bl))
        pss_nil)
      (pss_cons (ps_if (pt_cmpR (kop_neD K (Z.room64 hr)) (pe_call (ok_law_refused T) (hr.mono (by decide)) (by rfl) T.g_law_refused T.F_law_refused.kp T.b_law_refused .nil (passes_call (takes_of rfl rfl rfl rfl) fun _ _ _ _ z => z) (pa_cons (pv 6) (pa_cons (pv 1) (pa_cons (pe_op op_cat (pe_op op_cat (pe_op op_cat (pe_slice (ksl_list K) (pv 2) po_none (po_some (pv 5))) (pe_lst (pa_cons (pe_tup (pa_cons (pe_ix (kix_tup K) (pv 3) pe_int (fun _ _ => rfl)) (pa_cons (pe_un un_neg pe_int) pa_nil))) pa_nil))) (pe_slice (ksl_list K) (pv 2) (po_some (pv 5)) po_none)) (pe_lst (pa_cons (pv 4) pa_nil))) pa_nil)))) (pe_tup (pa_cons (pe_lst (pa_cons pe_bl (pa_cons pe_bl (pa_cons pe_bl (pa_cons pe_bl pa_nil))))) (pa_cons (pv 5) pa_nil))) (nomark _))
        (pss_one (ps_ret pe_bl))
        pss_nil)
      (pss_one (ps_if (pt_cmpR (kop_neD K (Z.room64 hr)) (pe_call (ok_law_refused T) (hr.mono (by decide)) (by rfl) T.g_law_refused T.F_law_refused.kp T.b_law_refused .nil (passes_call (takes_of rfl rfl rfl rfl) fun _ _ _ _ z => z) (pa_cons (pv 6) (pa_cons (pv 1) (pa_cons (pe_op op_cat (pe_op op_cat (pe_op op_cat (pe_slice (ksl_list K) (pv 2) po_none (po_some (pv 5))) (pe_lst (pa_cons (pv 4) pa_nil))) (pe_slice (ksl_list K) (pv 2) (po_some (pv 5)) po_none)) (pe_lst (pa_cons (pv 3) pa_nil))) pa_nil)))) (pe_tup (pa_cons (pe_lst (pa_cons pe_bl (pa_cons pe_bl (pa_cons pe_bl (pa_cons pe_bl pa_nil))))) (pa_cons (pv 5) pa_nil))) (nomark _))
        (pss_one (ps_ret pe_bl))
        pss_nil)))))))
      (pss_one (ps_ret pe_bl)))))), ?_⟩)
  exact Fn.run (xs_law_refusals T) N_law_refusals h (fun as_ _ _ => by rw [fnm_law_refusals, fno_law_refusals]; exact (fnf_law_refusals T as_).symm)
end
end Q

set_option Elab.async false
set_option linter.all false
set_option maxRecDepth 100000
set_option maxHeartbeats 2000000
namespace HQ
section
variable {α : Type} {lt : α → α → Bool}
structure Tot (lt : α → α → Bool) : Prop where
  irr : ∀ a, lt a a = false
  tr : ∀ a b c, lt b a = false → lt c b = false → lt c a = false
  as : ∀ a b, lt a b = true → lt b a = false
abbrev par (i : Nat) : Nat := (i - 1) / 2
def HpF (lt : α → α → Bool) (xs : List α) (t : Nat) : Prop := ∀ i a b, 0 < i → t ≤ par i → xs[par i]? = some a → xs[i]? = some b → lt b a = false
structure Hole (lt : α → α → Bool) (xs : List α) (t pos : Nat) : Prop where
  ok : ∀ i a b, 0 < i → t ≤ par i → i ≠ pos → par i ≠ pos → xs[par i]? = some a → xs[i]? = some b → lt b a = false
  gp : 0 < pos → t ≤ par pos → ∀ c a b, 0 < c → par c = pos → xs[par pos]? = some a → xs[c]? = some b → lt b a = false
inductive Dsc (t : Nat) : Nat → Prop
  | base : Dsc t t
  | l {p} : Dsc t p → Dsc t (2 * p + 1)
  | r {p} : Dsc t p → Dsc t (2 * p + 1 + 1)
theorem Dsc.ge {t p : Nat} (h : Dsc t p) : t ≤ p := by
  induction h with
  | base => exact Nat.le_refl _
  | l _ ih => omega
  | r _ ih => omega
theorem Dsc.par {t p : Nat} (h : Dsc t p) (h2 : p > t) : Dsc t (par p) := by
  cases h with
  | base => omega
  | @l q h => have : HQ.par (2 * q + 1) = q := by unfold HQ.par; omega
              rw [this]; exact h
  | @r q h => have : HQ.par (2 * q + 1 + 1) = q := by unfold HQ.par; omega
              rw [this]; exact h
abbrev IsH (lt : α → α → Bool) (xs : List α) : Prop := HpF lt xs 0
end
end HQ

set_option Elab.async false
set_option linter.all false
set_option maxRecDepth 100000
set_option maxHeartbeats 4000000
namespace R
open PySem PySem.Spec PyProof.Rows L2 Z
section
variable {α β γ : Type}
structure Lin (lt : α → α → Bool) : Prop where
  irr : ∀ a, lt a a = false
  tr : ∀ a b c, lt a b = true → lt b c = true → lt a c = true
  tri : ∀ a b, a ≠ b → lt a b = true ∨ lt b a = true
theorem Lin.as {lt : α → α → Bool} (L : Lin lt) {a b : α} (h : lt a b = true) : lt b a = false := by
  cases h2 : lt b a with
  | false => rfl
  | true =>
    have := L.tr a b a h h2
    rw [L.irr] at this; cases this
theorem Lin.eq {lt : α → α → Bool} (L : Lin lt) {a b : α} (h1 : lt a b = false) (h2 : lt b a = false) : a = b := by
  apply Classical.byContradiction
  intro e
  rcases L.tri a b e with k | k
  · rw [h1] at k; cases k
  · rw [h2] at k; cases k
end
end R
set_option linter.all false
namespace QF
def gI (p q : Int) : Int := ((Nat.gcd p.natAbs q.natAbs : Nat) : Int)
theorem gI_dl (p q : Int) : gI p q ∣ p := Int.natAbs_dvd_natAbs.mp (by show (gI p q).natAbs ∣ _; unfold gI; rw [Int.natAbs_natCast]; exact Nat.gcd_dvd_left _ _)
theorem gI_dr (p q : Int) : gI p q ∣ q := Int.natAbs_dvd_natAbs.mp (by show (gI p q).natAbs ∣ _; unfold gI; rw [Int.natAbs_natCast]; exact Nat.gcd_dvd_right _ _)
theorem gI_pos {p q : Int} (h : q ≠ 0) : 0 < gI p q := by
  unfold gI
  have : 0 < Nat.gcd p.natAbs q.natAbs := Nat.gcd_pos_of_pos_right _ (Int.natAbs_pos.mpr h)
  omega
theorem gI_le {p q : Int} (h : q ≠ 0) : gI p q ≤ (q.natAbs : Int) := by
  unfold gI
  have : Nat.gcd p.natAbs q.natAbs ≤ q.natAbs := Nat.le_of_dvd (Int.natAbs_pos.mpr h) (Nat.gcd_dvd_right _ _)
  omega
def low (p q : Int) : Int × Int := if q < 0 then (-p / gI p q, -q / gI p q) else (p / gI p q, q / gI p q)
structure IsF (x : Int × Int) : Prop where
  pos : 0 < x.2
  cop : Nat.gcd x.1.natAbs x.2.natAbs = 1
theorem low_val {p q : Int} (h : q ≠ 0) : (low p q).1 * q = p * (low p q).2 := by
  obtain ⟨a, ha⟩ := gI_dl p q
  obtain ⟨b, hb⟩ := gI_dr p q
  have g0 := gI_pos (p := p) h
  have hg : gI p q ≠ 0 := by omega
  unfold low
  generalize gI p q = g at *
  split
  · show -p / g * q = p * (-q / g)
    have e1 : -p / g = -a := by rw [ha, ← Int.mul_neg, Int.mul_ediv_cancel_left _ hg]
    have e2 : -q / g = -b := by rw [hb, ← Int.mul_neg, Int.mul_ediv_cancel_left _ hg]
    rw [e1, e2, ha, hb]
    grind
  · show p / g * q = p * (q / g)
    have e1 : p / g = a := by rw [ha, Int.mul_ediv_cancel_left _ hg]
    have e2 : q / g = b := by rw [hb, Int.mul_ediv_cancel_left _ hg]
    rw [e1, e2, ha, hb]
    grind
theorem low_is {p q : Int} (h : q ≠ 0) : IsF (low p q) := by
  have g0 := gI_pos (p := p) h
  have hd1 := gI_dl p q
  have hd2 := gI_dr p q
  have hgcd : ∀ x y : Int, x.natAbs = p.natAbs → y.natAbs = q.natAbs → Nat.gcd (x / gI p q).natAbs (y / gI p q).natAbs = 1 := by
    intro x y hx hy
    have dx : gI p q ∣ x := Int.natAbs_dvd_natAbs.mp (by rw [hx]; exact Int.natAbs_dvd_natAbs.mpr hd1)
    have dy : gI p q ∣ y := Int.natAbs_dvd_natAbs.mp (by rw [hy]; exact Int.natAbs_dvd_natAbs.mpr hd2)
    rw [Int.natAbs_ediv_of_dvd dx, Int.natAbs_ediv_of_dvd dy, hx, hy]
    have : (gI p q).natAbs = Nat.gcd p.natAbs q.natAbs := by unfold gI; rw [Int.natAbs_natCast]
    rw [this]
    exact Nat.coprime_div_gcd_div_gcd (Nat.gcd_pos_of_pos_right _ (Int.natAbs_pos.mpr h))
  unfold low
  split
  · refine ⟨?_, hgcd _ _ (Int.natAbs_neg _) (Int.natAbs_neg _)⟩
    show 0 < -q / gI p q
    have d : gI p q ∣ -q := (Int.dvd_neg).mpr hd2
    exact Int.ediv_pos_of_pos_of_dvd (by omega) (by omega) d
  · refine ⟨?_, hgcd _ _ rfl rfl⟩
    show 0 < q / gI p q
    exact Int.ediv_pos_of_pos_of_dvd (by omega) (by omega) hd2
theorem isF_ext {x y : Int × Int} (hx : IsF x) (hy : IsF y) (h : x.1 * y.2 = y.1 * x.2) : x = y := by
  have hn : x.1.natAbs * y.2.natAbs = y.1.natAbs * x.2.natAbs := by rw [← Int.natAbs_mul, ← Int.natAbs_mul, h]
  have d1 : x.2.natAbs ∣ y.2.natAbs := Nat.Coprime.dvd_of_dvd_mul_left (k := x.2.natAbs) (m := x.1.natAbs) (by rw [Nat.coprime_comm]; exact hx.cop) ⟨y.1.natAbs, by rw [hn, Nat.mul_comm]⟩
  have d2 : y.2.natAbs ∣ x.2.natAbs := Nat.Coprime.dvd_of_dvd_mul_left (k := y.2.natAbs) (m := y.1.natAbs) (by rw [Nat.coprime_comm]; exact hy.cop) ⟨x.1.natAbs, by rw [← hn, Nat.mul_comm]⟩
  have e := Nat.dvd_antisymm d1 d2
  have p1 := hx.pos
  have p2 := hy.pos
  have e2 : x.2 = y.2 := by omega
  have e1 : x.1 = y.1 := by
    rw [e2] at h
    exact Int.eq_of_mul_eq_mul_right (by omega) h
  exact Prod.ext e1 e2
theorem low_ext {p q p' q' : Int} (h : q ≠ 0) (h' : q' ≠ 0) (e : p * q' = p' * q) : low p q = low p' q' := by
  refine isF_ext (low_is h) (low_is h') ?_
  have v1 := low_val (p := p) h
  have v2 := low_val (p := p') h'
  refine Int.eq_of_mul_eq_mul_right h (Int.eq_of_mul_eq_mul_right h' ?_)
  generalize (low p q).1 = a at *
  generalize (low p q).2 = b at *
  generalize (low p' q').1 = c at *
  generalize (low p' q').2 = d at *
  calc a * d * q * q' = (a * q) * (d * q') := by grind
    _ = p * b * (d * q') := by rw [v1]
    _ = (p * q') * (b * d) := by grind
    _ = (p' * q) * (b * d) := by rw [e]
    _ = (p' * d) * (b * q) := by grind
    _ = (c * q') * (b * q) := by rw [v2]
    _ = c * b * q * q' := by grind
theorem ediv_abs {a g : Int} (hg : 0 < g) (hd : g ∣ a) : (a / g).natAbs ≤ a.natAbs := by
  rw [Int.natAbs_ediv_of_dvd hd]
  exact Nat.div_le_self _ _
theorem low_bd2 {p q : Int} (h : q ≠ 0) : (low p q).2.natAbs ≤ q.natAbs := by
  have g0 := gI_pos (p := p) h
  unfold low
  split
  · refine Nat.le_trans (ediv_abs g0 ((Int.dvd_neg).mpr (gI_dr p q))) ?_
    rw [Int.natAbs_neg]; exact Nat.le_refl _
  · exact ediv_abs g0 (gI_dr p q)
def euc : Nat → Nat → Nat → Nat × Nat
  | 0, a, b => (a, b)
  | n + 1, a, b => if b = 0 then (a, b) else euc n b (a % b)
theorem euc_done : ∀ (m n a b : Nat), b < 2 ^ m → 2 * m + 1 ≤ n → euc n a b = (Nat.gcd a b, 0)
  | 0, n, a, b, hb, hn => by
    have : b = 0 := by simpa using hb
    subst this
    match n, hn with
    | n + 1, _ => unfold euc; rw [if_pos rfl, Nat.gcd_zero_right]
  | m + 1, n, a, b, hb, hn => by
    match n, hn with
    | n + 2, hn =>
      unfold euc
      by_cases h0 : b = 0
      · rw [if_pos h0, h0, Nat.gcd_zero_right]
      · rw [if_neg h0]
        have hc : a % b < b := Nat.mod_lt _ (by omega)
        unfold euc
        by_cases h1 : a % b = 0
        · rw [if_pos h1, h1]
          have : Nat.gcd a b = b := by rw [Nat.gcd_comm, Nat.gcd_rec, h1, Nat.gcd_zero_left]
          rw [this]
        · rw [if_neg h1]
          have hd : b % (a % b) < a % b := Nat.mod_lt _ (by omega)
          have hd2 : b % (a % b) + (a % b) ≤ b := by
            have := Nat.div_add_mod b (a % b)
            have hq : 1 ≤ b / (a % b) := (Nat.one_le_div_iff (by omega)).mpr (by omega)
            have : (a % b) * 1 ≤ (a % b) * (b / (a % b)) := Nat.mul_le_mul_left _ hq
            omega
          rw [euc_done m n (a % b) (b % (a % b)) (by rw [Nat.pow_succ] at hb; omega) (by omega)]
          have e1 : Nat.gcd a b = Nat.gcd (a % b) (b % (a % b)) := by
            rw [Nat.gcd_comm a b, Nat.gcd_rec b a, Nat.gcd_rec (a % b) b, Nat.gcd_comm]
          rw [e1]
end QF

set_option Elab.async false
set_option linter.all false
set_option maxRecDepth 100000
set_option maxHeartbeats 4000000
namespace Q
open PySem PySem.Spec PyProof.Rows L2 Z R QF
variable {K : PySem.W.Frag} {mg : Str → Option Value} (T : Tx K mg)
theorem fraction_ok {p q : Int} (h : 0 < q) (hb : q.natAbs < 18446744073709551616) : m_fraction T p q = .ok (low p q) := by
  unfold m_fraction
  have h0 : q ≠ 0 := by omega
  rw [if_neg (by simpa using h0), ok_bind]
  have hg : ((Int.gcd p q : Nat) : Int) = gI p q := rfl
  have g0 := gI_pos (p := p) h0
  have g1 := gI_le (p := p) h0
  rw [hg, if_neg (by simp; omega), ok_bind, div_ok (by omega) (by omega), ok_bind, div_ok (by omega) (by omega), ok_bind]
  unfold low
  rw [if_neg (by omega)]
def F (z : Int) : Int × Int := low z 840
theorem six0 : (840 : Int) ≠ 0 := by decide
theorem F_is (z : Int) : IsF (F z) := low_is six0
theorem F_v (z : Int) : (F z).1 * 840 = z * (F z).2 := low_val six0
theorem F_pos (z : Int) : 0 < (F z).2 := (F_is z).pos
theorem F_le (z : Int) : (F z).2.natAbs ≤ 840 := low_bd2 six0
theorem F_dvd (z : Int) : (F z).2 ∣ 840 := by
  unfold F low
  rw [if_neg (by decide)]
  exact Int.ediv_dvd_of_dvd (gI_dr z 840)
theorem F_low {p q z : Int} (h : q ≠ 0) (e : p * 840 = z * q) : low p q = F z := low_ext h six0 e
theorem F_one (p : Int) : F (p * 840) = (p, 1) := by
  have i : IsF (p, (1 : Int)) := ⟨by show (0 : Int) < 1; decide, by simp⟩
  refine isF_ext (F_is _) i ?_
  show (F (p * 840)).1 * 1 = p * (F (p * 840)).2
  have h2 := F_v (p * 840)
  refine Int.eq_of_mul_eq_mul_right six0 ?_
  grind
theorem F_zero : F 0 = (0, 1) := by have := F_one 0; rwa [Int.zero_mul] at this
theorem F_lt (x y : Int) : (F x).1 * (F y).2 < (F y).1 * (F x).2 ↔ x < y := by
  have h1 := F_v x
  have h2 := F_v y
  have p1 := F_pos x
  have p2 := F_pos y
  generalize (F x).1 = a at *
  generalize (F x).2 = b at *
  generalize (F y).1 = c at *
  generalize (F y).2 = d at *
  have hbd := Int.mul_pos p1 p2
  have e1 : a * d * 840 = x * (b * d) := by grind
  have e2 : c * b * 840 = y * (b * d) := by grind
  constructor
  · intro h
    have : x * (b * d) < y * (b * d) := by omega
    exact Int.lt_of_mul_lt_mul_right this (Int.le_of_lt hbd)
  · intro h
    have : x * (b * d) < y * (b * d) := Int.mul_lt_mul_of_pos_right h hbd
    omega
theorem prod6 {a b : Int} (ha : 0 < a) (hb : 0 < b) (h1 : a.natAbs ≤ 840) (h2 : b.natAbs ≤ 840) : 0 < a * b ∧ (a * b).natAbs < 18446744073709551616 := by
  have := Int.mul_pos ha hb
  have : (a * b).natAbs ≤ 840 * 840 := by rw [Int.natAbs_mul]; exact Nat.mul_le_mul h1 h2
  omega
theorem less_ok (x y : Int) : m_is_less (F x) (F y) = .ok (decide (x < y)) := by
  have hx := F_le x
  have hy := F_le y
  unfold m_is_less
  rw [mul_r (by omega), ok_bind, mul_r (by omega), ok_bind]
  congr 1
  exact decide_eq_decide.mpr (F_lt x y)
theorem scaled_ok (zs : List Int) (hl : zs.length ≤ 100000) : ∃ (ns : List Int) (s : Int), m_scaled (zs.map F) = .ok (ns, s) ∧ 0 < s ∧ s.natAbs ≤ 840 ∧ ns.map (fun n => n * 840) = zs.map (fun z => z * s) := by
  unfold m_scaled
  obtain ⟨s, hs, i0, i1, i2⟩ := for_inv (f := fun (pair : (Int × Int)) (scale : Int) => (((lcmC scale pair.2)).bind fun scale1 => (Rs.ok scale1))) (xs := zs.map F) (s := (1 : Int)) (fun pre s => 0 < s ∧ s ∣ 840 ∧ ∀ x ∈ pre, x.2 ∣ s) ⟨by decide, by decide, fun x h => nomatch h⟩ (by
    intro pre a suf s e ⟨j0, j1, j2⟩
    have ha : a ∈ zs.map F := by rw [e]; simp
    obtain ⟨z, hz, rfl⟩ := List.mem_map.mp ha
    have hs : s.natAbs ≤ 840 := Nat.le_of_dvd (by decide) (Int.natAbs_dvd_natAbs.mpr j1)
    have hz := F_le z
    have hp := F_pos z
    refine ⟨_, by rw [lcm_ok (by omega) (by omega), ok_bind], ?_, ?_, ?_⟩
    · have := Int.lcm_pos (m := s) (n := (F z).2) (by omega) (by omega)
      omega
    · exact Int.coe_lcm_dvd j1 (F_dvd z)
    · intro x hx
      rcases List.mem_append.mp hx with h | h
      · exact Int.dvd_trans (j2 x h) (Int.dvd_lcm_left ..)
      · rw [List.mem_singleton.mp h]; exact Int.dvd_lcm_right ..)
  have s6 : s.natAbs ≤ 840 := Nat.le_of_dvd (by decide) (Int.natAbs_dvd_natAbs.mpr i1)
  have key : ∀ z ∈ zs, ∃ q, s / (F z).2 = q ∧ s = (F z).2 * q := by
    intro z hz
    obtain ⟨q, hq⟩ : (F z).2 ∣ s := i2 _ (List.mem_map.mpr ⟨_, hz, rfl⟩)
    have hp := F_pos z
    exact ⟨q, by rw [hq, Int.mul_ediv_cancel_left _ (by omega)], hq⟩
  rw [hs, ok_bind, lc_ok (fun p => p.1 * (s / p.2)) (by simpa using hl), ok_bind]
  · refine ⟨_, _, rfl, i0, s6, ?_⟩
    rw [List.map_map, List.map_map]
    refine List.map_congr_left fun z hz => ?_
    obtain ⟨q, e1, hq⟩ := key z hz
    show (F z).1 * (s / (F z).2) * 840 = z * s
    have hv := F_v z
    rw [e1]
    generalize F z = f at *
    grind
  · intro a ha
    obtain ⟨z, hz, rfl⟩ := List.mem_map.mp ha
    obtain ⟨q, e1, hq⟩ := key z hz
    have hp := F_pos z
    have hl := F_le z
    rw [div_ok hp (by omega), ok_bind]
    have hm : q.natAbs * 1 ≤ s.natAbs := by
      rw [hq, Int.natAbs_mul, Nat.mul_comm]
      exact Nat.mul_le_mul_right _ (by omega)
    rw [e1]
    exact mul_r (by omega)
theorem sum_mulr {d : Int} : ∀ {xs : List Int}, (xs.map fun x => x * d).sum = xs.sum * d
  | [] => by simp
  | x :: xs => by rw [List.map_cons, List.sum_cons, List.sum_cons, sum_mulr, Int.add_mul]
theorem added_ok (zs : List Int) (hl : zs.length ≤ 100000) : m_added T (zs.map F) = .ok (F zs.sum) := by
  obtain ⟨ns, s, e, h0, h1, h2⟩ := scaled_ok zs hl
  unfold m_added
  rw [e, ok_bind, fraction_ok T h0 (by show s.natAbs < _; omega), F_low (by show s ≠ 0; omega)]
  have := congrArg List.sum h2
  rw [sum_mulr, sum_mulr] at this
  exact this
theorem iabs_nat (a : Int) : iabs a = (a.natAbs : Int) := by unfold iabs; split <;> omega
theorem euc_for : ∀ (xs : List Int) (a b : Nat), forJ (β := Int × Int) (fun (turn : Int) (s1 : Int × Int) =>
  (if (decide (s1.2 = 0)) = true then
  (Rs.ok (LO.bk (s1.1, s1.2)))
  else (((modC s1.1 s1.2)).bind fun two =>
  (Rs.ok (LO.nx (s1.2, two)))))) xs ((a : Int), (b : Int)) = .ok (.nx (((euc xs.length a b).1 : Int), ((euc xs.length a b).2 : Int)))
  | [], a, b => rfl
  | x :: xs, a, b => by
    rw [forJ]
    show Rs.bind (if decide ((b : Int) = 0) = true then _ else _) _ = _
    by_cases h : b = 0
    · rw [if_pos (decide_eq_true (by omega)), ok_bind]
      rw [show (x :: xs).length = xs.length + 1 from rfl, euc, if_pos h]
    · rw [if_neg (by simpa using h), mod_ok (show (0 : Int) < ((a : Int), (b : Int)).2 by show (0 : Int) < (b : Int); omega), ok_bind, ok_bind]
      rw [show (x :: xs).length = xs.length + 1 from rfl, euc, if_neg h]
      exact euc_for xs b (a % b)
theorem lowest_ok {p q : Int} (h : q ≠ 0) (hb : q.natAbs < 18446744073709551616) : m_law_lowest p q = .ok (low p q) := by
  unfold m_law_lowest
  have g0 := gI_pos (p := p) h
  have g1 := gI_le (p := p) h
  have hs : (if decide (q < 0) = true then Rs.ok (-p, -q) else Rs.ok (p, q)) = Rs.ok (if q < 0 then (-p, -q) else (p, q)) := by
    by_cases hq : q < 0
    · rw [if_pos (decide_eq_true hq), if_pos hq]
    · rw [if_neg (by simpa using hq), if_neg hq]
  rw [hs, ok_bind]
  have e : ∀ P Q : Int, 0 < Q → Q.natAbs = q.natAbs → P.natAbs = p.natAbs → (bindJ (forJ (fun (turn : Int) (s1 : Int × Int) =>
  (if (decide (s1.2 = 0)) = true then
  (Rs.ok (LO.bk (s1.1, s1.2)))
  else (((modC s1.1 s1.2)).bind fun two =>
  (Rs.ok (LO.nx (s1.2, two)))))) (rngL 0 4000) ((iabs P), Q)) fun (s1 : Int × Int) =>
  (((divC P s1.1)).bind fun u => ((divC Q s1.1)).bind fun u1 => .ok (u, u1))) = .ok (P / gI p q, Q / gI p q) := by
    intro P Q hQ h2 h3
    rw [iabs_nat, show Q = (Q.natAbs : Int) by omega, h2, h3, euc_for]
    have hl : (rngL 0 4000).length = 4000 := by unfold rngL; rw [List.length_map, List.length_range]; rfl
    rw [hl, euc_done 64 4000 p.natAbs q.natAbs hb (by decide), bindJ_nx]
    show Rs.bind (divC P (gI p q)) _ = _
    rw [div_ok g0 (by omega), ok_bind]
    show Rs.bind (divC _ (gI p q)) _ = _
    rw [div_ok g0 (by omega), ok_bind]
  unfold low
  by_cases hq : q < 0
  · rw [if_pos hq, if_pos hq]
    exact e (-p) (-q) (by omega) (by omega) (by omega)
  · rw [if_neg hq, if_neg hq]
    exact e p q (by omega) rfl rfl
theorem lplus_ok (x y : Int) : m_law_plus (F x) (F y) = .ok (F (x + y)) := by
  have p := prod6 (F_pos x) (F_pos y) (F_le x) (F_le y)
  have hx := F_le x
  have hy := F_le y
  unfold m_law_plus
  rw [mul_r (by omega), ok_bind, mul_r (by omega), ok_bind, ok_bind, mul_r (by omega), ok_bind, lowest_ok (by omega) p.2, F_low (by omega)]
  have h1 := F_v x
  have h2 := F_v y
  grind
theorem ladded_ok (zs : List Int) : m_law_added (zs.map F) = .ok (F zs.sum) := by
  unfold m_law_added
  rw [ok_bind]
  have : ∀ (zs : List Int) (a : Int), forR (fun (one : (Int × Int)) (total1 : (Int × Int)) => ((m_law_plus total1 one).bind fun total2 => (Rs.ok total2))) (zs.map F) (F a) = .ok (F (a + zs.sum)) := by
    intro zs
    induction zs with
    | nil => intro a; rw [List.map_nil, List.sum_nil, Int.add_zero]; rfl
    | cons z zs ih => intro a; rw [List.map_cons, forR, lplus_ok, ok_bind, ok_bind, ih, List.sum_cons, Int.add_assoc]
  have h := this zs 0
  rw [F_zero, Int.zero_add] at h
  rw [h, ok_bind]
def parts (n : Nat) : List Int := (List.range n).map fun (k : Nat) => (840 : Int) / ((k : Int) + 1)
def Hs (n : Nat) : Int := (parts n).sum
theorem part_F {k : Nat} (h : k < 8) : ((1 : Int), 1 + (k : Int)) = F ((840 : Int) / ((k : Int) + 1)) := by
  have : k = 0 ∨ k = 1 ∨ k = 2 ∨ k = 3 ∨ k = 4 ∨ k = 5 ∨ k = 6 ∨ k = 7 := by omega
  rcases this with h | h | h | h | h | h | h | h <;> subst h <;> decide +kernel
theorem parts_list {n : Nat} (h : n ≤ 8) : ((rngL 1 ((n : Int) + 1)).map fun k => ((1 : Int), k)) = (parts n).map F := by
  unfold rngL parts
  have : ((n : Int) + 1 - 1).toNat = n := by omega
  rw [this, List.map_map, List.map_map]
  refine List.map_congr_left fun k hk => ?_
  have hk := List.mem_range.mp hk
  exact part_F (by omega)
theorem parts_len (n : Nat) : (parts n).length = n := by unfold parts; simp
theorem harmonic_ok {n : Nat} (h : n ≤ 8) : m_harmonic T (n : Int) = .ok (F (Hs n)) := by
  unfold m_harmonic
  have e : rng2C 1 ((n : Int) + 1) = .ok (rngL 1 ((n : Int) + 1)) := grd_t (by omega)
  rw [e, ok_bind, lc_ok (fun k => ((1 : Int), k)) (by unfold rngL; simp; omega) (fun _ _ => rfl), ok_bind, parts_list h]
  exact added_ok T _ (by rw [parts_len]; omega)
theorem d840 {n : Nat} (h1 : 1 ≤ n) (h : n ≤ 8) : (840 / (n : Int)) * (n : Int) = 840 := by
  have : n = 1 ∨ n = 2 ∨ n = 3 ∨ n = 4 ∨ n = 5 ∨ n = 6 ∨ n = 7 ∨ n = 8 := by omega
  rcases this with h | h | h | h | h | h | h | h <;> subst h <;> decide
theorem share_ok (p : Int) {n : Nat} (h1 : 1 ≤ n) (h : n ≤ 8) : m_fraction T p (n : Int) = .ok (F (p * (840 / (n : Int)))) := by
  rw [fraction_ok T (by omega) (by omega)]
  refine congrArg Rs.ok (F_low (by omega) ?_)
  have := d840 h1 h
  rw [Int.mul_assoc, this]
abbrev St := List Int × Int
structure Asc (m : Nat) (l : List Int) : Prop where
  so : l.Pairwise (· < ·)
  bd : ∀ x ∈ l, 0 ≤ x ∧ x < m
theorem Asc.nodup {m : Nat} {l : List Int} (a : Asc m l) : l.Nodup := a.so.imp fun h e => by omega
theorem asc_len {m : Nat} : ∀ (l : List Int) (lo : Int), l.Pairwise (· < ·) → (∀ x ∈ l, lo ≤ x ∧ x < m) → (lo ≤ m) → (l.length : Int) ≤ m - lo
  | [], lo, _, _, h => by simp; omega
  | x :: l, lo, hp, hb, h => by
    have h1 := hb x (List.mem_cons_self ..)
    have hp' := List.pairwise_cons.mp hp
    have := asc_len l (x + 1) hp'.2 (fun y hy => ⟨by have := hp'.1 y hy; omega, (hb y (List.mem_cons_of_mem _ hy)).2⟩) (by omega)
    rw [List.length_cons]
    omega
theorem Asc.len {m : Nat} {l : List Int} (a : Asc m l) : l.length ≤ m := by
  have := asc_len l 0 a.so a.bd (by omega)
  omega
theorem asc_ok {m : Nat} {l : List Int} (a : Asc m l) : m_is_ascending l (m : Int) = .ok true := by
  unfold m_is_ascending
  rw [ok_bind]
  obtain ⟨s, hs, _⟩ := forJ_nx (β := Bool) (xs := l) (f := fun (number : Int) (last1 : Int) =>
  (if (!(decide (last1 < number) && decide (number < (m : Int)))) = true then
  (Rs.ok (LO.ex false))
  else (Rs.ok (LO.nx number)))) (s := (-1 : Int)) (fun pre s => ∀ x ∈ l, (∀ y ∈ pre, y < x) → s < x) (by intro x hx _; have := (a.bd x hx).1; omega) (by
    intro pre x suf s e i
    have hx : x ∈ l := by rw [e]; simp
    have hso := a.so
    rw [e, List.pairwise_append] at hso
    have h1 := i x hx fun y hy => hso.2.2 y hy x (List.mem_cons_self ..)
    have h2 := (a.bd x hx).2
    refine ⟨x, by rw [decide_eq_true h1, decide_eq_true h2]; rfl, ?_⟩
    intro y hy h
    exact h x (by simp))
  rw [hs]
  rfl
structure Sts (m : Nat) (S : List St) : Prop where
  m1 : 1 ≤ m
  m6 : m ≤ 8
  l1 : 1 ≤ S.length
  l7 : S.length ≤ 9
  asc : ∀ s ∈ S, Asc m s.1
  pr : ∀ s ∈ S, 0 ≤ s.2 ∧ s.2 ≤ 1000
theorem need_ok {m : Nat} {S : List St} (H : Sts m S) : m_need_sets T (m : Int) S = .ok () := by
  have h1 := H.m1
  have h2 := H.m6
  have h3 := H.l1
  have h4 := H.l7
  unfold m_need_sets
  have e1 : (!(decide (1 ≤ (m : Int)) && decide ((m : Int) ≤ 40))) = false := by
    rw [decide_eq_true (show 1 ≤ (m : Int) by omega), decide_eq_true (show (m : Int) ≤ 40 by omega)]; rfl
  have e2 : (!(decide (1 ≤ lenI S) && decide (lenI S ≤ 40))) = false := by
    rw [decide_eq_true (show 1 ≤ lenI S by unfold lenI; omega), decide_eq_true (show lenI S ≤ 40 by unfold lenI; omega)]; rfl
  rw [e1, e2, if_neg (fun z => nomatch z), if_neg (fun z => nomatch z)]
  obtain ⟨s, hs, _⟩ := for_inv (xs := enumL S) (f := fun (x : (Int × ((List Int) × Int))) (_ : Unit) =>
  (((m_is_ascending x.2.1 (m : Int)).bind fun u_ => Rs.ok (!u_)).bind fun c1 => if c1 = true then
  (Rs.ex T.c_BadSet x.1)
  else (((m_is_price x.2.2).bind fun u_ => Rs.ok (!u_)).bind fun c => if c = true then
  (Rs.ex T.c_BadPrice x.1)
  else (Rs.ok ())))) (s := ()) (fun _ _ => True) trivial (by
    intro pre a suf s e _
    have ha : a.2 ∈ S := by
      have : a ∈ enumL S := by rw [e]; simp
      unfold enumL at this
      obtain ⟨q, hq, rfl⟩ := List.mem_map.mp this
      exact (List.mem_zipIdx hq).2.2 ▸ List.getElem_mem _
    have hp := H.pr _ ha
    refine ⟨(), ?_, trivial⟩
    rw [asc_ok (H.asc _ ha), ok_bind, ok_bind, if_neg (fun z => nomatch z)]
    unfold m_is_price
    rw [ok_bind, ok_bind, decide_eq_true hp.1, decide_eq_true (show a.2.2 ≤ 1048576 by omega)]
    rfl)
  rw [hs]
  rfl
theorem most_ok {m : Nat} {S : List St} (H : Sts m S) : ∃ M : Nat, ((lcM (β := Int) S (fun (x : ((List Int) × Int)) => (Rs.ok true)) (fun (x : ((List Int) × Int)) => (Rs.ok (lenI x.1)))).bind fun u => maxT (OrdE.lt (E := eI)) u) = .ok (M : Int) ∧ M ≤ 8 ∧ ∀ s ∈ S, s.1.length ≤ M := by
  have h4 := H.l7
  have h2 := H.m6
  rw [lc_ok (fun s : St => lenI s.1) (by omega) (fun _ _ => rfl), ok_bind]
  have key : ∀ (xs : List St) (a : Nat), a ≤ 8 → (∀ s ∈ xs, s.1.length ≤ 8) → ∃ M : Nat, (xs.map fun s : St => lenI s.1).foldl (fun a y => if OrdE.lt (E := eI) a y = true then y else a) (a : Int) = (M : Int) ∧ M ≤ 8 ∧ a ≤ M ∧ ∀ s ∈ xs, s.1.length ≤ M := by
    intro xs
    induction xs with
    | nil => intro a h _; exact ⟨a, rfl, h, Nat.le_refl _, fun s h => nomatch h⟩
    | cons s xs ih =>
      intro a h hs
      have h6 := hs s (List.mem_cons_self ..)
      have hc : (if OrdE.lt (E := eI) (a : Int) (lenI s.1) = true then lenI s.1 else (a : Int)) = ((max a s.1.length : Nat) : Int) := by
        show (if decide ((a : Int) < lenI s.1) = true then lenI s.1 else (a : Int)) = _
        unfold lenI
        by_cases hlt : (a : Int) < ((s.1.length : Nat) : Int)
        · rw [if_pos (decide_eq_true hlt)]; omega
        · rw [if_neg (by simpa using hlt)]; omega
      obtain ⟨M, e, h1, h2, h3⟩ := ih (max a s.1.length) (by omega) fun x hx => hs x (List.mem_cons_of_mem _ hx)
      refine ⟨M, by rw [List.map_cons, List.foldl_cons, hc, e], h1, by omega, ?_⟩
      intro x hx
      rcases List.mem_cons.mp hx with rfl | hx
      · omega
      · exact h3 x hx
  cases S with
  | nil => exact absurd H.l1 (by decide)
  | cons s S =>
    have hl : ∀ x ∈ s :: S, x.1.length ≤ 8 := fun x hx => by have := (H.asc x hx).len; omega
    obtain ⟨M, e, h1, h2, h3⟩ := key S s.1.length (hl s (List.mem_cons_self ..)) fun x hx => hl x (List.mem_cons_of_mem _ hx)
    refine ⟨M, congrArg Rs.ok e, h1, ?_⟩
    intro x hx
    rcases List.mem_cons.mp hx with rfl | hx
    · exact h2
    · exact h3 x hx
def gt (S : List St) (k : Int) : St := S.getD k.toNat ([], 0)
theorem gt_mem {S : List St} {k : Int} (h0 : 0 ≤ k) (h : k < lenI S) : gt S k ∈ S := gD_mem (by unfold lenI at h; omega)
theorem ix_gt {S : List St} {k : Int} (h0 : 0 ≤ k) (h : k < lenI S) : ixC S k = .ok (gt S k) := ix_d ([], 0) h0 h
theorem filter_pos {α : Type} (c : α → Bool) (xs : List α) : decide (lenI (xs.filter c) > 0) = xs.any c := by
  unfold lenI
  cases h : xs.any c with
  | true =>
    obtain ⟨x, hx, hc⟩ := List.any_eq_true.mp h
    have := List.length_pos_of_mem (List.mem_filter.mpr ⟨hx, hc⟩)
    exact decide_eq_true (by omega)
  | false =>
    have : xs.filter c = [] := List.filter_eq_nil_iff.mpr fun x hx hc => by
      have := List.any_eq_true.mpr ⟨x, hx, hc⟩
      rw [h] at this; cases this
    rw [this]
    rfl
theorem filter_none {α : Type} (c : α → Bool) (xs : List α) : decide (lenI (xs.filter c) = 0) = !xs.any c := by
  rw [← filter_pos c xs]
  unfold lenI
  by_cases h : ((xs.filter c).length : Int) = 0
  · rw [decide_eq_true h, decide_eq_false (by omega)]; rfl
  · rw [decide_eq_false h, decide_eq_true (by omega)]; rfl
theorem len_fm {α β : Type} (c : α → Bool) (f : α → β) (xs : List α) : lenI ((xs.filter c).map f) = lenI (xs.filter c) := by unfold lenI; rw [List.length_map]
end Q

set_option Elab.async false
set_option linter.all false
set_option maxRecDepth 100000
set_option maxHeartbeats 4000000
namespace Q
open PySem PySem.Spec PyProof.Rows L2 Z R
structure Nums (ns : List Int) (many : Nat) : Prop where
  len : ns.length = many
  bd : ∀ x ∈ ns, 0 ≤ x ∧ x < 65536
theorem cut63 {xs : List Int} (hx : xs.length ≤ 63) : cutT xs none (some 63) = xs := by
  unfold cutT
  rw [HT.sIx_none, show (some (63 : Int)) = some ((63 : Nat) : Int) from rfl, HT.sIx_nat, List.drop_zero, List.take_of_length_le (by omega)]
theorem numbers_ok {xs : List Int} (hx : xs.length ≤ 63) {many : Nat} (hm : many ≤ 100000) : ∃ ns, Nums ns many ∧ m_law_numbers xs (many : Int) = .ok ns := by
  unfold m_law_numbers
  rw [cut63 hx, lc_ok iabs (by omega) fun _ _ => rfl, ok_bind, cat_ok (by rw [List.length_map]; simp; omega), ok_bind]
  obtain ⟨rest, h1, h2, e⟩ : ∃ rest, 0 < rest.length ∧ rest.length ≤ 64 ∧ (if decide (lenI xs > 0) = true then (Rs.ok (cutT (xs.map iabs ++ [0]) none (some (-1)))).bind fun r => Rs.ok r else Rs.ok (xs.map iabs ++ [0])) = Rs.ok rest := by
    by_cases h0 : xs.length = 0
    · have : xs = [] := List.eq_nil_of_length_eq_zero h0
      subst this
      exact ⟨[0], by decide, by decide, rfl⟩
    · have h1 : decide (lenI xs > 0) = true := by unfold lenI; exact decide_eq_true (by omega)
      rw [if_pos h1]
      have hl : (cutT (xs.map iabs ++ [0]) none (some (-1))).length = xs.length := by
        unfold cutT
        rw [HT.sIx_none, List.drop_zero, List.length_take]
        unfold HT.sIx
        simp
        omega
      exact ⟨_, by rw [hl]; omega, by rw [hl]; omega, rfl⟩
  rw [e, ok_bind]
  rw [lc_ok (fun c => (c * 48271 + 11) % 2147483647) (by omega) fun _ _ => rfl, qu_ok, ok_bind, ok_bind, rng_up (by omega), ok_bind]
  obtain ⟨s, hs, i1, i2, i3, i4⟩ := for_upto (n := many) (f := fun (k : Int) (s : (List Int) × (List Int) × (List Int)) =>
  (((modC k (lenI s.1))).bind fun at' =>
  ((((ixC s.1 at')).bind fun u1 => Rs.ok (decide (u1 ≥ 1000000000000000000))).bind fun c => if c = true then
  (((((ixC s.1 at')).bind fun u2 => Rs.ok u2).bind fun u3 => Rs.ok (u3 % 65536)).bind fun u_ => (pushC s.2.2 u_).bind fun numbers1 =>
  ((((ixC s.1 at')).bind fun u4 => Rs.ok (u4 / 65536)).bind fun u_ => (qu (Rs.ok at')).bind fun z_ => (setC s.1 z_ u_).bind fun rest3 =>
  (Rs.ok (rest3, s.2.1, numbers1))))
  else ((((((((ixC s.2.1 at')).bind fun u5 => Rs.ok (u5 * 16807)).bind fun u6 => Rs.ok (u6 + 12345)).bind fun u7 => Rs.ok (u7 + (7919 * k))).bind fun u8 => Rs.ok u8).bind fun u9 => Rs.ok (u9 % 2147483647)).bind fun u_ => (qu (Rs.ok at')).bind fun z_ => (setC s.2.1 z_ u_).bind fun mixed1 =>
  ((((((ixC s.1 at')).bind fun u11 => (((ixC mixed1 at')).bind fun u10 => Rs.ok (u10 / 5)).bind fun u12 => Rs.ok (u11 + u12)).bind fun u13 => Rs.ok u13).bind fun u14 => Rs.ok (u14 % 65536)).bind fun u_ => (pushC s.2.2 u_).bind fun numbers2 =>
  (Rs.ok (s.1, mixed1, numbers2))))))) (fun k s => s.1.length = rest.length ∧ s.2.1.length = rest.length ∧ s.2.2.length = k ∧ ∀ x ∈ s.2.2, 0 ≤ x ∧ x < 65536) (s := (rest, rest.map fun c => (c * 48271 + 11) % 2147483647, [])) ⟨rfl, by simp, rfl, fun x h => nomatch h⟩ (by
    intro k s hk ⟨j1, j2, j3, j4⟩
    obtain ⟨r, m, n⟩ := s
    replace j1 : r.length = rest.length := j1
    replace j2 : m.length = rest.length := j2
    replace j3 : n.length = k := j3
    replace j4 : ∀ x ∈ n, 0 ≤ x ∧ x < 65536 := j4
    have hpos : (0 : Int) < lenI r := by unfold lenI; omega
    have a0 : 0 ≤ (k : Int) % lenI r := Int.emod_nonneg _ (by omega)
    have a1 : (k : Int) % lenI r < lenI r := Int.emod_lt_of_pos _ hpos
    have a2 : (k : Int) % lenI r < r.length := a1
    show ∃ s', ((modC (k : Int) (lenI r)).bind _) = _ ∧ _
    rw [mod_ok hpos, ok_bind]
    generalize (k : Int) % lenI r = at' at *
    have e1 := ix_d (xs := r) (0 : Int) a0 a2
    have e2 := ix_d (xs := m) (0 : Int) a0 (by omega)
    have hp : ∀ z : Int, 0 ≤ z % 65536 ∧ z % 65536 < 65536 := fun z => ⟨Int.emod_nonneg _ (by decide), Int.emod_lt_of_pos _ (by decide)⟩
    have hq : ∀ z : Int, ∀ x ∈ n ++ [z % 65536], 0 ≤ x ∧ x < 65536 := by
      intro z x hx
      rcases List.mem_append.mp hx with h | h
      · exact j4 x h
      · rw [List.mem_singleton.mp h]; exact hp z
    by_cases hc : r.getD at'.toNat 0 ≥ 1000000000000000000
    · refine ⟨(r.set at'.toNat (r.getD at'.toNat 0 / 65536), m, n ++ [r.getD at'.toNat 0 % 65536]), ?_, by simp [j1], j2, by simp [j3], hq _⟩
      simp only [e1, ok_bind, qu_ok, decide_eq_true hc, if_true]
      rw [push_ok (by omega), ok_bind, set_ok a0 a2, ok_bind]
    · have e3 : ∀ z, ixC (m.set at'.toNat z) at' = .ok ((m.set at'.toNat z).getD at'.toNat 0) := fun z => ix_d (0 : Int) a0 (by rw [List.length_set]; omega)
      refine ⟨(r, m.set at'.toNat ((m.getD at'.toNat 0 * 16807 + 12345 + 7919 * k) % 2147483647), n ++ [(r.getD at'.toNat 0 + (m.set at'.toNat ((m.getD at'.toNat 0 * 16807 + 12345 + 7919 * k) % 2147483647)).getD at'.toNat 0 / 5) % 65536]), ?_, j1, by simp [j2], by simp [j3], hq _⟩
      simp only [e1, e2, ok_bind, qu_ok, decide_eq_false hc, Bool.false_eq_true, if_false]
      rw [set_ok a0 (by omega), ok_bind]
      simp only [e3, ok_bind]
      rw [push_ok (by omega), ok_bind])
  exact ⟨s.2.2, ⟨i3, i4⟩, by rw [hs]; rfl⟩
theorem Nums.at_ {ns : List Int} {many : Nat} (h : Nums ns many) {i : Int} (h0 : 0 ≤ i) (h1 : i < many) : ∃ v, ixC ns i = .ok v ∧ 0 ≤ v ∧ v < 65536 := by
  have := h.len
  refine ⟨_, ix_d (0 : Int) h0 (by omega), ?_⟩
  exact h.bd _ (gD_mem (by omega))
end Q

set_option Elab.async false
set_option linter.all false
set_option maxRecDepth 100000
set_option maxHeartbeats 4000000
namespace Q
open PySem PySem.Spec PyProof.Rows L2 Z R QF
variable {K : PySem.W.Frag} {mg : Str → Option Value} (T : Tx K mg)
theorem asc_upto (m : Nat) : Asc m (upto m) := ⟨by unfold upto; exact List.Pairwise.map _ (fun a b h => by omega) List.pairwise_lt_range, fun x hx => mem_upto.mp hx⟩
theorem Asc.filter {m : Nat} {l : List Int} (a : Asc m l) (c : Int → Bool) : Asc m (l.filter c) := ⟨a.so.sublist List.filter_sublist, fun x hx => a.bd x (List.mem_filter.mp hx).1⟩
theorem asc_sort {m : Nat} {l : List Int} (hn : l.Nodup) (hb : ∀ x ∈ l, 0 ≤ x ∧ x < m) : Asc m (sortT (OrdE.lt (E := eI)) l) := by
  have hp := List.mergeSort_perm l (fun a b => !OrdE.lt (E := eI) b a)
  have hs : (sortT (OrdE.lt (E := eI)) l).Pairwise fun a b => (!OrdE.lt (E := eI) b a) = true := List.pairwise_mergeSort (fun a b c h1 h2 => by
    have h1 : (!decide (b < a)) = true := h1
    have h2 : (!decide (c < b)) = true := h2
    show (!decide (c < a)) = true
    simp at h1 h2 ⊢
    omega) (fun a b => by
    show ((!decide (b < a)) || (!decide (a < b))) = true
    by_cases h : b < a
    · rw [decide_eq_true h, decide_eq_false (show ¬ a < b by omega)]; rfl
    · rw [decide_eq_false h]; rfl) l
  have hnd : (sortT (OrdE.lt (E := eI)) l).Nodup := hp.nodup_iff.mpr hn
  refine ⟨?_, fun x hx => hb x (hp.mem_iff.mp hx)⟩
  refine (hs.and hnd).imp fun {a b} h => ?_
  have h1 : (!decide (b < a)) = true := h.1
  simp at h1
  have h2 := h.2
  omega
theorem sets_ok {ns : List Int} (N : Nums ns 90) : ∃ (m : Nat) (S : List St), m_law_sets ns 10 8 9 = .ok ((m : Int), S) ∧ Sts m S := by
  obtain ⟨v0, a0, b0, c0⟩ := N.at_ (i := 10) (by decide) (by decide)
  obtain ⟨v1, a1, b1, c1⟩ := N.at_ (i := 10 + 1) (by decide) (by decide)
  obtain ⟨v2, a2, b2, c2⟩ := N.at_ (i := 10 + 54) (by decide) (by decide)
  obtain ⟨v3, a3, b3, c3⟩ := N.at_ (i := 10 + 55) (by decide) (by decide)
  obtain ⟨m, hm⟩ : ∃ m : Nat, (m : Int) = 1 + v0 % 8 := ⟨(1 + v0 % 8).toNat, by omega⟩
  have hm6 : 1 ≤ m ∧ m ≤ 8 := by omega
  obtain ⟨n, hn⟩ : ∃ n : Nat, (n : Int) = 1 + v1 % 9 := ⟨(1 + v1 % 9).toNat, by omega⟩
  have hn7 : 1 ≤ n ∧ n ≤ 9 := by omega
  unfold m_law_sets
  rw [a0, ok_bind, ok_bind, mod_ok (by decide), ok_bind, ok_bind, ← hm, ok_bind, a1, ok_bind, ok_bind, mod_ok (by decide), ok_bind, ok_bind, ← hn, rng_up (show n < 4611686018427387904 by omega), ok_bind]
  obtain ⟨S, hS, i1, i2⟩ := for_upto (n := n) (f := fun (k : Int) (sets1 : (List ((List Int) × Int))) =>
  ((((ixC ns ((10 + 2) + k))).bind fun u7 => Rs.ok u7).bind fun drawn =>
  (((rng1C (m : Int)).bind fun xs_ => lcM (β := Int) xs_ (fun (one : Int) => ((((((ixC ns ((10 + 14) + ((one + (5 * k)) % 40)))).bind fun u8 => Rs.ok u8).bind fun u9 => (divC u9 (1 + (drawn % 7)))).bind fun u10 => Rs.ok (u10 % 5)).bind fun u11 => Rs.ok (decide (u11 < 2)))) (fun (one : Int) => (Rs.ok one))).bind fun members =>
  (((((ixC ([0, 1, 2, 3, 4, 6, 12, 60] : List Int) ((drawn / 7) % 8))).bind fun u12 => Rs.ok (u12 + ((drawn / 56) % 3))).bind fun u13 => .ok (members, u13)).bind fun u_ => (pushC sets1 u_).bind fun sets2 =>
  (Rs.ok sets2))))) (s := []) (fun k S => S.length = k ∧ ∀ s ∈ S, Asc m s.1 ∧ 0 ≤ s.2 ∧ s.2 ≤ 1000) ⟨rfl, fun s h => nomatch h⟩ (by
    intro k S hk ⟨i1, i2⟩
    obtain ⟨d, e1, d0, d1⟩ := N.at_ (i := 10 + 2 + (k : Int)) (by omega) (by omega)
    rw [e1, ok_bind, ok_bind, rng_up (by omega), ok_bind]
    rw [lc_flt (fun one => decide (ns.getD ((10 : Int) + 14 + (one + 5 * (k : Int)) % 40).toNat 0 / (1 + d % 7) % 5 < 2)) (fun e => e) (by rw [upto_len]; omega) (by
      intro one h1
      have h1 := mem_upto.mp h1
      have hl := N.len
      refine ⟨?_, rfl⟩
      rw [ix_d (0 : Int) (by omega) (by omega), ok_bind, ok_bind, div_ok (by omega) (by omega), ok_bind, ok_bind]), ok_bind, List.map_id']
    obtain ⟨x, hx, hx0, hx1⟩ : ∃ x, ixC ([0, 1, 2, 3, 4, 6, 12, 60] : List Int) ((d / 7) % 8) = .ok x ∧ 0 ≤ x ∧ x ≤ 60 := by
      refine ⟨_, ix_d (0 : Int) (by omega) (by show _ < (8 : Int); omega), ?_⟩
      have : ∀ i : Nat, i < 8 → 0 ≤ ([0, 1, 2, 3, 4, 6, 12, 60] : List Int).getD i 0 ∧ ([0, 1, 2, 3, 4, 6, 12, 60] : List Int).getD i 0 ≤ 60 := by decide
      exact this _ (by omega)
    rw [hx, ok_bind, ok_bind, ok_bind, push_ok (by omega), ok_bind]
    refine ⟨_, rfl, by rw [List.length_append, i1]; rfl, ?_⟩
    intro s hs
    rcases List.mem_append.mp hs with h | h
    · exact i2 s h
    · rw [List.mem_singleton.mp h]
      exact ⟨(asc_upto m).filter _, by show 0 ≤ x + _; omega, by show x + _ ≤ 1000; omega⟩)
  rw [hS, ok_bind]
  have H : Sts m S := ⟨hm6.1, hm6.2, by omega, by omega, fun s hs => (i2 s hs).1, fun s hs => (i2 s hs).2⟩
  rw [a2, ok_bind, ok_bind, ok_bind, ok_bind]
  cases decide (v2 % 4 > 0) with
  | false => exact ⟨m, S, rfl, H⟩
  | true =>
    rw [if_pos rfl, rng_up (by omega), ok_bind]
    rw [lc_flt (fun e => !S.any fun s => decide (e ∈ s.1)) (fun e => e) (by rw [upto_len]; omega) (fun e he => ⟨by rw [lc_flt (fun s : St => decide (e ∈ s.1)) (fun _ => (1 : Int)) (by omega) (fun _ _ => ⟨rfl, rfl⟩), qu_ok, ok_bind, ok_bind, len_fm, filter_none], rfl⟩), ok_bind, List.map_id', a3, ok_bind, ok_bind]
    have hls : lenI S = (n : Int) := by unfold lenI; rw [i1]
    rw [mod_ok (by omega), ok_bind]
    have k0 := Int.emod_nonneg v3 (show lenI S ≠ 0 by omega)
    have k1 := Int.emod_lt_of_pos v3 (show 0 < lenI S by omega)
    generalize v3 % lenI S = k at *
    have hmem := gt_mem k0 k1
    have asc := H.asc _ hmem
    have hl := asc.len
    have hfl := List.length_filter_le (fun e => !S.any fun s => decide (e ∈ s.1)) (upto m)
    rw [upto_len] at hfl
    rw [ix_gt k0 k1, ok_bind, ok_bind, cat_ok (by omega), ok_bind, ok_bind, ok_bind, ok_bind, ok_bind, qu_ok, ok_bind, set_ok k0 k1, ok_bind, ok_bind]
    refine ⟨m, _, rfl, H.m1, H.m6, by rw [List.length_set]; omega, by rw [List.length_set]; omega, ?_, ?_⟩
    · intro s hs
      rcases List.mem_or_eq_of_mem_set hs with h | h
      · exact H.asc s h
      · rw [h]
        refine asc_sort ?_ ?_
        · refine List.nodup_append.mpr ⟨asc.nodup, ((asc_upto m).filter _).nodup, ?_⟩
          intro x hx y hy e
          subst e
          have := (List.mem_filter.mp hy).2
          rw [Bool.not_eq_true'] at this
          have h2 : (S.any fun s => decide (x ∈ s.1)) = true := List.any_eq_true.mpr ⟨_, hmem, decide_eq_true hx⟩
          rw [this] at h2
          cases h2
        · intro x hx
          rcases List.mem_append.mp hx with h | h
          · exact asc.bd x h
          · exact mem_upto.mp (List.mem_filter.mp h).1
    · intro s hs
      rcases List.mem_or_eq_of_mem_set hs with h | h
      · exact H.pr s h
      · rw [h]; exact H.pr (gt S k) hmem
end Q

set_option Elab.async false
set_option linter.all false
set_option maxRecDepth 100000
set_option maxHeartbeats 4000000
namespace Q
open PySem PySem.Spec PyProof.Rows L2 Z R QF
variable {K : PySem.W.Frag} {mg : Str → Option Value} (T : Tx K mg)
abbrev Sh := List (Option (Int × Int))
def sa (sh : Sh) (e : Int) : Option (Int × Int) := sh.getD e.toNat none
def ca (cv : List Bool) (e : Int) : Bool := cv.getD e.toNat false
def fr (S : List St) (sh : Sh) (k : Int) : List Int := (gt S k).1.filter fun e => (sa sh e).isNone
def ltB (best : Option (Int × Int × Int)) (p l : Int) : Bool := match best with
  | none => true
  | some b => decide (p * b.2.1 < b.1 * l)
def cnd (S : List St) (sh : Sh) (best : Option (Int × Int × Int)) (k : Int) : Bool := decide (lenI (fr S sh k) > 0) && ltB best (gt S k).2 (lenI (fr S sh k))
def stepP (S : List St) (sh : Sh) (best : Option (Int × Int × Int)) (k : Int) : Option (Int × Int × Int) := if cnd S sh best k = true then some ((gt S k).2, lenI (fr S sh k), k) else best
theorem step_t {S : List St} {sh : Sh} {best : Option (Int × Int × Int)} {k : Int} (h : cnd S sh best k = true) : stepP S sh best k = some ((gt S k).2, lenI (fr S sh k), k) := if_pos h
theorem step_f {S : List St} {sh : Sh} {best : Option (Int × Int × Int)} {k : Int} (h : ¬ cnd S sh best k = true) : stepP S sh best k = best := if_neg h
def pickN (S : List St) (sh : Sh) (j : Nat) : Option (Int × Int × Int) := (upto j).foldl (stepP S sh) none
theorem pickN_succ {S : List St} {sh : Sh} {j : Nat} : pickN S sh (j + 1) = stepP S sh (pickN S sh j) (j : Int) := by
  unfold pickN
  rw [upto_succ, List.foldl_append]; rfl
structure Pk (S : List St) (sh : Sh) (j : Nat) (b : Int × Int × Int) : Prop where
  k0 : 0 ≤ b.2.2
  k1 : b.2.2 < j
  pr : b.1 = (gt S b.2.2).2
  ln : b.2.1 = lenI (fr S sh b.2.2)
  ps : 0 < b.2.1
theorem pickN_is {S : List St} {sh : Sh} : ∀ (j : Nat) {b}, pickN S sh j = some b → Pk S sh j b
  | 0, b, h => by cases h
  | j + 1, b, h => by
    rw [pickN_succ] at h
    by_cases hc : cnd S sh (pickN S sh j) (j : Int) = true
    · rw [step_t hc] at h
      unfold cnd at hc
      rw [Bool.and_eq_true] at hc
      cases h
      exact ⟨by show (0 : Int) ≤ j; omega, by show (j : Int) < ((j + 1 : Nat) : Int); omega, rfl, rfl, of_decide_eq_true hc.1⟩
    · rw [step_f hc] at h
      have p := pickN_is j h
      exact ⟨p.k0, by have := p.k1; omega, p.pr, p.ln, p.ps⟩
section
variable {m : Nat} {S : List St}
theorem fr_len (H : Sts m S) {sh : Sh} {k : Int} (h0 : 0 ≤ k) (h1 : k < lenI S) : (fr S sh k).length ≤ 8 := by
  have := (H.asc _ (gt_mem h0 h1)).len
  have h6 := H.m6
  have := List.length_filter_le (fun e => (sa sh e).isNone) (gt S k).1
  unfold fr; omega
theorem lpick_ok (H : Sts m S) {sh : Sh} (hl : sh.length = m) : forR (fun (k : Int) (best : (Option (Int × Int × Int))) =>
  (((((ixC S k)).bind fun u => Rs.ok u.1).bind fun xs_ => lcM (β := Int) xs_ (fun (one : Int) => (((ixC sh one)).bind fun u1 => Rs.ok u1.isNone)) (fun (one : Int) => (Rs.ok one))).bind fun fresh =>
  ((if (decide ((lenI fresh) > 0)) = true then (if best.isNone = true then Rs.ok true else (((((ixC S k)).bind fun u2 => Rs.ok u2.2).bind fun u4 => ((theO best).bind fun u3 => Rs.ok u3.2.1).bind fun u5 => (mulC u4 u5)).bind fun u8 => (((theO best).bind fun u6 => Rs.ok u6.1).bind fun u7 => (mulC u7 (lenI fresh))).bind fun u9 => Rs.ok (decide (u8 < u9)))) else Rs.ok false).bind fun c => if c = true then
  ((((((ixC S k)).bind fun u10 => Rs.ok u10.2).bind fun u11 => .ok (u11, (lenI fresh), k)).bind fun o_ => Rs.ok (some o_)).bind fun best1 =>
  (Rs.ok best1))
  else (Rs.ok best)))) (upto S.length) none = .ok (pickN S sh S.length) := by
  have h6 := H.m6
  refine rt_val (rt_imp (rt_forU (fun j (b : Option (Int × Int × Int)) => b = pickN S sh j) rfl ?_) fun b h => h)
  rintro k best hk rfl
  have k0 : (0 : Int) ≤ k := by omega
  have k1 : (k : Int) < lenI S := by unfold lenI; omega
  have hf := fr_len H (sh := sh) k0 k1
  have hp := H.pr _ (gt_mem k0 k1)
  rw [ix_gt k0 k1, ok_bind, ok_bind]
  have ha := H.asc _ (gt_mem k0 k1)
  have hal := ha.len
  refine rt_eq (a := fr S sh (k : Int)) (by
    rw [lc_flt (fun e => (sa sh e).isNone) (fun e => e) (by omega) fun e he => ⟨by
      have := ha.bd e he
      rw [ix_d none this.1 (by omega), ok_bind]; rfl, rfl⟩, List.map_id']; rfl) ?_
  rw [pickN_succ]
  have hc : Rt (if (decide ((lenI (fr S sh (k : Int))) > 0)) = true then (if (pickN S sh k).isNone = true then Rs.ok true else (((Rs.ok (gt S (k : Int)).2).bind fun u4 => ((theO (pickN S sh k)).bind fun u3 => Rs.ok u3.2.1).bind fun u5 => (mulC u4 u5)).bind fun u8 => (((theO (pickN S sh k)).bind fun u6 => Rs.ok u6.1).bind fun u7 => (mulC u7 (lenI (fr S sh (k : Int))))).bind fun u9 => Rs.ok (decide (u8 < u9)))) else Rs.ok false) fun c => c = cnd S sh (pickN S sh k) (k : Int) := by
    unfold cnd
    by_cases h0 : lenI (fr S sh (k : Int)) > 0
    · rw [decide_eq_true h0, if_pos rfl]
      cases hb : pickN S sh k with
      | none => exact rt_ok rfl
      | some b =>
        have pk := pickN_is k hb
        have hfb := fr_len H (sh := sh) pk.k0 (by have := pk.k1; unfold lenI; omega)
        have hln := pk.ln
        unfold lenI at hln
        rw [if_neg (show ¬ (some b).isNone = true from fun z => nomatch z), show theO (some b) = Rs.ok b from rfl, ok_bind, ok_bind, ok_bind, mul_r (by omega), ok_bind, ok_bind, ok_bind, mul_r (by unfold lenI; omega), ok_bind]
        exact rt_ok rfl
    · rw [decide_eq_false h0, if_neg (fun z => nomatch z)]; exact rt_ok rfl
  refine rt_bind hc fun c hcc => ?_
  cases c with
  | true => rw [if_pos rfl, ok_bind, ok_bind, ok_bind, ok_bind, step_t hcc.symm]; exact rt_ok rfl
  | false => rw [step_f (by rw [← hcc]; exact fun z => nomatch z)]; exact rt_ok rfl
def toB (S : List St) (sh : Sh) : Option (Int × Int × Int) → Option ((Int × Int) × Int × List Int)
  | none => none
  | some b => some (F (b.1 * (840 / b.2.1)), b.2.2, fr S sh b.2.2)
theorem share_lt {p q a b : Int} (ha : 1 ≤ a) (ha8 : a ≤ 8) (hb : 1 ≤ b) (hb8 : b ≤ 8) : p * (840 / a) < q * (840 / b) ↔ p * b < q * a := by
  obtain ⟨x, rfl⟩ : ∃ x : Nat, a = (x : Int) := ⟨a.toNat, by omega⟩
  obtain ⟨y, rfl⟩ : ∃ y : Nat, b = (y : Int) := ⟨b.toNat, by omega⟩
  have h1 := d840 (n := x) (by omega) (by omega)
  have h2 := d840 (n := y) (by omega) (by omega)
  generalize (840 : Int) / (x : Int) = u at *
  generalize (840 : Int) / (y : Int) = v at *
  generalize (x : Int) = x at *
  generalize (y : Int) = y at *
  have hxy : 0 < x * y := Int.mul_pos (by omega) (by omega)
  have e1 : p * u * (x * y) = p * y * 840 := by
    have : p * u * (x * y) = p * y * (u * x) := by grind
    rw [this, h1]
  have e2 : q * v * (x * y) = q * x * 840 := by
    have : q * v * (x * y) = q * x * (v * y) := by grind
    rw [this, h2]
  constructor
  · intro h
    have := Int.mul_lt_mul_of_pos_right h hxy
    omega
  · intro h
    have : p * u * (x * y) < q * v * (x * y) := by omega
    exact Int.lt_of_mul_lt_mul_right this (Int.le_of_lt hxy)
theorem cheap_ok (H : Sts m S) {sh : Sh} {cv : List Bool} (hl : sh.length = m) (hc : cv.length = m) (hr : ∀ e : Int, 0 ≤ e → e < m → ca cv e = (sa sh e).isSome) : m_cheapest_set T S cv = .ok (toB S sh (pickN S sh S.length)) := by
  have h6 := H.m6
  unfold m_cheapest_set
  refine rt_val (rt_bind (rt_for (fun pre (b : Option ((Int × Int) × Int × List Int)) => b = toB S sh (pickN S sh pre.length)) rfl ?_) fun b h => rt_ok ?_)
  · rintro pre p suf best e rfl
    have hel : (enumL S).length = S.length := by unfold enumL; simp
    have hq : pre.length < S.length := by rw [← hel, e]; simp
    have hp2 : p = ((pre.length : Int), gt S (pre.length : Int)) := by
      have : (enumL S)[pre.length]? = some p := by rw [e, List.getElem?_append_right (Nat.le_refl _), Nat.sub_self]; rfl
      unfold enumL at this
      rw [List.getElem?_map, List.getElem?_zipIdx, List.getElem?_eq_getElem hq] at this
      simp at this
      unfold gt
      rw [List.getD_eq_getElem?_getD, Int.toNat_natCast, List.getElem?_eq_getElem hq]
      exact this.symm
    subst hp2
    have k0 : (0 : Int) ≤ pre.length := by omega
    have k1 : (pre.length : Int) < lenI S := by unfold lenI; omega
    have hf := fr_len H (sh := sh) k0 k1
    have ha := H.asc _ (gt_mem k0 k1)
    have hal := ha.len
    refine rt_eq (a := fr S sh (pre.length : Int)) (by
      rw [lc_flt (fun e => (sa sh e).isNone) (fun e => e) (by show (gt S (pre.length : Int)).1.length ≤ _; omega) fun e he => ⟨by
        have hb := ha.bd e he
        have := hr e hb.1 hb.2
        rw [ix_d false hb.1 (by omega), ok_bind]
        show Rs.ok (!(ca cv e)) = _
        rw [this]
        cases sa sh e <;> rfl, rfl⟩, List.map_id']; rfl) ?_
    rw [List.length_append, List.length_singleton, pickN_succ]
    by_cases h0 : fr S sh (pre.length : Int) = []
    · rw [if_neg (by rw [h0]; exact fun z => nomatch z)]
      refine rt_ok ?_
      rw [step_f (by unfold cnd; rw [h0]; exact fun z => nomatch z)]
    · have hlp : 0 < (fr S sh (pre.length : Int)).length := List.length_pos_iff.mpr h0
      rw [if_pos (by cases hh : fr S sh (pre.length : Int) with | nil => exact absurd hh h0 | cons _ _ => rfl)]
      refine rt_eq (a := F ((gt S (pre.length : Int)).2 * (840 / lenI (fr S sh (pre.length : Int))))) (share_ok T _ hlp hf) ?_
      have hgt : decide (lenI (fr S sh (pre.length : Int)) > 0) = true := decide_eq_true (by unfold lenI; omega)
      have hcn : ∀ b, cnd S sh b (pre.length : Int) = ltB b (gt S (pre.length : Int)).2 (lenI (fr S sh (pre.length : Int))) := fun b => by unfold cnd; rw [hgt, Bool.true_and]
      cases hb : pickN S sh pre.length with
      | none =>
        rw [show (toB S sh none).isNone = true from rfl, if_pos rfl, ok_bind, if_pos rfl, ok_bind, step_t (hcn none)]
        exact rt_ok rfl
      | some b =>
        have pk := pickN_is _ hb
        have hfb := fr_len H (sh := sh) pk.k0 (by have := pk.k1; unfold lenI; omega)
        have hln := pk.ln
        have hps := pk.ps
        unfold lenI at hln
        rw [show (toB S sh (some b)).isNone = false from rfl, if_neg (fun z => nomatch z), show theO (toB S sh (some b)) = Rs.ok (F (b.1 * (840 / b.2.1)), b.2.2, fr S sh b.2.2) from rfl, ok_bind, ok_bind, less_ok, ok_bind]
        have hd : decide ((gt S (pre.length : Int)).2 * (840 / lenI (fr S sh (pre.length : Int))) < b.1 * (840 / b.2.1)) = decide ((gt S (pre.length : Int)).2 * b.2.1 < b.1 * lenI (fr S sh (pre.length : Int))) := decide_eq_decide.mpr (share_lt (by unfold lenI; omega) (by unfold lenI; omega) (by omega) (by omega))
        rw [hd]
        cases hdd : decide ((gt S (pre.length : Int)).2 * b.2.1 < b.1 * lenI (fr S sh (pre.length : Int))) with
        | true => rw [if_pos rfl, ok_bind, step_t ((hcn (some b)).trans hdd)]; exact rt_ok rfl
        | false => rw [if_neg (fun z => nomatch z), ok_bind, step_f (by rw [(hcn (some b)).trans hdd]; exact fun z => nomatch z)]; exact rt_ok rfl
  · have hel : (enumL S).length = S.length := by unfold enumL; simp
    rw [h, hel]
end
end Q

set_option Elab.async false
set_option linter.all false
set_option maxRecDepth 100000
set_option maxHeartbeats 4000000
namespace Q
open PySem PySem.Spec PyProof.Rows L2 Z R QF
variable {K : PySem.W.Frag} {mg : Str → Option Value} (T : Tx K mg)
theorem sa_set {sh : Sh} {z e : Int} {o : Option (Int × Int)} (h0 : 0 ≤ z) (h : z < sh.length) (he : 0 ≤ e) : sa (sh.set z.toNat o) e = if e = z then o else sa sh e := by
  unfold sa
  rw [gset (by omega)]
  by_cases q : e = z
  · subst q; rw [if_pos rfl, if_pos rfl]
  · rw [if_neg (by omega), if_neg q]
theorem ca_set {cv : List Bool} {z e : Int} {o : Bool} (h0 : 0 ≤ z) (h : z < cv.length) (he : 0 ≤ e) : ca (cv.set z.toNat o) e = if e = z then o else ca cv e := by
  unfold ca
  rw [gset (by omega)]
  by_cases q : e = z
  · subst q; rw [if_pos rfl, if_pos rfl]
  · rw [if_neg (by omega), if_neg q]
def upd2 (m : Nat) (sh : Sh) (l : List Int) (v : Int × Int) : Sh := (upto m).map fun e => if e ∈ l ∧ sa sh e = none then some v else sa sh e
theorem sa_map {m : Nat} {f : Int → Option (Int × Int)} {e : Int} (h0 : 0 ≤ e) (h1 : e < m) : sa ((upto m).map f) e = f e := by
  unfold sa
  rw [List.getD_eq_getElem?_getD, map_upto, List.getElem?_map, List.getElem?_range (by omega)]
  show f (e.toNat : Int) = f e
  rw [show ((e.toNat : Nat) : Int) = e by omega]
theorem sa_ext {m : Nat} {a b : Sh} (ha : a.length = m) (hb : b.length = m) (h : ∀ e : Int, 0 ≤ e → e < m → sa a e = sa b e) : a = b := by
  refine List.ext_getElem (by omega) fun i h1 h2 => ?_
  have := h (i : Int) (by omega) (by omega)
  unfold sa at this
  rw [List.getD_eq_getElem?_getD, List.getD_eq_getElem?_getD, Int.toNat_natCast, List.getElem?_eq_getElem h1, List.getElem?_eq_getElem h2] at this
  exact this
abbrev S3 := Sh × List Int
def turn (m : Nat) (S : List St) (s : S3) : S3 := match pickN S s.1 S.length with
  | none => s
  | some b => (upd2 m s.1 (gt S b.2.2).1 (F (b.1 * (840 / b.2.1))), s.2 ++ [b.2.2])
def turns (m : Nat) (S : List St) : Nat → S3
  | 0 => (List.replicate m none, [])
  | k + 1 => turn m S (turns m S k)
section
variable {m : Nat} {S : List St}
theorem turn_no {s : S3} (h : pickN S s.1 S.length = none) : turn m S s = s := by unfold turn; rw [h]
theorem turn_so {s : S3} {b : Int × Int × Int} (h : pickN S s.1 S.length = some b) : turn m S s = (upd2 m s.1 (gt S b.2.2).1 (F (b.1 * (840 / b.2.1))), s.2 ++ [b.2.2]) := by unfold turn; rw [h]
theorem turns_len : ∀ k, (turns m S k).1.length = m
  | 0 => List.length_replicate ..
  | k + 1 => by
    show (turn m S (turns m S k)).1.length = m
    cases h : pickN S (turns m S k).1 S.length with
    | none => rw [turn_no h]; exact turns_len k
    | some b => rw [turn_so h]; show (List.map _ (upto m)).length = m; rw [List.length_map, upto_len]
theorem turns_fix {k : Nat} (h : pickN S (turns m S k).1 S.length = none) : ∀ j, turns m S (k + j) = turns m S k
  | 0 => rfl
  | j + 1 => by
    show turn m S (turns m S (k + j)) = _
    rw [turns_fix h j, turn_no h]
theorem turns_tk : ∀ k, (turns m S k).2.length ≤ k ∧ ∀ x ∈ (turns m S k).2, 0 ≤ x ∧ x < lenI S
  | 0 => ⟨Nat.le_refl _, fun x h => nomatch h⟩
  | k + 1 => by
    obtain ⟨h1, h2⟩ := turns_tk k
    show (turn m S (turns m S k)).2.length ≤ k + 1 ∧ ∀ x ∈ (turn m S (turns m S k)).2, 0 ≤ x ∧ x < lenI S
    cases h : pickN S (turns m S k).1 S.length with
    | none => rw [turn_no h]; exact ⟨by omega, h2⟩
    | some b =>
      rw [turn_so h]
      have pk := pickN_is _ h
      refine ⟨by show (_ ++ [_]).length ≤ k + 1; rw [List.length_append, List.length_singleton]; omega, fun x hx => ?_⟩
      rcases List.mem_append.mp hx with hx | hx
      · exact h2 x hx
      · rw [List.mem_singleton.mp hx]
        exact ⟨pk.k0, by have := pk.k1; unfold lenI; omega⟩
def cvn (m : Nat) (sh : Sh) : Nat := ((upto m).filter fun e => (sa sh e).isSome).length
theorem cvn_le {sh : Sh} : cvn m sh ≤ m := by
  have := List.length_filter_le (fun e => (sa sh e).isSome) (upto m)
  rw [upto_len] at this; exact this
theorem turn_more (H : Sts m S) {s : S3} {b : Int × Int × Int} (h : pickN S s.1 S.length = some b) : cvn m s.1 < cvn m (turn m S s).1 := by
  rw [turn_so h]
  have pk := pickN_is _ h
  have k1 : b.2.2 < lenI S := by have := pk.k1; unfold lenI; omega
  have ha := H.asc _ (gt_mem pk.k0 k1)
  have hp := pk.ps
  have hln := pk.ln
  unfold lenI at hln
  obtain ⟨e, he⟩ := List.exists_mem_of_length_pos (l := fr S s.1 b.2.2) (by omega)
  obtain ⟨e1, e2⟩ := List.mem_filter.mp he
  have hb := ha.bd e e1
  have hn : sa s.1 e = none := by cases hh : sa s.1 e with | none => rfl | some _ => rw [hh] at e2; cases e2
  have hsub : ((upto m).filter fun e => (sa s.1 e).isSome) = ((upto m).filter fun e => (sa (upd2 m s.1 (gt S b.2.2).1 (F (b.1 * (840 / b.2.1)))) e).isSome).filter fun e => (sa s.1 e).isSome := by
    rw [List.filter_filter]
    refine List.filter_congr fun x hx => ?_
    obtain ⟨x0, x1⟩ := mem_upto.mp hx
    unfold upd2
    rw [sa_map x0 x1]
    cases hh : sa s.1 x with
    | none => rfl
    | some v => rw [if_neg (fun z => nomatch z.2)]; rfl
  unfold cvn
  rw [hsub]
  refine Nat.lt_of_le_of_ne (List.length_filter_le _ _) fun z => ?_
  have := List.filter_sublist.eq_of_length z
  have hm : e ∈ (upto m).filter fun e => (sa (upd2 m s.1 (gt S b.2.2).1 (F (b.1 * (840 / b.2.1)))) e).isSome := List.mem_filter.mpr ⟨mem_upto.mpr hb, by
    unfold upd2
    rw [sa_map hb.1 hb.2, if_pos ⟨e1, hn⟩]; rfl⟩
  rw [← this] at hm
  have := (List.mem_filter.mp hm).2
  rw [hn] at this; cases this
theorem turns_fr {k : Nat} (H : Sts m S) (h : ∀ j, j < k → pickN S (turns m S j).1 S.length ≠ none) : k ≤ cvn m (turns m S k).1 := by
  induction k with
  | zero => exact Nat.zero_le _
  | succ k ih =>
    have h1 := ih fun j hj => h j (by omega)
    cases hp : pickN S (turns m S k).1 S.length with
    | none => exact absurd hp (h k (by omega))
    | some b =>
      have := turn_more H hp
      show k + 1 ≤ cvn m (turn m S (turns m S k)).1
      omega
def coverOf (m : Nat) (S : List St) : Option (List Int × Int × Sh) := if none ∈ (turns m S m).1 then none else some ((turns m S m).2, ((turns m S m).2.map fun k => (gt S k).2).sum, (turns m S m).1)
theorem mem_none {sh : Sh} (hl : sh.length = m) : none ∈ sh ↔ ∃ e : Int, (0 ≤ e ∧ e < m) ∧ sa sh e = none := by
  constructor
  · intro h
    obtain ⟨i, hi, e⟩ := List.getElem_of_mem h
    refine ⟨(i : Int), by omega, ?_⟩
    unfold sa
    rw [List.getD_eq_getElem?_getD, Int.toNat_natCast, List.getElem?_eq_getElem hi, e]; rfl
  · rintro ⟨e, he, h⟩
    have hi : e.toNat < sh.length := by omega
    unfold sa at h
    rw [List.getD_eq_getElem?_getD, List.getElem?_eq_getElem hi] at h
    have : sh[e.toNat] = none := h
    rw [← this]
    exact List.getElem_mem ..
theorem lset_ok (H : Sts m S) {sh : Sh} (hl : sh.length = m) {l : List Int} (hb : ∀ e ∈ l, 0 ≤ e ∧ e < m) {p n : Int} (hn : 1 ≤ n) (hn8 : n ≤ 8) : forR (fun (one1 : Int) (shares1 : (List (Option (Int × Int)))) =>
  ((((ixC shares1 one1)).bind fun u13 => Rs.ok u13.isNone).bind fun c1 => if c1 = true then
  (((m_law_lowest p n).bind fun o_ => Rs.ok (some o_)).bind fun u_ => (qu (Rs.ok one1)).bind fun z_ => (setC shares1 z_ u_).bind fun shares2 =>
  (Rs.ok shares2))
  else (Rs.ok shares1))) l sh = .ok (upd2 m sh l (F (p * (840 / n)))) := by
  have hlow : m_law_lowest p n = .ok (F (p * (840 / n))) := by
    rw [lowest_ok (by omega) (by omega)]
    refine congrArg Rs.ok (F_low (by omega) ?_)
    obtain ⟨x, rfl⟩ : ∃ x : Nat, n = (x : Int) := ⟨n.toNat, by omega⟩
    have := d840 (n := x) (by omega) (by omega)
    rw [Int.mul_assoc, this]
  refine rt_val (rt_imp (rt_for (fun pre (s : Sh) => s.length = m ∧ ∀ e : Int, 0 ≤ e → e < m → sa s e = if e ∈ pre ∧ sa sh e = none then some (F (p * (840 / n))) else sa sh e) ⟨hl, fun e _ _ => by rw [if_neg (fun z => nomatch z.1)]⟩ ?_) ?_)
  · rintro pre x suf s e ⟨i1, i2⟩
    have hx := hb x (by rw [e]; exact List.mem_append_right _ (List.mem_cons_self ..))
    have hi := i2 x hx.1 hx.2
    have hix : ixC s x = .ok (sa s x) := ix_d none hx.1 (by omega)
    rw [hix, ok_bind, ok_bind]
    cases hs : sa s x with
    | none =>
      rw [hs] at hi
      have h1 : ¬ (x ∈ pre ∧ sa sh x = none) := fun z => by rw [if_pos z] at hi; cases hi
      rw [if_neg h1] at hi
      rw [show (none : Option (Int × Int)).isNone = true from rfl, if_pos rfl, hlow, ok_bind, ok_bind, qu_ok, ok_bind, set_ok hx.1 (by omega), ok_bind]
      refine rt_ok ⟨by rw [List.length_set]; exact i1, fun y y0 y1 => ?_⟩
      rw [sa_set hx.1 (by omega) y0]
      by_cases hy : y = x
      · subst hy
        rw [if_pos rfl, if_pos ⟨by simp, hi.symm⟩]
      · rw [if_neg hy, i2 y y0 y1]
        simp [hy]
    | some v =>
      rw [show (some v).isNone = false from rfl, if_neg (fun z => nomatch z)]
      refine rt_ok ⟨i1, fun y y0 y1 => ?_⟩
      rw [i2 y y0 y1]
      by_cases hy : y = x
      · subst hy
        by_cases h2 : sa sh y = none
        · by_cases h3 : y ∈ pre
          · rw [if_pos ⟨h3, h2⟩, if_pos ⟨by simp, h2⟩]
          · rw [hs, if_neg (fun z => h3 z.1), h2] at hi; cases hi
        · rw [if_neg (fun z => h2 z.2), if_neg (fun z => h2 z.2)]
      · simp [hy]
  · rintro s ⟨i1, i2⟩
    refine sa_ext i1 (by unfold upd2; rw [List.length_map, upto_len]) fun e e0 e1 => ?_
    rw [i2 e e0 e1]
    unfold upd2
    rw [sa_map e0 e1]
theorem taken_sum {tk : List Int} (ht : tk.length ≤ 100) (hb : ∀ x ∈ tk, 0 ≤ x ∧ x < lenI S) : ((lcM (β := Int) tk (fun (k1 : Int) => (Rs.ok true)) (fun (k1 : Int) => (((ixC S k1)).bind fun u14 => Rs.ok u14.2))).bind fun u15 => Rs.ok u15.sum) = .ok (tk.map fun k => (gt S k).2).sum := by
  rw [lc_ok (fun k => (gt S k).2) (by omega) fun k hk => by rw [ix_gt (hb k hk).1 (hb k hk).2, ok_bind], ok_bind]
theorem lquick_ok (H : Sts m S) : m_law_quick (m : Int) S = .ok (coverOf m S) := by
  have h6 := H.m6
  have h7 := H.l7
  unfold m_law_quick
  rw [rep_ok (by omega), ok_bind, ok_bind, rng_up (by omega), ok_bind]
  have hll : lenI S = ((S.length : Nat) : Int) := rfl
  refine rt_val (rt_bind (rt_forU (fun k (s : S3) => s = turns m S k) rfl ?_) ?_)
  · rintro k s hk rfl
    have hl := turns_len (m := m) (S := S) k
    obtain ⟨t1, t2⟩ := turns_tk (m := m) (S := S) k
    rw [hll, rng_up (by omega), ok_bind]
    refine rt_eq (lpick_ok H hl) ?_
    show Rt _ fun s => s = turn m S (turns m S k)
    cases h : pickN S (turns m S k).1 S.length with
    | none => rw [turn_no h, if_neg (show ¬ (none : Option (Int × Int × Int)).isSome = true from fun z => nomatch z)]; exact rt_ok rfl
    | some b =>
      have pk := pickN_is _ h
      have k1 : b.2.2 < lenI S := by have := pk.k1; unfold lenI; omega
      have hf := fr_len H (sh := (turns m S k).1) pk.k0 k1
      have hln := pk.ln
      have hps := pk.ps
      unfold lenI at hln
      rw [turn_so h, if_pos (show (some b).isSome = true from rfl), show theO (some b) = Rs.ok b from rfl, ok_bind]
      refine rt_eq (push_ok (by omega)) ?_
      rw [ix_gt pk.k0 k1, ok_bind, ok_bind]
      refine rt_eq (lset_ok H hl (H.asc _ (gt_mem pk.k0 k1)).bd (by omega) (by omega)) ?_
      exact rt_ok rfl
  · rintro s rfl
    obtain ⟨t1, t2⟩ := turns_tk (m := m) (S := S) m
    unfold coverOf
    by_cases h : none ∈ (turns m S m).1
    · rw [decide_eq_true h, if_pos rfl, if_pos h]; exact rt_ok rfl
    · rw [decide_eq_false h, if_neg (fun z => nomatch z), if_neg h]
      refine rt_eq (a := ((turns m S m).2, ((turns m S m).2.map fun k => (gt S k).2).sum, (turns m S m).1)) (by
        rw [taken_sum (by omega) t2, ok_bind]) (rt_ok rfl)
end
end Q

set_option Elab.async false
set_option linter.all false
set_option maxRecDepth 100000
set_option maxHeartbeats 4000000
namespace Q
open PySem PySem.Spec PyProof.Rows L2 Z R QF
variable {K : PySem.W.Frag} {mg : Str → Option Value} (T : Tx K mg)
theorem pickN_of {S : List St} {sh : Sh} : ∀ (j : Nat), (∀ k : Nat, k < j → fr S sh (k : Int) = []) → pickN S sh j = none
  | 0, _ => rfl
  | j + 1, h => by
    rw [pickN_succ, step_f (by unfold cnd; rw [h j (by omega)]; exact fun z => nomatch z)]
    exact pickN_of j fun k hk => h k (by omega)
structure Rel (m : Nat) (sh : Sh) (cv : List Bool) (sP : Sh) : Prop where
  cl : cv.length = m
  pl : sP.length = m
  cs : ∀ e : Int, 0 ≤ e → e < m → ca cv e = (sa sh e).isSome
  ss : ∀ e : Int, 0 ≤ e → e < m → sa sP e = if (sa sh e).isSome = true then sa sh e else some (0, 1)
section
variable {m : Nat} {S : List St}
def QI (m : Nat) (S : List St) (s : List Bool × Sh × List Int) : Prop := ∃ k, (∀ j, j < k → pickN S (turns m S j).1 S.length ≠ none) ∧ Rel m (turns m S k).1 s.1 s.2.1 ∧ s.2.2 = (turns m S k).2
def un (m : Nat) (cv : List Bool) : Nat := ((upto m).filter fun e => ca cv e).length
theorem Rel.un {sh : Sh} {cv : List Bool} {sP : Sh} (r : Rel m sh cv sP) : Q.un m cv = cvn m sh := by
  unfold Q.un cvn
  congr 1
  exact List.filter_congr fun e he => r.cs e (mem_upto.mp he).1 (mem_upto.mp he).2
theorem all_iff {sh : Sh} {cv : List Bool} {sP : Sh} (r : Rel m sh cv sP) : cv.all id = true ↔ ∀ e : Int, 0 ≤ e → e < m → (sa sh e).isSome = true := by
  rw [List.all_eq_true]
  constructor
  · intro h e e0 e1
    rw [← r.cs e e0 e1]
    exact h _ (gD_mem (by have := r.cl; omega))
  · intro h x hx
    obtain ⟨i, hi, rfl⟩ := List.getElem_of_mem hx
    have := h (i : Int) (by omega) (by have := r.cl; omega)
    rw [← r.cs (i : Int) (by omega) (by have := r.cl; omega)] at this
    unfold ca at this
    rw [List.getD_eq_getElem?_getD, Int.toNat_natCast, List.getElem?_eq_getElem hi] at this
    exact this
theorem quick_ok (H : Sts m S) : m_quick_cover T (m : Int) S = .ok (coverOf m S) := by
  have h6 := H.m6
  have h7 := H.l7
  unfold m_quick_cover
  rw [need_ok T H, ok_bind, rep_ok (by omega), ok_bind, rep_ok (by omega), ok_bind, ok_bind]
  have hI0 : QI m S (List.replicate m false, List.replicate m (some (0, 1)), []) := by
    refine ⟨0, fun j hj => absurd hj (Nat.not_lt_zero _), ⟨List.length_replicate .., List.length_replicate .., fun e e0 e1 => ?_, fun e e0 e1 => ?_⟩, rfl⟩
    · show ca (List.replicate m false) e = (sa (List.replicate m none) e).isSome
      unfold ca sa
      rw [List.getD_eq_getElem?_getD, List.getD_eq_getElem?_getD, List.getElem?_replicate, List.getElem?_replicate, if_pos (by omega), if_pos (by omega)]
      rfl
    · show sa (List.replicate m (some (0, 1))) e = if (sa (List.replicate m none) e).isSome = true then _ else _
      have : sa (List.replicate m none) e = none := by
        unfold sa
        rw [List.getD_eq_getElem?_getD, List.getElem?_replicate, if_pos (by omega)]; rfl
      rw [this, if_neg (fun z => nomatch z)]
      unfold sa
      rw [List.getD_eq_getElem?_getD, List.getElem?_replicate, if_pos (by omega)]; rfl
  have key := wh_runE (QI m S) (fun s => m - un m s.1) (fun s => QI m S s ∧ s.1.all id = true) (fun o : Option (List Int × Int × Sh) => o = coverOf m S) (c := fun (s : (List Bool) × (List (Option (Int × Int))) × (List Int)) => (Rs.ok (!(s.1.all id)))) (f := (fun (s : (List Bool) × (List (Option (Int × Int))) × (List Int)) =>
  ((m_cheapest_set T S s.1).bind fun best =>
  (if best.isNone = true then
  (Rs.ok (LO.ex none))
  else ((theO best).bind fun best1 =>
  ((pushC s.2.2 best1.2.1).bind fun taken1 =>
  ((forR (fun (member : Int) (s1 : (List Bool) × (List (Option (Int × Int)))) =>
  ((setC s1.1 member true).bind fun covered1 =>
  ((setC s1.2 member (some best1.1)).bind fun shares1 =>
  (Rs.ok (covered1, shares1))))) best1.2.2 (s.1, s.2.1)).bind fun (s1 : (List Bool) × (List (Option (Int × Int)))) =>
  (Rs.ok (LO.nx (s1.1, s1.2, taken1)))))))))) (by
    rintro ⟨cv, sP, tk⟩ I
    obtain ⟨k, hk, r, ht⟩ := id I
    replace r : Rel m (turns m S k).1 cv sP := r
    replace ht : tk = (turns m S k).2 := ht
    subst ht
    obtain ⟨t1, t2⟩ := turns_tk (m := m) (S := S) k
    have hkm : k ≤ m := Nat.le_trans (turns_fr H hk) cvn_le
    by_cases hall : cv.all id = true
    · exact .inl ⟨by show Rs.ok (!(cv.all id)) = _; rw [hall]; rfl, I, hall⟩
    · refine .inr ⟨by show Rs.ok (!(cv.all id)) = _; rw [show cv.all id = false by simpa using hall]; rfl, ?_⟩
      have hch := cheap_ok T H (turns_len k) r.cl r.cs
      show (∃ s', Rs.bind (m_cheapest_set T S cv) _ = _ ∧ _) ∨ _
      rw [hch, ok_bind]
      cases hp : pickN S (turns m S k).1 S.length with
      | none =>
        refine .inr (.inr ⟨none, by rw [show (toB S (turns m S k).1 none).isNone = true from rfl, if_pos rfl], ?_⟩)
        have hfix := turns_fix hp (m - k)
        rw [show k + (m - k) = m by omega] at hfix
        unfold coverOf
        rw [hfix, if_pos]
        refine (mem_none (turns_len k)).mpr ?_
        apply Classical.byContradiction
        intro hno
        refine hall ((all_iff r).mpr fun e e0 e1 => ?_)
        cases hh : sa (turns m S k).1 e with
        | none => exact absurd ⟨e, ⟨e0, e1⟩, hh⟩ hno
        | some _ => rfl
      | some b =>
        have pk := pickN_is _ hp
        have k1 : b.2.2 < lenI S := by have := pk.k1; unfold lenI; omega
        have ha := H.asc _ (gt_mem pk.k0 k1)
        refine .inl ?_
        rw [show (toB S (turns m S k).1 (some b)).isNone = false from rfl, if_neg (fun z => nomatch z), show theO (toB S (turns m S k).1 (some b)) = Rs.ok (F (b.1 * (840 / b.2.1)), b.2.2, fr S (turns m S k).1 b.2.2) from rfl, ok_bind]
        show ∃ s', Rs.bind (pushC (turns m S k).2 b.2.2) _ = _ ∧ _
        rw [push_ok (by omega), ok_bind]
        have hfr : ∀ e, e ∈ fr S (turns m S k).1 b.2.2 ↔ e ∈ (gt S b.2.2).1 ∧ sa (turns m S k).1 e = none := fun e => by
          unfold fr
          rw [List.mem_filter]
          refine and_congr_right fun _ => ?_
          cases sa (turns m S k).1 e with
          | none => exact ⟨fun _ => rfl, fun _ => rfl⟩
          | some _ => exact ⟨(fun z => nomatch z), fun z => nomatch z⟩
        have hloop : Rt (forR (fun (member : Int) (s1 : (List Bool) × (List (Option (Int × Int)))) =>
  ((setC s1.1 member true).bind fun covered1 =>
  ((setC s1.2 member (some (F (b.1 * (840 / b.2.1))))).bind fun shares1 =>
  (Rs.ok (covered1, shares1))))) (fr S (turns m S k).1 b.2.2) (cv, sP)) fun s1 => s1.1.length = m ∧ s1.2.length = m ∧ ∀ e : Int, 0 ≤ e → e < m → ca s1.1 e = (decide (e ∈ fr S (turns m S k).1 b.2.2) || ca cv e) ∧ sa s1.2 e = if e ∈ fr S (turns m S k).1 b.2.2 then some (F (b.1 * (840 / b.2.1))) else sa sP e := by
          refine rt_for (fun pre (s1 : List Bool × Sh) => s1.1.length = m ∧ s1.2.length = m ∧ ∀ e : Int, 0 ≤ e → e < m → ca s1.1 e = (decide (e ∈ pre) || ca cv e) ∧ sa s1.2 e = if e ∈ pre then some (F (b.1 * (840 / b.2.1))) else sa sP e) ⟨r.cl, r.pl, fun e _ _ => ⟨by simp, by rw [if_neg (fun z => nomatch z)]⟩⟩ ?_
          rintro pre x suf ⟨c1, p1⟩ e ⟨i1, i2, i3⟩
          replace i1 : c1.length = m := i1
          replace i2 : p1.length = m := i2
          have hx := ha.bd x ((hfr x).mp (by rw [e]; exact List.mem_append_right _ (List.mem_cons_self ..))).1
          show Rt (Rs.bind (setC c1 x true) _) _
          refine rt_eq (set_ok hx.1 (by omega)) ?_
          refine rt_eq (set_ok hx.1 (by show x < (p1.length : Int); omega)) (rt_ok ⟨by show (c1.set _ _).length = m; rw [List.length_set]; exact i1, by show (p1.set _ _).length = m; rw [List.length_set]; exact i2, fun y y0 y1 => ?_⟩)
          obtain ⟨j1, j2⟩ := i3 y y0 y1
          replace j1 : ca c1 y = (decide (y ∈ pre) || ca cv y) := j1
          replace j2 : sa p1 y = if y ∈ pre then some (F (b.1 * (840 / b.2.1))) else sa sP y := j2
          show ca (c1.set x.toNat true) y = _ ∧ sa (p1.set x.toNat (some (F (b.1 * (840 / b.2.1))))) y = _
          rw [ca_set hx.1 (by omega) y0, sa_set hx.1 (by omega) y0]
          by_cases hy : y = x
          · subst hy; rw [if_pos rfl, if_pos rfl]; simp
          · rw [if_neg hy, if_neg hy, j1, j2]; simp [hy]
        obtain ⟨⟨c2, p2⟩, e2, l1, l2, l3⟩ := hloop
        replace l1 : c2.length = m := l1
        replace l2 : p2.length = m := l2
        have hr2 : Rel m (turns m S (k + 1)).1 c2 p2 := by
          show Rel m (turn m S (turns m S k)).1 c2 p2
          rw [turn_so hp]
          refine ⟨l1, l2, fun e e0 e1 => ?_, fun e e0 e1 => ?_⟩
          · have := (l3 e e0 e1).1
            replace this : ca c2 e = (decide (e ∈ fr S (turns m S k).1 b.2.2) || ca cv e) := this
            rw [this, r.cs e e0 e1]
            unfold upd2
            rw [sa_map e0 e1]
            by_cases h : e ∈ (gt S b.2.2).1 ∧ sa (turns m S k).1 e = none
            · rw [if_pos h, decide_eq_true ((hfr e).mpr h)]; rfl
            · rw [if_neg h, decide_eq_false (fun z => h ((hfr e).mp z)), Bool.false_or]
          · have := (l3 e e0 e1).2
            replace this : sa p2 e = if e ∈ fr S (turns m S k).1 b.2.2 then some (F (b.1 * (840 / b.2.1))) else sa sP e := this
            rw [this, r.ss e e0 e1]
            unfold upd2
            rw [sa_map e0 e1]
            by_cases h : e ∈ (gt S b.2.2).1 ∧ sa (turns m S k).1 e = none
            · rw [if_pos h, if_pos ((hfr e).mpr h)]; rfl
            · rw [if_neg h, if_neg (fun z => h ((hfr e).mp z))]
        refine ⟨(c2, p2, (turns m S k).2 ++ [b.2.2]), ?_, ⟨k + 1, fun j hj => ?_, hr2, ?_⟩, ?_⟩
        · show Rs.bind (forR _ (fr S (turns m S k).1 b.2.2) (cv, sP)) _ = _
          rw [e2, ok_bind]
        · by_cases hjk : j = k
          · rw [hjk, hp]; exact fun z => nomatch z
          · exact hk j (by omega)
        · show (turns m S k).2 ++ [b.2.2] = (turn m S (turns m S k)).2
          rw [turn_so hp]
        · show m - Q.un m c2 < m - Q.un m cv
          rw [hr2.un, r.un]
          have := turn_more H hp
          have h2 : cvn m (turns m S (k + 1)).1 ≤ m := cvn_le
          show m - cvn m (turn m S (turns m S k)).1 < _
          have h2 : cvn m (turn m S (turns m S k)).1 ≤ m := cvn_le
          omega) _ hI0
  rcases key with ⟨⟨cv, sP, tk⟩, e, ⟨k, hk, r, ht⟩, hall⟩ | ⟨o, e, rfl⟩
  · replace r : Rel m (turns m S k).1 cv sP := r
    replace ht : tk = (turns m S k).2 := ht
    replace hall : cv.all id = true := hall
    subst ht
    have hkm : k ≤ m := Nat.le_trans (turns_fr H hk) cvn_le
    have hcov := (all_iff r).mp hall
    have hp : pickN S (turns m S k).1 S.length = none := pickN_of _ fun j hj => by
      unfold fr
      rw [List.filter_eq_nil_iff]
      intro e he
      have hb := (H.asc _ (gt_mem (S := S) (k := (j : Int)) (by omega) (by unfold lenI; omega))).bd e he
      have := hcov e hb.1 hb.2
      cases hh : sa (turns m S k).1 e with
      | none => rw [hh] at this; cases this
      | some _ => exact fun z => nomatch z
    have hfix := turns_fix hp (m - k)
    rw [show k + (m - k) = m by omega] at hfix
    obtain ⟨t1, t2⟩ := turns_tk (m := m) (S := S) k
    have hsP : sP = (turns m S k).1 := sa_ext r.pl (turns_len k) fun e e0 e1 => by rw [r.ss e e0 e1, if_pos (hcov e e0 e1)]
    rw [e, bindJ_nx]
    show Rs.bind (qu ((Rs.ok (turns m S k).2).bind _)) _ = _
    rw [ok_bind, taken_sum (by omega) t2, ok_bind]
    show Rs.ok (some ((turns m S k).2, ((turns m S k).2.map fun k => (gt S k).2).sum, sP)) = _
    unfold coverOf
    rw [hfix, hsP, if_neg fun z => by
      obtain ⟨e, he, h⟩ := (mem_none (turns_len k)).mp z
      have := hcov e he.1 he.2
      rw [h] at this; cases this]
  · rw [e]; rfl
end
end Q

set_option Elab.async false
set_option linter.all false
set_option maxRecDepth 100000
set_option maxHeartbeats 4000000
namespace Q
open PySem PySem.Spec PyProof.Rows L2 Z R QF
variable {K : PySem.W.Frag} {mg : Str → Option Value} (T : Tx K mg)
def ascB (n : Nat) : Int → List Int → Bool
  | _, [] => true
  | last, x :: xs => (decide (last < x) && decide (x < n)) && ascB n x xs
theorem ascB_ok {n : Nat} {l : List Int} : m_is_ascending l (n : Int) = .ok (ascB n (-1) l) := by
  unfold m_is_ascending
  have key : ∀ (l : List Int) (last : Int), bindJ (forJ (fun (number : Int) (last1 : Int) =>
  (if (!(decide (last1 < number) && decide (number < (n : Int)))) = true then
  (Rs.ok (LO.ex false))
  else (Rs.ok (LO.nx number)))) l last) (fun (last1 : Int) => (Rs.ok true)) = .ok (ascB n last l) := by
    intro l
    induction l with
    | nil => intro last; rfl
    | cons x xs ih =>
      intro last
      unfold ascB
      rw [forJ]
      cases h : (decide (last < x) && decide (x < (n : Int))) with
      | true =>
        have := ih x
        rw [if_neg (by simp), ok_bind, Bool.true_and]
        exact this
      | false => rfl
  rw [ok_bind, key]
theorem isx {C D : Addr} {b : Bool} (h : C ∈ T.kn) (k : PySem.W.kitOne K (.ref C) (.ref D) = some b) : isXC K T.kn C D = .ok b := by
  unfold isXC
  rw [grd_t h, k]
  rfl
theorem refused_ok {C : Addr} {n way size : Int} {S : List St} {a b c d : Bool} (hC : C ∈ T.kn) (he : PySem.W.exmOne K (.ref C) (.ref T.c_WebError) = some true) (h1 : PySem.W.kitOne K (.ref C) (.ref T.c_OutOfRange) = some a) (h2 : PySem.W.kitOne K (.ref C) (.ref T.c_TooMany) = some b) (h3 : PySem.W.kitOne K (.ref C) (.ref T.c_BadSet) = some c) (h4 : PySem.W.kitOne K (.ref C) (.ref T.c_BadPrice) = some d) (hn : m_need_sets T size S = .ex C n) : m_law_refused T way size S = .ok (some ([a, b, c, d], n)) := by
  have e0 : m_cover_program T size S = .ex C n := by unfold m_cover_program; rw [hn]; rfl
  have e1 : m_quick_cover T size S = .ex C n := by unfold m_quick_cover; rw [hn]; rfl
  have e2 : m_cover_factor T size S = .ex C n := by unfold m_cover_factor; rw [hn]; rfl
  have e3 : m_check_shares T size S [] [] = .ex C n := by unfold m_check_shares; rw [hn]; rfl
  have e4 : m_cover_bound T size S [] = .ex C n := by unfold m_cover_bound; rw [e2]; rfl
  unfold m_law_refused
  rw [e0, e1, e2, e3, e4]
  have e : (if decide (way = 0) = true then (Rs.ex C n).bind fun (_ : Ob_Program) => Rs.ok (J.nx (α := Option ((List Bool) × Int)) ()) else if decide (way = 1) = true then (Rs.ex C n).bind fun (_ : Option ((List Int) × Int × (List (Option (Int × Int))))) => Rs.ok (J.nx ()) else if decide (way = 2) = true then (Rs.ex C n).bind fun (_ : Int × Int) => Rs.ok (J.nx ()) else if decide (way = 3) = true then (Rs.ex C n).bind fun (_ : Bool) => Rs.ok (J.nx ()) else (Rs.ex C n).bind fun (_ : Int × Int) => Rs.ok (J.nx ())) = Rs.ex C n := by
    cases decide (way = 0) <;> cases decide (way = 1) <;> cases decide (way = 2) <;> cases decide (way = 3) <;> rfl
  rw [e]
  show bindJ (hndM K T.c_WebError C _ _) _ = _
  unfold hndM
  rw [if_pos he, isx T hC h1, isx T hC h2, isx T hC h3, isx T hC h4, grd_t hC]
  rfl
theorem kn_o : T.c_OutOfRange ∈ T.kn := by unfold Tx.kn; simp
theorem kn_t : T.c_TooMany ∈ T.kn := by unfold Tx.kn; simp
theorem kn_s : T.c_BadSet ∈ T.kn := by unfold Tx.kn; simp
theorem kn_p : T.c_BadPrice ∈ T.kn := by unfold Tx.kn; simp
theorem ref_size {way size : Int} {S : List St} (h : ¬ (1 ≤ size ∧ size ≤ 40)) : m_law_refused T way size S = .ok (some ([true, false, false, false], size)) := by
  refine refused_ok T (kn_o T) T.em_OutOfRange T.is_OutOfRange_OutOfRange T.is_OutOfRange_TooMany T.is_OutOfRange_BadSet T.is_OutOfRange_BadPrice ?_
  unfold m_need_sets
  rw [if_pos]
  rw [Bool.not_eq_true', Bool.and_eq_false_iff, decide_eq_false_iff_not, decide_eq_false_iff_not]
  omega
theorem ref_many {way size : Int} {S : List St} (h : 1 ≤ size ∧ size ≤ 40) (hl : ¬ (1 ≤ lenI S ∧ lenI S ≤ 40)) : m_law_refused T way size S = .ok (some ([false, true, false, false], lenI S)) := by
  refine refused_ok T (kn_t T) T.em_TooMany T.is_TooMany_OutOfRange T.is_TooMany_TooMany T.is_TooMany_BadSet T.is_TooMany_BadPrice ?_
  unfold m_need_sets
  rw [decide_eq_true h.1, decide_eq_true h.2, if_neg (by decide), if_pos]
  rw [Bool.not_eq_true', Bool.and_eq_false_iff, decide_eq_false_iff_not, decide_eq_false_iff_not]
  omega
theorem for_ex {α : Type} {f : α → Unit → Rs Unit} {C : Addr} {n : Int} {b : α} {bs : List α} (hb : f b () = .ex C n) : ∀ as : List α, (∀ a ∈ as, f a () = .ok ()) → forR f (as ++ b :: bs) () = .ex C n
  | [], _ => by show Rs.bind (f b ()) _ = _; rw [hb]; rfl
  | a :: as, h => by
    show Rs.bind (f a ()) _ = _
    rw [h a (List.mem_cons_self ..), ok_bind]
    exact for_ex hb as fun x hx => h x (List.mem_cons_of_mem _ hx)
theorem enum_split {α : Type} {pre suf : List α} {x : α} : ∃ as bs, enumL (pre ++ x :: suf) = as ++ ((pre.length : Int), x) :: bs ∧ ∀ a ∈ as, a.2 ∈ pre := by
  unfold enumL
  rw [List.zipIdx_append, List.zipIdx_cons, List.map_append, List.map_cons]
  refine ⟨_, _, by rw [Nat.zero_add], fun a ha => ?_⟩
  obtain ⟨q, hq, rfl⟩ := List.mem_map.mp ha
  exact (List.mem_zipIdx hq).2.2 ▸ List.getElem_mem _
def okSt (m : Nat) (s : St) : Prop := ascB m (-1) s.1 = true ∧ 0 ≤ s.2 ∧ s.2 ≤ 1048576
theorem need_at {m : Nat} (h1 : 1 ≤ m) (h40 : m ≤ 40) {pre suf : List St} {x : St} (hl : (pre ++ x :: suf).length ≤ 40) (hp : ∀ s ∈ pre, okSt m s) {C : Addr} (hx : (ascB m (-1) x.1 = false ∧ C = T.c_BadSet) ∨ (ascB m (-1) x.1 = true ∧ ¬ (0 ≤ x.2 ∧ x.2 ≤ 1048576) ∧ C = T.c_BadPrice)) : m_need_sets T (m : Int) (pre ++ x :: suf) = .ex C (pre.length : Int) := by
  have hl1 : 1 ≤ lenI (pre ++ x :: suf) ∧ lenI (pre ++ x :: suf) ≤ 40 := by
    have : (pre ++ x :: suf).length = pre.length + suf.length + 1 := by rw [List.length_append, List.length_cons]; omega
    unfold lenI; omega
  unfold m_need_sets
  rw [decide_eq_true (show (1 : Int) ≤ m by omega), decide_eq_true (show (m : Int) ≤ 40 by omega), if_neg (by decide), decide_eq_true hl1.1, decide_eq_true hl1.2, if_neg (by decide)]
  obtain ⟨as, bs, e, ha⟩ := enum_split (pre := pre) (suf := suf) (x := x)
  rw [e, for_ex (C := C) (n := (pre.length : Int)) (b := ((pre.length : Int), x))]
  · rfl
  · show Rs.bind (Rs.bind (m_is_ascending x.1 (m : Int)) _) _ = _
    rw [ascB_ok, ok_bind, ok_bind]
    rcases hx with ⟨h, rfl⟩ | ⟨h, h2, rfl⟩
    · rw [h]; rfl
    · rw [h, if_neg (fun z => nomatch z)]
      unfold m_is_price
      have : (decide (0 ≤ x.2) && decide (x.2 ≤ 1048576)) = false := by
        rw [Bool.and_eq_false_iff, decide_eq_false_iff_not, decide_eq_false_iff_not]; omega
      show Rs.bind (Rs.bind (Rs.ok (decide (0 ≤ x.2) && decide (x.2 ≤ 1048576))) _) _ = _
      rw [this]; rfl
  · intro a hm
    obtain ⟨g1, g2, g3⟩ := hp _ (ha a hm)
    rw [ascB_ok, g1, ok_bind, ok_bind, if_neg (fun z => nomatch z)]
    unfold m_is_price
    rw [decide_eq_true g2, decide_eq_true g3]; rfl
theorem ref_set {m : Nat} {way : Int} (h1 : 1 ≤ m) (h40 : m ≤ 40) {pre suf : List St} {x : St} (hl : (pre ++ x :: suf).length ≤ 40) (hp : ∀ s ∈ pre, okSt m s) (hx : ascB m (-1) x.1 = false) : m_law_refused T way (m : Int) (pre ++ x :: suf) = .ok (some ([false, false, true, false], (pre.length : Int))) :=
  refused_ok T (kn_s T) T.em_BadSet T.is_BadSet_OutOfRange T.is_BadSet_TooMany T.is_BadSet_BadSet T.is_BadSet_BadPrice (need_at T h1 h40 hl hp (.inl ⟨hx, rfl⟩))
theorem ref_price {m : Nat} {way : Int} (h1 : 1 ≤ m) (h40 : m ≤ 40) {pre suf : List St} {x : St} (hl : (pre ++ x :: suf).length ≤ 40) (hp : ∀ s ∈ pre, okSt m s) (hx : ascB m (-1) x.1 = true) (hx2 : ¬ (0 ≤ x.2 ∧ x.2 ≤ 1048576)) : m_law_refused T way (m : Int) (pre ++ x :: suf) = .ok (some ([false, false, false, true], (pre.length : Int))) :=
  refused_ok T (kn_p T) T.em_BadPrice T.is_BadPrice_OutOfRange T.is_BadPrice_TooMany T.is_BadPrice_BadSet T.is_BadPrice_BadPrice (need_at T h1 h40 hl hp (.inr ⟨hx, hx2, rfl⟩))
theorem asc_B {m : Nat} : ∀ {l : List Int} {last : Int}, l.Pairwise (· < ·) → (∀ x ∈ l, last < x ∧ x < m) → ascB m last l = true
  | [], _, _, _ => rfl
  | x :: xs, last, h, hb => by
    obtain ⟨h1, h2⟩ := List.pairwise_cons.mp h
    have := hb x (List.mem_cons_self ..)
    unfold ascB
    rw [decide_eq_true this.1, decide_eq_true this.2, asc_B h2 fun y hy => ⟨h1 y hy, (hb y (List.mem_cons_of_mem _ hy)).2⟩]
    rfl
theorem sts_ok {m : Nat} {S : List St} (H : Sts m S) : ∀ s ∈ S, okSt m s := fun s hs => by
  have ha := H.asc s hs
  have hp := H.pr s hs
  exact ⟨asc_B ha.so fun x hx => by have := ha.bd x hx; omega, by omega, by omega⟩
theorem bad4 {m : Nat} (h1 : 1 ≤ m) {i : Int} (i0 : 0 ≤ i) (i1 : i < 4) : ∃ b : St, ixC ([(([(m : Int)] : List Int), 0), (([0, 0] : List Int), 1), (([(-1)] : List Int), 1), (([((m : Int) - 1), ((m : Int) - 2)] : List Int), 2)] : List ((List Int) × Int)) i = .ok b ∧ ascB m (-1) b.1 = false := by
  obtain ⟨k, rfl⟩ : ∃ k : Nat, i = (k : Int) := ⟨i.toNat, by omega⟩
  rcases k with _ | _ | _ | _ | k
  · refine ⟨_, ix_k (k := 0) ([], 0) (by simp), ?_⟩
    show ((decide ((-1 : Int) < m) && decide ((m : Int) < m)) && true) = false
    rw [decide_eq_false (show ¬ (m : Int) < m by omega), Bool.and_false]; rfl
  · refine ⟨_, ix_k (k := 1) ([], 0) (by simp), ?_⟩
    show ((decide ((-1 : Int) < 0) && decide ((0 : Int) < m)) && ((decide ((0 : Int) < 0) && decide ((0 : Int) < m)) && true)) = false
    rw [decide_eq_false (show ¬ (0 : Int) < 0 by omega), Bool.false_and, Bool.false_and, Bool.and_false]
  · refine ⟨_, ix_k (k := 2) ([], 0) (by simp), ?_⟩
    show ((decide ((-1 : Int) < -1) && decide ((-1 : Int) < m)) && true) = false
    rw [decide_eq_false (show ¬ (-1 : Int) < -1 by omega), Bool.false_and, Bool.false_and]
  · refine ⟨_, ix_k (k := 3) ([], 0) (by simp), ?_⟩
    show ((decide ((-1 : Int) < (m : Int) - 1) && decide ((m : Int) - 1 < m)) && ((decide ((m : Int) - 1 < (m : Int) - 2) && decide ((m : Int) - 2 < m)) && true)) = false
    rw [decide_eq_false (show ¬ (m : Int) - 1 < (m : Int) - 2 by omega), Bool.false_and, Bool.false_and, Bool.and_false]
  · omega
theorem cut_lo {α : Type} {l : List α} {k : Nat} : cutT l none (some (k : Int)) = l.take k := by
  unfold cutT
  rw [HT.sIx_none, HT.sIx_nat, List.drop_zero, Nat.sub_zero, ← List.take_take, List.take_length]
theorem cut_hi {α : Type} {l : List α} {k : Nat} (h : k ≤ l.length) : cutT l (some (k : Int)) none = l.drop k := by
  unfold cutT
  rw [HT.sIx_none, HT.sIx_nat, Nat.min_eq_left h]
  exact List.take_of_length_le (by rw [List.length_drop]; exact Nat.le_refl _)
theorem refusals_ok {m : Nat} {S : List St} {ns : List Int} (N : Nums ns 6) (H : Sts m S) : m_law_refusals T ns (m : Int) S = .ok true := by
  have h1 := H.m1
  have h6 := H.m6
  have l1 := H.l1
  have l7 := H.l7
  obtain ⟨v0, a0, b0, c0⟩ := N.at_ (i := 0) (by decide) (by decide)
  obtain ⟨v1, a1, b1, c1⟩ := N.at_ (i := 1) (by decide) (by decide)
  obtain ⟨v2, a2, b2, c2⟩ := N.at_ (i := 2) (by decide) (by decide)
  obtain ⟨v3, a3, b3, c3⟩ := N.at_ (i := 3) (by decide) (by decide)
  obtain ⟨bad, hb, hbad⟩ := bad4 h1 (i := v0 % 4) (by omega) (by omega)
  obtain ⟨dp, hdp, hd⟩ : ∃ dp : Int, ixC ([(-1), 1048577] : List Int) (v1 % 2) = .ok dp ∧ ¬ (0 ≤ dp ∧ dp ≤ 1048576) := by
    have : v1 % 2 = 0 ∨ v1 % 2 = 1 := by omega
    rcases this with h | h <;> rw [h]
    · exact ⟨-1, rfl, by decide⟩
    · exact ⟨1048577, rfl, by decide⟩
  obtain ⟨k, hk⟩ : ∃ k : Nat, (k : Int) = v2 % (lenI S + 1) := ⟨(v2 % (lenI S + 1)).toNat, by have := Int.emod_nonneg v2 (show lenI S + 1 ≠ 0 by unfold lenI; omega); omega⟩
  have hkl : k ≤ S.length := by have := Int.emod_lt_of_pos v2 (show 0 < lenI S + 1 by unfold lenI; omega); unfold lenI at this hk; omega
  have hok := sts_ok H
  have hdear : ascB m (-1) ([0] : List Int) = true := by
    show ((decide ((-1 : Int) < 0) && decide ((0 : Int) < m)) && true) = true
    rw [decide_eq_true (show (0 : Int) < m by omega)]; rfl
  unfold m_law_refusals
  rw [a0]
  refine rt_val (rt_eq (a := bad) hb ?_)
  refine rt_eq (a := (([0] : List Int), dp)) (by rw [a1, ok_bind, ok_bind, ok_bind, hdp, ok_bind]) ?_
  refine rt_eq (a := (k : Int)) (by rw [a2, ok_bind, ok_bind, mod_ok (by unfold lenI; omega), hk]) ?_
  refine rt_bJ (rt_forJ (fun _ _ => True) trivial ?_) fun _ _ => rt_ok rfl
  rintro pre way suf _ _ _
  refine rt_eq (a := ([0, -3, 41 + v3 % 5] : List Int)) (by rw [a3, ok_bind, ok_bind, ok_bind, ok_bind]) ?_
  refine rt_bJ (P := fun _ => True) (rt_forJ (fun _ _ => True) trivial ?_) fun _ _ => ?_
  · rintro p2 wrong s2 _ e _
    have hw : wrong ∈ ([0, -3, 41 + v3 % 5] : List Int) := by rw [e]; exact List.mem_append_right _ (List.mem_cons_self ..)
    have hw2 : ¬ (1 ≤ wrong ∧ wrong ≤ 40) := by
      simp only [List.mem_cons, List.not_mem_nil, or_false] at hw
      omega
    refine rt_eq (a := false) (by rw [ref_size T hw2, ok_bind, decide_eq_true rfl]; rfl) ?_
    rw [if_neg (fun z => nomatch z)]
    exact rt_ok ⟨(), rfl, trivial⟩
  refine rt_eq (a := false) (by rw [ref_many T (S := []) (by omega) (by unfold lenI; simp), ok_bind]; exact congrArg (fun b => Rs.ok (!b)) (decide_eq_true rfl)) ?_
  rw [if_neg (fun z => nomatch z)]
  refine rt_eq (a := false) (by
    rw [show (41 : Int) = ((41 : Nat) : Int) from rfl, rep_ok (by decide), ok_bind, ref_many T (by omega) (by unfold lenI; rw [List.length_replicate]; omega), ok_bind]
    have : lenI (List.replicate 41 bad) = 41 := by unfold lenI; rw [List.length_replicate]; rfl
    rw [this]; exact congrArg (fun b => Rs.ok (!b)) (decide_eq_true rfl)) ?_
  rw [if_neg (fun z => nomatch z)]
  have ht : (S.take k).length = k := by rw [List.length_take]; omega
  have hdl : (S.drop k).length = S.length - k := List.length_drop ..
  have hpre : ∀ s ∈ S.take k, okSt m s := fun s hs => hok s (List.mem_of_mem_take hs)
  refine rt_eq (a := false) (by
    rw [cut_lo, cut_hi hkl, cat_ok (by rw [ht, List.length_singleton]; omega), ok_bind, cat_ok (by rw [List.length_append, ht, List.length_singleton, hdl]; omega), ok_bind, cat_ok (by rw [List.length_append, List.length_append, ht, List.length_singleton, hdl, List.length_singleton]; omega), ok_bind]
    have e : S.take k ++ [(bad.1, (-5 : Int))] ++ S.drop k ++ [(([0] : List Int), dp)] = S.take k ++ (bad.1, (-5 : Int)) :: (S.drop k ++ [(([0] : List Int), dp)]) := by simp
    rw [e, ref_set (x := (bad.1, (-5 : Int))) T h1 (by omega) (by rw [List.length_append, List.length_cons, List.length_append, ht, hdl, List.length_singleton]; omega) hpre hbad, ok_bind, ht, decide_eq_true rfl]; rfl) ?_
  rw [if_neg (fun z => nomatch z)]
  refine rt_eq (a := false) (by
    rw [cut_lo, cut_hi hkl, cat_ok (by rw [ht, List.length_singleton]; omega), ok_bind, cat_ok (by rw [List.length_append, ht, List.length_singleton, hdl]; omega), ok_bind, cat_ok (by rw [List.length_append, List.length_append, ht, List.length_singleton, hdl, List.length_singleton]; omega), ok_bind]
    have e : S.take k ++ [(([0] : List Int), dp)] ++ S.drop k ++ [bad] = S.take k ++ (([0] : List Int), dp) :: (S.drop k ++ [bad]) := by simp
    rw [e, ref_price T h1 (by omega) (by rw [List.length_append, List.length_cons, List.length_append, ht, hdl, List.length_singleton]; omega) hpre hdear hd, ok_bind, ht, decide_eq_true rfl]; rfl) ?_
  rw [if_neg (fun z => nomatch z)]
  exact rt_ok ⟨(), rfl, trivial⟩
end Q

set_option Elab.async false
set_option linter.all false
set_option maxRecDepth 100000
set_option maxHeartbeats 4000000
namespace Q
open PySem PySem.Spec PyProof.Rows L2 Z R QF
variable {K : PySem.W.Frag} {mg : Str → Option Value} (T : Tx K mg)
abbrev Rw := List Int × Str × Int
abbrev sL : Str := PySem.Str.ofString "least"
theorem init_ok {P : List Int} {rs : List Rw} (h1 : 1 ≤ P.length) (h2 : P.length ≤ 40) (h3 : rs.length ≤ 80) (h4 : ∀ r ∈ rs, r.1.length = P.length ∧ r.2.1 = sL) : m_Program___init__ T P rs = .ok (P, rs) := by
  unfold m_Program___init__
  have e1 : (!(decide (1 ≤ lenI P) && decide (lenI P ≤ 40))) = false := by
    rw [decide_eq_true (show 1 ≤ lenI P by unfold lenI; omega), decide_eq_true (show lenI P ≤ 40 by unfold lenI; omega)]; rfl
  have e2 : decide (lenI rs > 80) = false := decide_eq_false (by unfold lenI; omega)
  rw [e1, e2, if_neg (fun z => nomatch z), if_neg (fun z => nomatch z)]
  obtain ⟨s, hs, _⟩ := for_inv (xs := enumL rs) (f := fun (x : (Int × ((List Int) × Str × Int))) (_ : Unit) =>
  (if (!decide ((lenI x.2.1) = (lenI P))) = true then
  (Rs.ex T.c_WrongSize x.1)
  else (if (if true then !decide (x.2.2.1 ∈ [PySem.Str.ofString "least", PySem.Str.ofString "most", PySem.Str.ofString "equal"]) else decide (x.2.2.1 ∈ [PySem.Str.ofString "least", PySem.Str.ofString "most", PySem.Str.ofString "equal"])) = true then
  (Rs.ex T.c_BadRelation x.1)
  else (Rs.ok ())))) (s := ()) (fun _ _ => True) trivial (by
    intro pre a suf s e _
    have ha : a.2 ∈ rs := by
      have : a ∈ enumL rs := by rw [e]; simp
      unfold enumL at this
      obtain ⟨q, hq, rfl⟩ := List.mem_map.mp this
      exact (List.mem_zipIdx hq).2.2 ▸ List.getElem_mem _
    have := h4 _ ha
    refine ⟨(), ?_, trivial⟩
    rw [decide_eq_true (show lenI a.2.1 = lenI P by unfold lenI; rw [this.1]), if_neg (fun z => nomatch z), if_pos rfl, decide_eq_true (show a.2.2.1 ∈ [PySem.Str.ofString "least", PySem.Str.ofString "most", PySem.Str.ofString "equal"] by rw [this.2]; exact List.mem_cons_self ..)]
    rfl)
  rw [hs, ok_bind, lc_ok (fun x : Rw => x) (by omega) (fun _ _ => rfl), ok_bind, List.map_id']
def lineOf (S : List St) (e : Int) : List Int := S.map fun s => bInt (decide (e ∈ s.1))
theorem program_ok {m : Nat} {S : List St} (H : Sts m S) : m_cover_program T (m : Int) S = .ok (S.map fun s => s.2, (upto m).map fun e => (lineOf S e, sL, (1 : Int))) := by
  have h6 := H.m6
  have l1 := H.l1
  have l7 := H.l7
  unfold m_cover_program
  rw [need_ok T H, ok_bind, ok_bind, rng_up (by omega), ok_bind]
  refine rt_val (rt_bind (rt_forU (fun k (rs : List Rw) => rs = (upto k).map fun e => (lineOf S e, sL, (1 : Int))) rfl ?_) ?_)
  · rintro k rs hk rfl
    refine rt_eq (a := (lineOf S (k : Int), sL, (1 : Int))) (by
      rw [lc_ok (fun s : St => bInt (decide ((k : Int) ∈ s.1))) (by omega) fun s _ => by cases decide ((k : Int) ∈ s.1) <;> rfl, ok_bind]; rfl) ?_
    refine rt_eq (push_ok (by rw [List.length_map, upto_len]; omega)) (rt_ok ?_)
    rw [upto_succ, List.map_append]; rfl
  · rintro rs rfl
    rw [lc_ok (fun s : St => s.2) (by omega) fun _ _ => rfl, ok_bind]
    refine rt_of (init_ok T (by rw [List.length_map]; omega) (by rw [List.length_map]; omega) (by rw [List.length_map, upto_len]; omega) fun r hr => ?_) rfl
    obtain ⟨e, _, rfl⟩ := List.mem_map.mp hr
    exact ⟨by unfold lineOf; rw [List.length_map, List.length_map], rfl⟩
theorem repr_ok {m : Nat} {S : List St} (H : Sts m S) : ∃ s, reprC (eL (eT2 (eL eI) eI)) S = .ok s := by
  have l7 := H.l7
  have h6 := H.m6
  have S' : Sm 3 6000 ((eL (eT2 (eL eI) eI)).e S) := sm_list (k := 2) (w := 660) (sm_map fun s hs => by
    have ha := H.asc s hs
    have hp := H.pr s hs
    have hl := ha.len
    exact sm_tup (k := 1) (w := 328) (sm_cons (sm_list (k := 0) (w := 40) (sm_map fun x hx => sm_int (by have := ha.bd x hx; omega)) (by rw [List.length_map]; show s.1.length * 41 ≤ 328; omega)) (sm_cons (Sm.mono (k := 0) (w := 40) (sm_int (i := s.2) (by omega)) (by decide) (by decide)) sm_nil)) (by show 2 * 329 ≤ 660; decide)) (by rw [List.length_map]; show S.length * 661 ≤ 6000; omega)
  unfold reprC
  refine ⟨_, grd_t ?_⟩
  unfold reprOk
  rw [S'.show_, PyData.hasDict_of_canLay _ S'.sh.lay, decide_eq_true (Nat.le_trans S'.sh.deep (by decide)), decide_eq_true (S'.len (by decide) (by decide))]
  rfl
theorem sh_least : Z.Sh 0 (eS.e sL) := ⟨by decide +kernel, by decide +kernel⟩
theorem shOk_small {rs : List Rw} (hr : ∀ r ∈ rs, r.2.1 = sL) : grd (shOk (eL (eT3 (eL eI) eS eI)) rs rs) (Rs.ok (!decide (rs = rs))) = .ok false := by
  have h : Z.Sh 3 ((eL (eT3 (eL eI) eS eI)).e rs) := sh_list (k := 2) (sh_map fun r hm => by
    have e := hr r hm
    refine sh_tup (k := 1) (sh_cons ((ShP.sh (E := eL eI) r.1).up (by decide)) (sh_cons ?_ (sh_cons ((ShP.sh (E := eI) r.2.2).up (by decide)) sh_nil)))
    rw [e]
    exact sh_least.up (by decide))
  have hs := h.shaped
  rw [grd_t ⟨hs, hs⟩, decide_eq_true rfl]; rfl
theorem law_m (xs : List Int) (h : xs.length ≤ 63) : m_law T xs = Rs.ok true := by
  obtain ⟨ns, N, hns⟩ := numbers_ok h (many := 90) (by decide)
  obtain ⟨m, S, hS, H⟩ := sets_ok N
  have h6 := H.m6
  have l1 := H.l1
  have l7 := H.l7
  obtain ⟨s, hs⟩ := repr_ok H
  obtain ⟨M, hM, hM8, _⟩ := most_ok H
  have hc : (cutT ns (some 3) (some 9)).length = 6 ∧ ∀ x ∈ cutT ns (some 3) (some 9), 0 ≤ x ∧ x < 65536 := by
    unfold cutT
    rw [show (some (3 : Int)) = some ((3 : Nat) : Int) from rfl, show (some (9 : Int)) = some ((9 : Nat) : Int) from rfl, HT.sIx_nat, HT.sIx_nat, N.len]
    refine ⟨by rw [List.length_take, List.length_drop, N.len]; decide, ?_⟩
    intro x hx
    exact N.bd x (List.mem_of_mem_drop (List.mem_of_mem_take hx))
  unfold m_law
  rw [show (90 : Int) = ((90 : Nat) : Int) from rfl, hns, ok_bind, hS, ok_bind]
  dsimp only
  refine rt_val (rt_eq (a := s) hs ?_)
  refine rt_eq (program_ok T H) ?_
  refine rt_eq (a := (upto m).map (lineOf S)) (by
    rw [rng_up (by omega), ok_bind]
    exact lc_ok _ (by rw [upto_len]; omega) fun e _ => lc_ok _ (by omega) fun _ _ => rfl) ?_
  refine rt_eq (a := false) (by
    unfold m_Program_prices m_Program_rows
    rw [ok_bind, lc_ok (fun s : St => s.2) (by omega) fun _ _ => rfl, ok_bind, ok_bind, decide_eq_true rfl, show (!true) = false from rfl, if_neg (fun z => nomatch z)]
    rw [lc_ok (fun x : Rw => x) (by rw [List.length_map, upto_len]; omega) fun _ _ => rfl, ok_bind, List.map_id', lc_ok (fun l : List Int => (l, sL, (1 : Int))) (by rw [List.length_map, upto_len]; omega) fun _ _ => rfl, ok_bind, List.map_map]
    exact shOk_small fun r hr => by
      obtain ⟨e, _, rfl⟩ := List.mem_map.mp hr
      rfl) ?_
  rw [if_neg (fun z => nomatch z)]
  refine rt_eq (lquick_ok H) ?_
  refine rt_bJ (rt_forJ (fun _ _ => True) trivial ?_) fun _ _ => ?_
  · rintro pre again suf _ _ _
    refine rt_eq (quick_ok T H) ?_
    refine rt_eq (a := false) (by
      rw [decide_eq_true rfl, show (!true) = false from rfl, if_neg (fun z => nomatch z), hs, ok_bind, decide_eq_true rfl]; rfl) ?_
    rw [if_neg (fun z => nomatch z)]
    unfold coverOf
    obtain ⟨t1, t2⟩ := turns_tk (m := m) (S := S) m
    have tl := turns_len (m := m) (S := S) m
    by_cases hn : none ∈ (turns m S m).1
    · rw [if_pos hn, if_neg (fun z => nomatch z)]; exact rt_ok ⟨(), rfl, trivial⟩
    · rw [if_neg hn, if_pos Option.isSome_some, show ∀ a : List Int × Int × Sh, theO (some a) = Rs.ok a from fun _ => rfl, ok_bind, qu_ok, ok_bind, push_ok (by show (turns m S m).2.length < _; omega), ok_bind, qu_ok, ok_bind, push_ok (by rw [List.length_map]; show (turns m S m).1.length < _; omega), ok_bind]
      exact rt_ok ⟨(), rfl, trivial⟩
  refine rt_eq (a := rngL 1 ((M : Int) + 1)) (by
    rw [hM, ok_bind, qu_ok, ok_bind]
    exact grd_t (by omega)) ?_
  refine rt_eq (a := false) (by
    have hf : m_cover_factor T (m : Int) S = .ok (F (Hs M)) := by
      unfold m_cover_factor
      rw [need_ok T H, ok_bind, hM, ok_bind, harmonic_ok T hM8]
    rw [hf, ok_bind, lc_ok (fun k => ((1 : Int), k)) (by unfold rngL; simp; omega) (fun _ _ => rfl), ok_bind, parts_list hM8, ladded_ok, ok_bind, ok_bind, show (parts M).sum = Hs M from rfl, decide_eq_true rfl, show (!true) = false from rfl, if_neg (fun z => nomatch z), hs, ok_bind, decide_eq_true rfl]
    rfl) ?_
  rw [if_neg (fun z => nomatch z)]
  exact rt_of (refusals_ok T ⟨hc.1, hc.2⟩ H) rfl
end Q

set_option Elab.async false
set_option linter.all false
set_option maxRecDepth 100000
set_option maxHeartbeats 4000000
set_option synthInstance.maxSize 1000
set_option synthInstance.maxHeartbeats 400000
namespace Q
open PySem PySem.Spec PyProof.Rows L2 Z R
def spLaw (K : PySem.W.Frag) : Sp := SpA (α := List Int) (fun xs => xs.length ≤ 63) (fun xs => [pu (scR K xs)]) (fun _ => .ok (dB true))
section
variable {P : Program} {w : World} {K : PySem.W.Frag} {mg : Str → Option Value} {base : Heap}
theorem law_true (T : Tx K mg) (xs : List Int) (h : xs.length ≤ 63) : runX (xs_law T) false 15 [.v (.s xs)] = .ok (.d (.bool true)) := by
  have := r_law T xs
  rw [law_m T xs h] at this
  have this : (fn_law T).f [.v (Vl.s xs)] = .ok (eB.v true) := this
  rw [fnf_law] at this
  exact this
theorem ok_law (T : Tx K mg) : RunAt P w K mg base (L2.CX P w) 10 T.f_law T.fd_law ["script"] (spLaw K) := by
  refine fun_at T.F_law sc_law (SpA.len fun _ => rfl) (fun cdv s H vs Q E hr hgd h => ⟨_, (pss_cons (ps_set (i := 1) sc_law.nd rfl (by first | exact Or.inl rfl | exact Or.inr rfl) (pe_call (ok_law_numbers T) (hr.mono (by decide)) (by rfl) T.g_law_numbers T.F_law_numbers.kp T.b_law_numbers .nil (passes_call (takes_of rfl rfl rfl rfl) fun _ _ _ _ z => z) (pa_cons (pv 0) (pa_cons pe_int pa_nil))))
      (pss_cons (ps_asg (pe_call (ok_law_sets T) (hr.mono (by decide)) (by rfl) T.g_law_sets T.F_law_sets.kp T.b_law_sets .nil (passes_call (takes_of rfl rfl rfl rfl) fun _ _ _ _ z => z) (pa_cons (pv 1) (pa_cons pe_int (pa_cons pe_int (pa_cons pe_int pa_nil))))) (kpg_tup K (n := 2) rfl (pgs_cons (pg_name (i := 2) sc_law.nd rfl (by first | exact Or.inl rfl | exact Or.inr rfl)) (pgs_cons (pg_name (i := 3) sc_law.nd rfl (by first | exact Or.inl rfl | exact Or.inr rfl)) pgs_nil))))
      (pss_cons (ps_set (i := 4) sc_law.nd rfl (by first | exact Or.inl rfl | exact Or.inr rfl) (pe_callB (call_repr hgd (Z.room70 hr)) (by rfl) T.z_repr (by decide +kernel) (pa_cons (pv 3) pa_nil)))
      (pss_cons (ps_set (i := 5) sc_law.nd rfl (by first | exact Or.inl rfl | exact Or.inr rfl) (pe_call (ok_cover_program T) (hr.mono (by decide)) (by rfl) T.g_cover_program T.F_cover_program.kp T.b_cover_program .nil (passes_call (takes_of rfl rfl rfl rfl) fun _ _ _ _ z => z) (pa_cons (pv 2) (pa_cons (pv 3) pa_nil))))
      (pss_cons (ps_setLc (i := 6) (own := [("one", 11)]) (g := (gName 11)) rfl sc_law.nd rfl rfl (sw_true rfl rfl rfl (by decide +kernel)) (pi_range1 (by rfl) T.z_range (pa_cons (pv 2) pa_nil)) (blkOk_by (N := N_law) (sc := defScope s_law) (by decide +kernel)) (fun _ _ _ _ _ => (pg_name (i := 11) sc_law.nd rfl (by first | exact Or.inl rfl | exact Or.inr rfl))) (fun _ _ _ _ _ => pts_nil) (fun _ _ _ _ _ => (pe_lc (own := [("members", 12), ("price", 13)]) (g := (gTup K 2 (gCons (gName 12) (gCons (gName 13) gNil)))) rfl sc_law.nd (kpi_list K (pv 3)) (blkOk_by (by rfl)) (fun _ _ _ _ _ => (kpg_tup K (n := 2) rfl (pgs_cons (pg_name (i := 12) sc_law.nd rfl (by first | exact Or.inl rfl | exact Or.inr rfl)) (pgs_cons (pg_name (i := 13) sc_law.nd rfl (by first | exact Or.inl rfl | exact Or.inr rfl)) pgs_nil)))) (fun _ _ _ _ _ => pts_nil) (fun _ _ _ _ _ => (pe_callTy call_int1 (by rfl) T.z_int (by decide +kernel) (pa_cons (pe_cmpR (kop_in K) (pv 11) (pv 12) rfl) pa_nil))))))
      (pss_cons (ps_if (PW.pt (pw_or (pt_cmpR (kop_neD K (Z.room64 hr)) (pe_meth0 (pv 5) T.cl_Program T.m_Program_prices (ok_Program_prices T) (hr.mono (by decide)) T.b_Program_prices .nil (passes_call (takes_of rfl rfl rfl rfl) fun _ _ _ _ z => z)) (pe_lc (own := [("members", 12), ("price", 13)]) (g := (gTup K 2 (gCons (gName 12) (gCons (gName 13) gNil)))) rfl sc_law.nd (kpi_list K (pv 3)) (blkOk_by (N := N_law) (sc := defScope s_law) (by decide +kernel)) (fun _ _ _ _ _ => (kpg_tup K (n := 2) rfl (pgs_cons (pg_name (i := 12) sc_law.nd rfl (by first | exact Or.inl rfl | exact Or.inr rfl)) (pgs_cons (pg_name (i := 13) sc_law.nd rfl (by first | exact Or.inl rfl | exact Or.inr rfl)) pgs_nil)))) (fun _ _ _ _ _ => pts_nil) (fun _ _ _ _ _ => (pv 13))) (nomark _)) (pw_or1 (pt_cmpR (kop_neD K (Z.room64 hr)) (pe_meth0 (pv 5) T.cl_Program T.m_Program_rows (ok_Program_rows T) (hr.mono (by decide)) T.b_Program_rows .nil (passes_call (takes_of rfl rfl rfl rfl) fun _ _ _ _ z => z)) (pe_lc (own := [("line", 14)]) (g := (gName 14)) rfl sc_law.nd (kpi_list K (pv 6)) (blkOk_by (N := N_law) (sc := defScope s_law) (by decide +kernel)) (fun _ _ _ _ _ => (pg_name (i := 14) sc_law.nd rfl (by first | exact Or.inl rfl | exact Or.inr rfl))) (fun _ _ _ _ _ => pts_nil) (fun _ _ _ _ _ => (pe_tup (pa_cons (pv 14) (pa_cons pe_str (pa_cons pe_int pa_nil)))))) (nomark _)))))
        (pss_one (ps_ret pe_bl))
        pss_nil)
      (pss_cons (ps_set (i := 7) sc_law.nd rfl (by first | exact Or.inl rfl | exact Or.inr rfl) (pe_call (ok_law_quick T) (hr.mono (by decide)) (by rfl) T.g_law_quick T.F_law_quick.kp T.b_law_quick .nil (passes_call (takes_of rfl rfl rfl rfl) fun _ _ _ _ z => z) (pa_cons (pv 2) (pa_cons (pv 3) pa_nil))))
      (pss_cons (ps_for (passes_of rfl) rfl (pi_range1 (by rfl) T.z_range (pa_cons pe_int pa_nil)) (pg_name (i := 8) sc_law.nd rfl (by first | exact Or.inl rfl | exact Or.inr rfl))
        (pss_cons (ps_set (i := 9) sc_law.nd rfl (by first | exact Or.inl rfl | exact Or.inr rfl) (pe_call (ok_quick_cover T) (hr.mono (by decide)) (by rfl) T.g_quick_cover T.F_quick_cover.kp T.b_quick_cover .nil (passes_call (takes_of rfl rfl rfl rfl) fun _ _ _ _ z => z) (pa_cons (pv 2) (pa_cons (pv 3) pa_nil))))
      (pss_cons (ps_if (PW.pt (pw_or (pt_cmpR (kop_neD K (Z.room64 hr)) (pv 9) (pv 7) (nomark _)) (pw_or1 (pt_cmpR op_ne (pe_callB (call_repr hgd (Z.room70 hr)) (by rfl) T.z_repr (by decide +kernel) (pa_cons (pv 3) pa_nil)) (pv 4) (nomark _)))))
        (pss_one (ps_ret pe_bl))
        pss_nil)
      (pss_one (ps_if (pt_cmpR op_notN (pv 9) pe_non (nomark _))
        (pss_cons (ps_expr (pe_bm PySem.F.plainAttrs_list PySem.F.slot_list_append PySem.F.type_list_append mt_append (pe_ix (kix_tup K) (pv 9) pe_int (fun _ _ => rfl)) (pa_cons pe_int pa_nil)))
      (pss_one (ps_expr (pe_bm PySem.F.plainAttrs_list PySem.F.slot_list_append PySem.F.type_list_append mt_append (pe_ix (kix_tup K) (pv 9) pe_int (fun _ _ => rfl)) (pa_cons pe_int pa_nil)))))
        pss_nil)))))
      (pss_cons (ps_set (i := 10) sc_law.nd rfl (by first | exact Or.inl rfl | exact Or.inr rfl) (pe_listRg rfl (by rfl) T.z_list (prg_2 (by rfl) T.z_range pe_int (pe_op op_add (pe_callB (ZD.kcr_maxD K rfl (Z.room64 hr)) (by rfl) T.z_max (by decide +kernel) (pa_cons (pe_lc (own := [("members", 12), ("price", 13)]) (g := (gTup K 2 (gCons (gName 12) (gCons (gName 13) gNil)))) rfl sc_law.nd (kpi_list K (pv 3)) (blkOk_by (N := N_law) (sc := defScope s_law) (by decide +kernel)) (fun _ _ _ _ _ => (kpg_tup K (n := 2) rfl (pgs_cons (pg_name (i := 12) sc_law.nd rfl (by first | exact Or.inl rfl | exact Or.inr rfl)) (pgs_cons (pg_name (i := 13) sc_law.nd rfl (by first | exact Or.inl rfl | exact Or.inr rfl)) pgs_nil)))) (fun _ _ _ _ _ => pts_nil) (fun _ _ _ _ _ => (pe_callB (kcall_len K) (by rfl) T.z_len PySem.boot_len (pa_cons (pv 12) pa_nil)))) pa_nil)) pe_int))))
      (pss_cons (ps_if (PW.pt (pw_or (pt_cmpR (kop_neD K (Z.room64 hr)) (pe_call (ok_cover_factor T) (hr.mono (by decide)) (by rfl) T.g_cover_factor T.F_cover_factor.kp T.b_cover_factor .nil (passes_call (takes_of rfl rfl rfl rfl) fun _ _ _ _ z => z) (pa_cons (pv 2) (pa_cons (pv 3) pa_nil))) (pe_call (ok_law_added T) (hr.mono (by decide)) (by rfl) T.g_law_added T.F_law_added.kp T.b_law_added .nil (passes_call (takes_of rfl rfl rfl rfl) fun _ _ _ _ z => z) (pa_cons (pe_lc (own := [("part", 15)]) (g := (gName 15)) rfl sc_law.nd (kpi_list K (pv 10)) (blkOk_by (N := N_law) (sc := defScope s_law) (by decide +kernel)) (fun _ _ _ _ _ => (pg_name (i := 15) sc_law.nd rfl (by first | exact Or.inl rfl | exact Or.inr rfl))) (fun _ _ _ _ _ => pts_nil) (fun _ _ _ _ _ => (pe_tup (pa_cons pe_int (pa_cons (pv 15) pa_nil))))) pa_nil)) (nomark _)) (pw_or1 (pt_cmpR op_ne (pe_callB (call_repr hgd (Z.room70 hr)) (by rfl) T.z_repr (by decide +kernel) (pa_cons (pv 3) pa_nil)) (pv 4) (nomark _)))))
        (pss_one (ps_ret pe_bl))
        pss_nil)
      (pss_one (ps_ret (pe_call (ok_law_refusals T) (hr.mono (by decide)) (by rfl) T.g_law_refusals T.F_law_refusals.kp T.b_law_refusals .nil (passes_call (takes_of rfl rfl rfl rfl) fun _ _ _ _ z => z) (pa_cons (pe_slice (ksl_list K) (pv 1) (po_some pe_int) (po_some pe_int)) (pa_cons (pv 2) (pa_cons (pv 3) pa_nil)))))))))))))))), ?_⟩)
  exact R.law_run (xs_law T) N_law h (law_true T)
end
theorem all_mk {P : Program} {w : World} {K : PySem.W.Frag} {h : Heap} {mg : Str → Option Value} {fa : Addr} (X : K.In h) (G : h.Ns mainGlobals mg) (hfa : mg "law" = some (.ref fa))
    {c_Program c_WebError c_OutOfRange c_BadPrice c_TooMany c_ZeroDivisor c_BadRelation c_WrongSize c_BadSet f_WebError___init__ f_is_ascending f_is_price f_fraction f_times f_over f_is_less f_scaled f_added f_Program___init__ f_Program_prices f_Program_rows f_need_sets f_cover_program f_cheapest_set f_quick_cover f_harmonic f_cover_factor f_are_cover f_check_shares f_cover_bound f_law_numbers f_law_lowest f_law_plus f_law_added f_law_sets f_law_quick f_law_refused f_law_refusals f_law : Addr}
    {od_WebError___init__ an_WebError___init__ od_is_ascending an_is_ascending od_is_price an_is_price od_fraction an_fraction od_times an_times od_over an_over od_is_less an_is_less od_scaled an_scaled od_added an_added od_Program___init__ an_Program___init__ od_Program_prices an_Program_prices od_Program_rows an_Program_rows od_need_sets an_need_sets od_cover_program an_cover_program od_cheapest_set an_cheapest_set od_quick_cover an_quick_cover od_harmonic an_harmonic od_cover_factor an_cover_factor od_are_cover an_are_cover od_check_shares an_check_shares od_cover_bound an_cover_bound od_law_numbers an_law_numbers od_law_lowest an_law_lowest od_law_plus an_law_plus od_law_added an_law_added od_law_sets an_law_sets od_law_quick an_law_quick od_law_refused an_law_refused od_law_refusals an_law_refusals od_law an_law : Option Addr} {sl_WebError___init__ sl_is_ascending sl_is_price sl_fraction sl_times sl_over sl_is_less sl_scaled sl_added sl_Program___init__ sl_Program_prices sl_Program_rows sl_need_sets sl_cover_program sl_cheapest_set sl_quick_cover sl_harmonic sl_cover_factor sl_are_cover sl_check_shares sl_cover_bound sl_law_numbers sl_law_lowest sl_law_plus sl_law_added sl_law_sets sl_law_quick sl_law_refused sl_law_refusals sl_law : Array (Option Value)} {oc_WebError___init__ kV_WebError___init__ dc_WebError___init__ pm_WebError___init__ cd_WebError___init__ ct_WebError___init__ oc_is_ascending kV_is_ascending dc_is_ascending pm_is_ascending cd_is_ascending ct_is_ascending oc_is_price kV_is_price dc_is_price pm_is_price cd_is_price ct_is_price oc_fraction kV_fraction dc_fraction pm_fraction cd_fraction ct_fraction oc_times kV_times dc_times pm_times cd_times ct_times oc_over kV_over dc_over pm_over cd_over ct_over oc_is_less kV_is_less dc_is_less pm_is_less cd_is_less ct_is_less oc_scaled kV_scaled dc_scaled pm_scaled cd_scaled ct_scaled oc_added kV_added dc_added pm_added cd_added ct_added oc_Program___init__ kV_Program___init__ dc_Program___init__ pm_Program___init__ cd_Program___init__ ct_Program___init__ oc_Program_prices kV_Program_prices dc_Program_prices pm_Program_prices cd_Program_prices ct_Program_prices oc_Program_rows kV_Program_rows dc_Program_rows pm_Program_rows cd_Program_rows ct_Program_rows oc_need_sets kV_need_sets dc_need_sets pm_need_sets cd_need_sets ct_need_sets oc_cover_program kV_cover_program dc_cover_program pm_cover_program cd_cover_program ct_cover_program oc_cheapest_set kV_cheapest_set dc_cheapest_set pm_cheapest_set cd_cheapest_set ct_cheapest_set oc_quick_cover kV_quick_cover dc_quick_cover pm_quick_cover cd_quick_cover ct_quick_cover oc_harmonic kV_harmonic dc_harmonic pm_harmonic cd_harmonic ct_harmonic oc_cover_factor kV_cover_factor dc_cover_factor pm_cover_factor cd_cover_factor ct_cover_factor oc_are_cover kV_are_cover dc_are_cover pm_are_cover cd_are_cover ct_are_cover oc_check_shares kV_check_shares dc_check_shares pm_check_shares cd_check_shares ct_check_shares oc_cover_bound kV_cover_bound dc_cover_bound pm_cover_bound cd_cover_bound ct_cover_bound oc_law_numbers kV_law_numbers dc_law_numbers pm_law_numbers cd_law_numbers ct_law_numbers oc_law_lowest kV_law_lowest dc_law_lowest pm_law_lowest cd_law_lowest ct_law_lowest oc_law_plus kV_law_plus dc_law_plus pm_law_plus cd_law_plus ct_law_plus oc_law_added kV_law_added dc_law_added pm_law_added cd_law_added ct_law_added oc_law_sets kV_law_sets dc_law_sets pm_law_sets cd_law_sets ct_law_sets oc_law_quick kV_law_quick dc_law_quick pm_law_quick cd_law_quick ct_law_quick oc_law_refused kV_law_refused dc_law_refused pm_law_refused cd_law_refused ct_law_refused oc_law_refusals kV_law_refusals dc_law_refusals pm_law_refusals cd_law_refusals ct_law_refusals oc_law kV_law dc_law pm_law cd_law ct_law : Value}
    {nm_WebError qn_WebError nm_OutOfRange qn_OutOfRange nm_BadPrice qn_BadPrice nm_TooMany qn_TooMany nm_ZeroDivisor qn_ZeroDivisor nm_BadRelation qn_BadRelation nm_WrongSize qn_WrongSize nm_BadSet qn_BadSet : Str} {N_WebError N_OutOfRange N_BadPrice N_TooMany N_ZeroDivisor N_BadRelation N_WrongSize N_BadSet : Addr} {bs_WebError bm_WebError sub_WebError bs_OutOfRange bm_OutOfRange sub_OutOfRange bs_BadPrice bm_BadPrice sub_BadPrice bs_TooMany bm_TooMany sub_TooMany bs_ZeroDivisor bm_ZeroDivisor sub_ZeroDivisor bs_BadRelation bm_BadRelation sub_BadRelation bs_WrongSize bm_WrongSize sub_WrongSize bs_BadSet bm_BadSet sub_BadSet : List Value} {st_WebError st_OutOfRange st_BadPrice st_TooMany st_ZeroDivisor st_BadRelation st_WrongSize st_BadSet : List Str} {ab_WebError ab_OutOfRange ab_BadPrice ab_TooMany ab_ZeroDivisor ab_BadRelation ab_WrongSize ab_BadSet : Bool} {col_WebError col_OutOfRange col_BadPrice col_TooMany col_ZeroDivisor col_BadRelation col_WrongSize col_BadSet : Option Bool} {dd_WebError dd_OutOfRange dd_BadPrice dd_TooMany dd_ZeroDivisor dd_BadRelation dd_WrongSize dd_BadSet : Option Addr} {m0_WebError m1_WebError m2_WebError m3_WebError m5_WebError m0_OutOfRange m1_OutOfRange m2_OutOfRange m3_OutOfRange m5_OutOfRange m0_BadPrice m1_BadPrice m2_BadPrice m3_BadPrice m5_BadPrice m0_TooMany m1_TooMany m2_TooMany m3_TooMany m5_TooMany m0_ZeroDivisor m1_ZeroDivisor m2_ZeroDivisor m3_ZeroDivisor m5_ZeroDivisor m0_BadRelation m1_BadRelation m2_BadRelation m3_BadRelation m5_BadRelation m0_WrongSize m1_WrongSize m2_WrongSize m3_WrongSize m5_WrongSize m0_BadSet m1_BadSet m2_BadSet m3_BadSet m5_BadSet : Option Value}
    {t_MOST_PRICE t_MOST_VARIABLES t_MOST_ROWS t_MOST_ELEMENTS t_MOST_SETS : Tok} {c_RELATIONS : Addr} {oc_RELATIONS : Value} {od_RELATIONS : Option Addr} {it_RELATIONS : Array Value} {sn_RELATIONS : Nat} {sl_RELATIONS : Array (Option Value)} 
    (aC_Program : PySem.W.nsIn K mainGlobals "Program" = some (some (.ref c_Program)))
    (aC_WebError : PySem.W.nsIn K mainGlobals "WebError" = some (some (.ref c_WebError)))
    (aC_OutOfRange : PySem.W.nsIn K mainGlobals "OutOfRange" = some (some (.ref c_OutOfRange)))
    (aC_BadPrice : PySem.W.nsIn K mainGlobals "BadPrice" = some (some (.ref c_BadPrice)))
    (aC_TooMany : PySem.W.nsIn K mainGlobals "TooMany" = some (some (.ref c_TooMany)))
    (aC_ZeroDivisor : PySem.W.nsIn K mainGlobals "ZeroDivisor" = some (some (.ref c_ZeroDivisor)))
    (aC_BadRelation : PySem.W.nsIn K mainGlobals "BadRelation" = some (some (.ref c_BadRelation)))
    (aC_WrongSize : PySem.W.nsIn K mainGlobals "WrongSize" = some (some (.ref c_WrongSize)))
    (aC_BadSet : PySem.W.nsIn K mainGlobals "BadSet" = some (some (.ref c_BadSet)))
    (a_WebError___init__ : PySem.W.findIn K (.ref c_WebError) "__init__" = some (some (.ref f_WebError___init__)))
    (ty_WebError___init__ : PySem.W.typeIn K (.ref f_WebError___init__) = some (.type "function"))
    (l_WebError___init__ : K.lookup f_WebError___init__ = some ⟨oc_WebError___init__, od_WebError___init__, .func (PySem.W.fnOf "__init__" "WebError.__init__" (defArgs s_WebError___init__) (defBody s_WebError___init__) (defScope s_WebError___init__) .none kV_WebError___init__ dc_WebError___init__ pm_WebError___init__ an_WebError___init__ cd_WebError___init__ ct_WebError___init__), sl_WebError___init__⟩)
    (cdw_WebError___init__ : PySem.W.codeIn K cd_WebError___init__ "WebError.__init__" = true)
    (kp_WebError___init__ : PySem.W.keepIn K (.ref f_WebError___init__) = true)
    (a_is_ascending : PySem.W.nsIn K mainGlobals "is_ascending" = some (some (.ref f_is_ascending)))
    (l_is_ascending : K.lookup f_is_ascending = some ⟨oc_is_ascending, od_is_ascending, .func (PySem.W.fnOf "is_ascending" "is_ascending" (defArgs s_is_ascending) (defBody s_is_ascending) (defScope s_is_ascending) .none kV_is_ascending dc_is_ascending pm_is_ascending an_is_ascending cd_is_ascending ct_is_ascending), sl_is_ascending⟩)
    (cdw_is_ascending : PySem.W.codeIn K cd_is_ascending "is_ascending" = true)
    (kp_is_ascending : PySem.W.keepIn K (.ref f_is_ascending) = true)
    (a_is_price : PySem.W.nsIn K mainGlobals "is_price" = some (some (.ref f_is_price)))
    (l_is_price : K.lookup f_is_price = some ⟨oc_is_price, od_is_price, .func (PySem.W.fnOf "is_price" "is_price" (defArgs s_is_price) (defBody s_is_price) (defScope s_is_price) .none kV_is_price dc_is_price pm_is_price an_is_price cd_is_price ct_is_price), sl_is_price⟩)
    (cdw_is_price : PySem.W.codeIn K cd_is_price "is_price" = true)
    (kp_is_price : PySem.W.keepIn K (.ref f_is_price) = true)
    (a_fraction : PySem.W.nsIn K mainGlobals "fraction" = some (some (.ref f_fraction)))
    (l_fraction : K.lookup f_fraction = some ⟨oc_fraction, od_fraction, .func (PySem.W.fnOf "fraction" "fraction" (defArgs s_fraction) (defBody s_fraction) (defScope s_fraction) .none kV_fraction dc_fraction pm_fraction an_fraction cd_fraction ct_fraction), sl_fraction⟩)
    (cdw_fraction : PySem.W.codeIn K cd_fraction "fraction" = true)
    (kp_fraction : PySem.W.keepIn K (.ref f_fraction) = true)
    (a_times : PySem.W.nsIn K mainGlobals "times" = some (some (.ref f_times)))
    (l_times : K.lookup f_times = some ⟨oc_times, od_times, .func (PySem.W.fnOf "times" "times" (defArgs s_times) (defBody s_times) (defScope s_times) .none kV_times dc_times pm_times an_times cd_times ct_times), sl_times⟩)
    (cdw_times : PySem.W.codeIn K cd_times "times" = true)
    (kp_times : PySem.W.keepIn K (.ref f_times) = true)
    (a_over : PySem.W.nsIn K mainGlobals "over" = some (some (.ref f_over)))
    (l_over : K.lookup f_over = some ⟨oc_over, od_over, .func (PySem.W.fnOf "over" "over" (defArgs s_over) (defBody s_over) (defScope s_over) .none kV_over dc_over pm_over an_over cd_over ct_over), sl_over⟩)
    (cdw_over : PySem.W.codeIn K cd_over "over" = true)
    (kp_over : PySem.W.keepIn K (.ref f_over) = true)
    (a_is_less : PySem.W.nsIn K mainGlobals "is_less" = some (some (.ref f_is_less)))
    (l_is_less : K.lookup f_is_less = some ⟨oc_is_less, od_is_less, .func (PySem.W.fnOf "is_less" "is_less" (defArgs s_is_less) (defBody s_is_less) (defScope s_is_less) .none kV_is_less dc_is_less pm_is_less an_is_less cd_is_less ct_is_less), sl_is_less⟩)
    (cdw_is_less : PySem.W.codeIn K cd_is_less "is_less" = true)
    (kp_is_less : PySem.W.keepIn K (.ref f_is_less) = true)
    (a_scaled : PySem.W.nsIn K mainGlobals "scaled" = some (some (.ref f_scaled)))
    (l_scaled : K.lookup f_scaled = some ⟨oc_scaled, od_scaled, .func (PySem.W.fnOf "scaled" "scaled" (defArgs s_scaled) (defBody s_scaled) (defScope s_scaled) .none kV_scaled dc_scaled pm_scaled an_scaled cd_scaled ct_scaled), sl_scaled⟩)
    (cdw_scaled : PySem.W.codeIn K cd_scaled "scaled" = true)
    (kp_scaled : PySem.W.keepIn K (.ref f_scaled) = true)
    (a_added : PySem.W.nsIn K mainGlobals "added" = some (some (.ref f_added)))
    (l_added : K.lookup f_added = some ⟨oc_added, od_added, .func (PySem.W.fnOf "added" "added" (defArgs s_added) (defBody s_added) (defScope s_added) .none kV_added dc_added pm_added an_added cd_added ct_added), sl_added⟩)
    (cdw_added : PySem.W.codeIn K cd_added "added" = true)
    (kp_added : PySem.W.keepIn K (.ref f_added) = true)
    (a_Program___init__ : PySem.W.findIn K (.ref c_Program) "__init__" = some (some (.ref f_Program___init__)))
    (i_Program___init__ : PySem.W.isFn K (.ref f_Program___init__) = true)
    (l_Program___init__ : K.lookup f_Program___init__ = some ⟨oc_Program___init__, od_Program___init__, .func (PySem.W.fnOf "__init__" "Program.__init__" (defArgs s_Program___init__) (defBody s_Program___init__) (defScope s_Program___init__) .none kV_Program___init__ dc_Program___init__ pm_Program___init__ an_Program___init__ cd_Program___init__ ct_Program___init__), sl_Program___init__⟩)
    (cdw_Program___init__ : PySem.W.codeIn K cd_Program___init__ "Program.__init__" = true)
    (kp_Program___init__ : PySem.W.keepIn K (.ref f_Program___init__) = true)
    (a_Program_prices : PySem.W.findIn K (.ref c_Program) "prices" = some (some (.ref f_Program_prices)))
    (i_Program_prices : PySem.W.isFn K (.ref f_Program_prices) = true)
    (l_Program_prices : K.lookup f_Program_prices = some ⟨oc_Program_prices, od_Program_prices, .func (PySem.W.fnOf "prices" "Program.prices" (defArgs s_Program_prices) (defBody s_Program_prices) (defScope s_Program_prices) .none kV_Program_prices dc_Program_prices pm_Program_prices an_Program_prices cd_Program_prices ct_Program_prices), sl_Program_prices⟩)
    (cdw_Program_prices : PySem.W.codeIn K cd_Program_prices "Program.prices" = true)
    (kp_Program_prices : PySem.W.keepIn K (.ref f_Program_prices) = true)
    (a_Program_rows : PySem.W.findIn K (.ref c_Program) "rows" = some (some (.ref f_Program_rows)))
    (i_Program_rows : PySem.W.isFn K (.ref f_Program_rows) = true)
    (l_Program_rows : K.lookup f_Program_rows = some ⟨oc_Program_rows, od_Program_rows, .func (PySem.W.fnOf "rows" "Program.rows" (defArgs s_Program_rows) (defBody s_Program_rows) (defScope s_Program_rows) .none kV_Program_rows dc_Program_rows pm_Program_rows an_Program_rows cd_Program_rows ct_Program_rows), sl_Program_rows⟩)
    (cdw_Program_rows : PySem.W.codeIn K cd_Program_rows "Program.rows" = true)
    (kp_Program_rows : PySem.W.keepIn K (.ref f_Program_rows) = true)
    (a_need_sets : PySem.W.nsIn K mainGlobals "need_sets" = some (some (.ref f_need_sets)))
    (l_need_sets : K.lookup f_need_sets = some ⟨oc_need_sets, od_need_sets, .func (PySem.W.fnOf "need_sets" "need_sets" (defArgs s_need_sets) (defBody s_need_sets) (defScope s_need_sets) .none kV_need_sets dc_need_sets pm_need_sets an_need_sets cd_need_sets ct_need_sets), sl_need_sets⟩)
    (cdw_need_sets : PySem.W.codeIn K cd_need_sets "need_sets" = true)
    (kp_need_sets : PySem.W.keepIn K (.ref f_need_sets) = true)
    (a_cover_program : PySem.W.nsIn K mainGlobals "cover_program" = some (some (.ref f_cover_program)))
    (l_cover_program : K.lookup f_cover_program = some ⟨oc_cover_program, od_cover_program, .func (PySem.W.fnOf "cover_program" "cover_program" (defArgs s_cover_program) (defBody s_cover_program) (defScope s_cover_program) .none kV_cover_program dc_cover_program pm_cover_program an_cover_program cd_cover_program ct_cover_program), sl_cover_program⟩)
    (cdw_cover_program : PySem.W.codeIn K cd_cover_program "cover_program" = true)
    (kp_cover_program : PySem.W.keepIn K (.ref f_cover_program) = true)
    (a_cheapest_set : PySem.W.nsIn K mainGlobals "cheapest_set" = some (some (.ref f_cheapest_set)))
    (l_cheapest_set : K.lookup f_cheapest_set = some ⟨oc_cheapest_set, od_cheapest_set, .func (PySem.W.fnOf "cheapest_set" "cheapest_set" (defArgs s_cheapest_set) (defBody s_cheapest_set) (defScope s_cheapest_set) .none kV_cheapest_set dc_cheapest_set pm_cheapest_set an_cheapest_set cd_cheapest_set ct_cheapest_set), sl_cheapest_set⟩)
    (cdw_cheapest_set : PySem.W.codeIn K cd_cheapest_set "cheapest_set" = true)
    (kp_cheapest_set : PySem.W.keepIn K (.ref f_cheapest_set) = true)
    (a_quick_cover : PySem.W.nsIn K mainGlobals "quick_cover" = some (some (.ref f_quick_cover)))
    (l_quick_cover : K.lookup f_quick_cover = some ⟨oc_quick_cover, od_quick_cover, .func (PySem.W.fnOf "quick_cover" "quick_cover" (defArgs s_quick_cover) (defBody s_quick_cover) (defScope s_quick_cover) .none kV_quick_cover dc_quick_cover pm_quick_cover an_quick_cover cd_quick_cover ct_quick_cover), sl_quick_cover⟩)
    (cdw_quick_cover : PySem.W.codeIn K cd_quick_cover "quick_cover" = true)
    (kp_quick_cover : PySem.W.keepIn K (.ref f_quick_cover) = true)
    (a_harmonic : PySem.W.nsIn K mainGlobals "harmonic" = some (some (.ref f_harmonic)))
    (l_harmonic : K.lookup f_harmonic = some ⟨oc_harmonic, od_harmonic, .func (PySem.W.fnOf "harmonic" "harmonic" (defArgs s_harmonic) (defBody s_harmonic) (defScope s_harmonic) .none kV_harmonic dc_harmonic pm_harmonic an_harmonic cd_harmonic ct_harmonic), sl_harmonic⟩)
    (cdw_harmonic : PySem.W.codeIn K cd_harmonic "harmonic" = true)
    (kp_harmonic : PySem.W.keepIn K (.ref f_harmonic) = true)
    (a_cover_factor : PySem.W.nsIn K mainGlobals "cover_factor" = some (some (.ref f_cover_factor)))
    (l_cover_factor : K.lookup f_cover_factor = some ⟨oc_cover_factor, od_cover_factor, .func (PySem.W.fnOf "cover_factor" "cover_factor" (defArgs s_cover_factor) (defBody s_cover_factor) (defScope s_cover_factor) .none kV_cover_factor dc_cover_factor pm_cover_factor an_cover_factor cd_cover_factor ct_cover_factor), sl_cover_factor⟩)
    (cdw_cover_factor : PySem.W.codeIn K cd_cover_factor "cover_factor" = true)
    (kp_cover_factor : PySem.W.keepIn K (.ref f_cover_factor) = true)
    (a_are_cover : PySem.W.nsIn K mainGlobals "are_cover" = some (some (.ref f_are_cover)))
    (l_are_cover : K.lookup f_are_cover = some ⟨oc_are_cover, od_are_cover, .func (PySem.W.fnOf "are_cover" "are_cover" (defArgs s_are_cover) (defBody s_are_cover) (defScope s_are_cover) .none kV_are_cover dc_are_cover pm_are_cover an_are_cover cd_are_cover ct_are_cover), sl_are_cover⟩)
    (cdw_are_cover : PySem.W.codeIn K cd_are_cover "are_cover" = true)
    (kp_are_cover : PySem.W.keepIn K (.ref f_are_cover) = true)
    (a_check_shares : PySem.W.nsIn K mainGlobals "check_shares" = some (some (.ref f_check_shares)))
    (l_check_shares : K.lookup f_check_shares = some ⟨oc_check_shares, od_check_shares, .func (PySem.W.fnOf "check_shares" "check_shares" (defArgs s_check_shares) (defBody s_check_shares) (defScope s_check_shares) .none kV_check_shares dc_check_shares pm_check_shares an_check_shares cd_check_shares ct_check_shares), sl_check_shares⟩)
    (cdw_check_shares : PySem.W.codeIn K cd_check_shares "check_shares" = true)
    (kp_check_shares : PySem.W.keepIn K (.ref f_check_shares) = true)
    (a_cover_bound : PySem.W.nsIn K mainGlobals "cover_bound" = some (some (.ref f_cover_bound)))
    (l_cover_bound : K.lookup f_cover_bound = some ⟨oc_cover_bound, od_cover_bound, .func (PySem.W.fnOf "cover_bound" "cover_bound" (defArgs s_cover_bound) (defBody s_cover_bound) (defScope s_cover_bound) .none kV_cover_bound dc_cover_bound pm_cover_bound an_cover_bound cd_cover_bound ct_cover_bound), sl_cover_bound⟩)
    (cdw_cover_bound : PySem.W.codeIn K cd_cover_bound "cover_bound" = true)
    (kp_cover_bound : PySem.W.keepIn K (.ref f_cover_bound) = true)
    (a_law_numbers : PySem.W.nsIn K mainGlobals "_law_numbers" = some (some (.ref f_law_numbers)))
    (l_law_numbers : K.lookup f_law_numbers = some ⟨oc_law_numbers, od_law_numbers, .func (PySem.W.fnOf "_law_numbers" "_law_numbers" (defArgs s_law_numbers) (defBody s_law_numbers) (defScope s_law_numbers) .none kV_law_numbers dc_law_numbers pm_law_numbers an_law_numbers cd_law_numbers ct_law_numbers), sl_law_numbers⟩)
    (cdw_law_numbers : PySem.W.codeIn K cd_law_numbers "_law_numbers" = true)
    (kp_law_numbers : PySem.W.keepIn K (.ref f_law_numbers) = true)
    (a_law_lowest : PySem.W.nsIn K mainGlobals "_law_lowest" = some (some (.ref f_law_lowest)))
    (l_law_lowest : K.lookup f_law_lowest = some ⟨oc_law_lowest, od_law_lowest, .func (PySem.W.fnOf "_law_lowest" "_law_lowest" (defArgs s_law_lowest) (defBody s_law_lowest) (defScope s_law_lowest) .none kV_law_lowest dc_law_lowest pm_law_lowest an_law_lowest cd_law_lowest ct_law_lowest), sl_law_lowest⟩)
    (cdw_law_lowest : PySem.W.codeIn K cd_law_lowest "_law_lowest" = true)
    (kp_law_lowest : PySem.W.keepIn K (.ref f_law_lowest) = true)
    (a_law_plus : PySem.W.nsIn K mainGlobals "_law_plus" = some (some (.ref f_law_plus)))
    (l_law_plus : K.lookup f_law_plus = some ⟨oc_law_plus, od_law_plus, .func (PySem.W.fnOf "_law_plus" "_law_plus" (defArgs s_law_plus) (defBody s_law_plus) (defScope s_law_plus) .none kV_law_plus dc_law_plus pm_law_plus an_law_plus cd_law_plus ct_law_plus), sl_law_plus⟩)
    (cdw_law_plus : PySem.W.codeIn K cd_law_plus "_law_plus" = true)
    (kp_law_plus : PySem.W.keepIn K (.ref f_law_plus) = true)
    (a_law_added : PySem.W.nsIn K mainGlobals "_law_added" = some (some (.ref f_law_added)))
    (l_law_added : K.lookup f_law_added = some ⟨oc_law_added, od_law_added, .func (PySem.W.fnOf "_law_added" "_law_added" (defArgs s_law_added) (defBody s_law_added) (defScope s_law_added) .none kV_law_added dc_law_added pm_law_added an_law_added cd_law_added ct_law_added), sl_law_added⟩)
    (cdw_law_added : PySem.W.codeIn K cd_law_added "_law_added" = true)
    (kp_law_added : PySem.W.keepIn K (.ref f_law_added) = true)
    (a_law_sets : PySem.W.nsIn K mainGlobals "_law_sets" = some (some (.ref f_law_sets)))
    (l_law_sets : K.lookup f_law_sets = some ⟨oc_law_sets, od_law_sets, .func (PySem.W.fnOf "_law_sets" "_law_sets" (defArgs s_law_sets) (defBody s_law_sets) (defScope s_law_sets) .none kV_law_sets dc_law_sets pm_law_sets an_law_sets cd_law_sets ct_law_sets), sl_law_sets⟩)
    (cdw_law_sets : PySem.W.codeIn K cd_law_sets "_law_sets" = true)
    (kp_law_sets : PySem.W.keepIn K (.ref f_law_sets) = true)
    (a_law_quick : PySem.W.nsIn K mainGlobals "_law_quick" = some (some (.ref f_law_quick)))
    (l_law_quick : K.lookup f_law_quick = some ⟨oc_law_quick, od_law_quick, .func (PySem.W.fnOf "_law_quick" "_law_quick" (defArgs s_law_quick) (defBody s_law_quick) (defScope s_law_quick) .none kV_law_quick dc_law_quick pm_law_quick an_law_quick cd_law_quick ct_law_quick), sl_law_quick⟩)
    (cdw_law_quick : PySem.W.codeIn K cd_law_quick "_law_quick" = true)
    (kp_law_quick : PySem.W.keepIn K (.ref f_law_quick) = true)
    (a_law_refused : PySem.W.nsIn K mainGlobals "_law_refused" = some (some (.ref f_law_refused)))
    (l_law_refused : K.lookup f_law_refused = some ⟨oc_law_refused, od_law_refused, .func (PySem.W.fnOf "_law_refused" "_law_refused" (defArgs s_law_refused) (defBody s_law_refused) (defScope s_law_refused) .none kV_law_refused dc_law_refused pm_law_refused an_law_refused cd_law_refused ct_law_refused), sl_law_refused⟩)
    (cdw_law_refused : PySem.W.codeIn K cd_law_refused "_law_refused" = true)
    (kp_law_refused : PySem.W.keepIn K (.ref f_law_refused) = true)
    (a_law_refusals : PySem.W.nsIn K mainGlobals "_law_refusals" = some (some (.ref f_law_refusals)))
    (l_law_refusals : K.lookup f_law_refusals = some ⟨oc_law_refusals, od_law_refusals, .func (PySem.W.fnOf "_law_refusals" "_law_refusals" (defArgs s_law_refusals) (defBody s_law_refusals) (defScope s_law_refusals) .none kV_law_refusals dc_law_refusals pm_law_refusals an_law_refusals cd_law_refusals ct_law_refusals), sl_law_refusals⟩)
    (cdw_law_refusals : PySem.W.codeIn K cd_law_refusals "_law_refusals" = true)
    (kp_law_refusals : PySem.W.keepIn K (.ref f_law_refusals) = true)
    (a_law : PySem.W.nsIn K mainGlobals "law" = some (some (.ref f_law)))
    (l_law : K.lookup f_law = some ⟨oc_law, od_law, .func (PySem.W.fnOf "law" "law" (defArgs s_law) (defBody s_law) (defScope s_law) .none kV_law dc_law pm_law an_law cd_law ct_law), sl_law⟩)
    (cdw_law : PySem.W.codeIn K cd_law "law" = true)
    (kp_law : PySem.W.keepIn K (.ref f_law) = true)
    (pg_Program : PySem.W.plainGet K c_Program Str.empty = true)
    (hd_Program : PySem.W.hasDictIn K c_Program = true)
    (po_Program : PySem.W.plainOver K c_Program = true)
    (sa_Program : PySem.W.findIn K (.ref c_Program) "__setattr__" = some (some (.builtin "object.__setattr__")))
    (mk_Program : PySem.W.makesIn K c_Program = true)
    (kc_Program : PySem.W.keepIn K (.ref c_Program) = true)
    (na_Program__prices : PySem.W.findIn K (.ref c_Program) "_prices" = some none)
    (na_Program__rows : PySem.W.findIn K (.ref c_Program) "_rows" = some none)
    (gt : PySem.W.specialIn K (.builtin "object.__class__") "__get__" = some (some (.builtin "getset_descriptor.__get__")))
    (tk : PySem.W.takesIn K (.builtin "object.__class__") = some true)
    (ib : PySem.W.isClsIn K c_WebError = true)
    (xL_WebError : K.lookup c_WebError = some (excClassObj nm_WebError qn_WebError c_WebError N_WebError bs_WebError bm_WebError true st_WebError sub_WebError ab_WebError col_WebError dd_WebError m0_WebError m1_WebError m2_WebError m3_WebError m5_WebError "ValueError.__new__"))
    (rv_WebError : PySem.HandSPX.refsVE bm_WebError = true)
    (sa_WebError : PySem.W.findIn K (.ref c_WebError) "__setattr__" = some (some (.builtin "object.__setattr__")))
    (ga_WebError : PySem.W.findIn K (.ref c_WebError) "__getattribute__" = some (some (.builtin "BaseException.__getattribute__")))
    (gg_WebError : PySem.W.findIn K (.ref c_WebError) "__getattr__" = some none)
    (nb_WebError : PySem.W.findIn K (.ref c_WebError) "at" = some none)
    (in_WebError : PySem.W.findIn K (.ref c_WebError) "__init__" = some (some (.ref f_WebError___init__)))
    (eC_WebError : PySem.W.subIn K (.ref c_WebError) (.type "BaseException") = some true)
    (tC_WebError : PySem.W.typeIn K (.ref c_WebError) = some (.type "type"))
    (hC_WebError : PySem.W.hasDictIn K c_WebError = true)
    (kC_WebError : PySem.W.keepIn K (.ref c_WebError) = true)
    (cl_WebError : PySem.W.findIn K (.ref c_WebError) "__class__" = some (some (.builtin "object.__class__")))
    (mr_WebError : PySem.W.mroIn K c_WebError (.type "object") = some true)
    (xL_OutOfRange : K.lookup c_OutOfRange = some (excClassObj nm_OutOfRange qn_OutOfRange c_OutOfRange N_OutOfRange bs_OutOfRange bm_OutOfRange true st_OutOfRange sub_OutOfRange ab_OutOfRange col_OutOfRange dd_OutOfRange m0_OutOfRange m1_OutOfRange m2_OutOfRange m3_OutOfRange m5_OutOfRange "ValueError.__new__"))
    (rv_OutOfRange : PySem.HandSPX.refsVE bm_OutOfRange = true)
    (sa_OutOfRange : PySem.W.findIn K (.ref c_OutOfRange) "__setattr__" = some (some (.builtin "object.__setattr__")))
    (ga_OutOfRange : PySem.W.findIn K (.ref c_OutOfRange) "__getattribute__" = some (some (.builtin "BaseException.__getattribute__")))
    (gg_OutOfRange : PySem.W.findIn K (.ref c_OutOfRange) "__getattr__" = some none)
    (nb_OutOfRange : PySem.W.findIn K (.ref c_OutOfRange) "at" = some none)
    (in_OutOfRange : PySem.W.findIn K (.ref c_OutOfRange) "__init__" = some (some (.ref f_WebError___init__)))
    (eC_OutOfRange : PySem.W.subIn K (.ref c_OutOfRange) (.type "BaseException") = some true)
    (tC_OutOfRange : PySem.W.typeIn K (.ref c_OutOfRange) = some (.type "type"))
    (hC_OutOfRange : PySem.W.hasDictIn K c_OutOfRange = true)
    (kC_OutOfRange : PySem.W.keepIn K (.ref c_OutOfRange) = true)
    (cl_OutOfRange : PySem.W.findIn K (.ref c_OutOfRange) "__class__" = some (some (.builtin "object.__class__")))
    (mr_OutOfRange : PySem.W.mroIn K c_OutOfRange (.type "object") = some true)
    (sb_OutOfRange : PySem.W.subIn K (.ref c_OutOfRange) (.ref c_WebError) = some true)
    (is_OutOfRange_OutOfRange : PySem.W.kitOne K (.ref c_OutOfRange) (.ref c_OutOfRange) = some true)
    (is_OutOfRange_BadPrice : PySem.W.kitOne K (.ref c_OutOfRange) (.ref c_BadPrice) = some false)
    (is_OutOfRange_TooMany : PySem.W.kitOne K (.ref c_OutOfRange) (.ref c_TooMany) = some false)
    (is_OutOfRange_ZeroDivisor : PySem.W.kitOne K (.ref c_OutOfRange) (.ref c_ZeroDivisor) = some false)
    (is_OutOfRange_BadRelation : PySem.W.kitOne K (.ref c_OutOfRange) (.ref c_BadRelation) = some false)
    (is_OutOfRange_WrongSize : PySem.W.kitOne K (.ref c_OutOfRange) (.ref c_WrongSize) = some false)
    (is_OutOfRange_BadSet : PySem.W.kitOne K (.ref c_OutOfRange) (.ref c_BadSet) = some false)
    (xL_BadPrice : K.lookup c_BadPrice = some (excClassObj nm_BadPrice qn_BadPrice c_BadPrice N_BadPrice bs_BadPrice bm_BadPrice true st_BadPrice sub_BadPrice ab_BadPrice col_BadPrice dd_BadPrice m0_BadPrice m1_BadPrice m2_BadPrice m3_BadPrice m5_BadPrice "ValueError.__new__"))
    (rv_BadPrice : PySem.HandSPX.refsVE bm_BadPrice = true)
    (sa_BadPrice : PySem.W.findIn K (.ref c_BadPrice) "__setattr__" = some (some (.builtin "object.__setattr__")))
    (ga_BadPrice : PySem.W.findIn K (.ref c_BadPrice) "__getattribute__" = some (some (.builtin "BaseException.__getattribute__")))
    (gg_BadPrice : PySem.W.findIn K (.ref c_BadPrice) "__getattr__" = some none)
    (nb_BadPrice : PySem.W.findIn K (.ref c_BadPrice) "at" = some none)
    (in_BadPrice : PySem.W.findIn K (.ref c_BadPrice) "__init__" = some (some (.ref f_WebError___init__)))
    (eC_BadPrice : PySem.W.subIn K (.ref c_BadPrice) (.type "BaseException") = some true)
    (tC_BadPrice : PySem.W.typeIn K (.ref c_BadPrice) = some (.type "type"))
    (hC_BadPrice : PySem.W.hasDictIn K c_BadPrice = true)
    (kC_BadPrice : PySem.W.keepIn K (.ref c_BadPrice) = true)
    (cl_BadPrice : PySem.W.findIn K (.ref c_BadPrice) "__class__" = some (some (.builtin "object.__class__")))
    (mr_BadPrice : PySem.W.mroIn K c_BadPrice (.type "object") = some true)
    (sb_BadPrice : PySem.W.subIn K (.ref c_BadPrice) (.ref c_WebError) = some true)
    (is_BadPrice_OutOfRange : PySem.W.kitOne K (.ref c_BadPrice) (.ref c_OutOfRange) = some false)
    (is_BadPrice_BadPrice : PySem.W.kitOne K (.ref c_BadPrice) (.ref c_BadPrice) = some true)
    (is_BadPrice_TooMany : PySem.W.kitOne K (.ref c_BadPrice) (.ref c_TooMany) = some false)
    (is_BadPrice_ZeroDivisor : PySem.W.kitOne K (.ref c_BadPrice) (.ref c_ZeroDivisor) = some false)
    (is_BadPrice_BadRelation : PySem.W.kitOne K (.ref c_BadPrice) (.ref c_BadRelation) = some false)
    (is_BadPrice_WrongSize : PySem.W.kitOne K (.ref c_BadPrice) (.ref c_WrongSize) = some false)
    (is_BadPrice_BadSet : PySem.W.kitOne K (.ref c_BadPrice) (.ref c_BadSet) = some false)
    (xL_TooMany : K.lookup c_TooMany = some (excClassObj nm_TooMany qn_TooMany c_TooMany N_TooMany bs_TooMany bm_TooMany true st_TooMany sub_TooMany ab_TooMany col_TooMany dd_TooMany m0_TooMany m1_TooMany m2_TooMany m3_TooMany m5_TooMany "ValueError.__new__"))
    (rv_TooMany : PySem.HandSPX.refsVE bm_TooMany = true)
    (sa_TooMany : PySem.W.findIn K (.ref c_TooMany) "__setattr__" = some (some (.builtin "object.__setattr__")))
    (ga_TooMany : PySem.W.findIn K (.ref c_TooMany) "__getattribute__" = some (some (.builtin "BaseException.__getattribute__")))
    (gg_TooMany : PySem.W.findIn K (.ref c_TooMany) "__getattr__" = some none)
    (nb_TooMany : PySem.W.findIn K (.ref c_TooMany) "at" = some none)
    (in_TooMany : PySem.W.findIn K (.ref c_TooMany) "__init__" = some (some (.ref f_WebError___init__)))
    (eC_TooMany : PySem.W.subIn K (.ref c_TooMany) (.type "BaseException") = some true)
    (tC_TooMany : PySem.W.typeIn K (.ref c_TooMany) = some (.type "type"))
    (hC_TooMany : PySem.W.hasDictIn K c_TooMany = true)
    (kC_TooMany : PySem.W.keepIn K (.ref c_TooMany) = true)
    (cl_TooMany : PySem.W.findIn K (.ref c_TooMany) "__class__" = some (some (.builtin "object.__class__")))
    (mr_TooMany : PySem.W.mroIn K c_TooMany (.type "object") = some true)
    (sb_TooMany : PySem.W.subIn K (.ref c_TooMany) (.ref c_WebError) = some true)
    (is_TooMany_OutOfRange : PySem.W.kitOne K (.ref c_TooMany) (.ref c_OutOfRange) = some false)
    (is_TooMany_BadPrice : PySem.W.kitOne K (.ref c_TooMany) (.ref c_BadPrice) = some false)
    (is_TooMany_TooMany : PySem.W.kitOne K (.ref c_TooMany) (.ref c_TooMany) = some true)
    (is_TooMany_ZeroDivisor : PySem.W.kitOne K (.ref c_TooMany) (.ref c_ZeroDivisor) = some false)
    (is_TooMany_BadRelation : PySem.W.kitOne K (.ref c_TooMany) (.ref c_BadRelation) = some false)
    (is_TooMany_WrongSize : PySem.W.kitOne K (.ref c_TooMany) (.ref c_WrongSize) = some false)
    (is_TooMany_BadSet : PySem.W.kitOne K (.ref c_TooMany) (.ref c_BadSet) = some false)
    (xL_ZeroDivisor : K.lookup c_ZeroDivisor = some (excClassObj nm_ZeroDivisor qn_ZeroDivisor c_ZeroDivisor N_ZeroDivisor bs_ZeroDivisor bm_ZeroDivisor true st_ZeroDivisor sub_ZeroDivisor ab_ZeroDivisor col_ZeroDivisor dd_ZeroDivisor m0_ZeroDivisor m1_ZeroDivisor m2_ZeroDivisor m3_ZeroDivisor m5_ZeroDivisor "ValueError.__new__"))
    (rv_ZeroDivisor : PySem.HandSPX.refsVE bm_ZeroDivisor = true)
    (sa_ZeroDivisor : PySem.W.findIn K (.ref c_ZeroDivisor) "__setattr__" = some (some (.builtin "object.__setattr__")))
    (ga_ZeroDivisor : PySem.W.findIn K (.ref c_ZeroDivisor) "__getattribute__" = some (some (.builtin "BaseException.__getattribute__")))
    (gg_ZeroDivisor : PySem.W.findIn K (.ref c_ZeroDivisor) "__getattr__" = some none)
    (nb_ZeroDivisor : PySem.W.findIn K (.ref c_ZeroDivisor) "at" = some none)
    (in_ZeroDivisor : PySem.W.findIn K (.ref c_ZeroDivisor) "__init__" = some (some (.ref f_WebError___init__)))
    (eC_ZeroDivisor : PySem.W.subIn K (.ref c_ZeroDivisor) (.type "BaseException") = some true)
    (tC_ZeroDivisor : PySem.W.typeIn K (.ref c_ZeroDivisor) = some (.type "type"))
    (hC_ZeroDivisor : PySem.W.hasDictIn K c_ZeroDivisor = true)
    (kC_ZeroDivisor : PySem.W.keepIn K (.ref c_ZeroDivisor) = true)
    (cl_ZeroDivisor : PySem.W.findIn K (.ref c_ZeroDivisor) "__class__" = some (some (.builtin "object.__class__")))
    (mr_ZeroDivisor : PySem.W.mroIn K c_ZeroDivisor (.type "object") = some true)
    (sb_ZeroDivisor : PySem.W.subIn K (.ref c_ZeroDivisor) (.ref c_WebError) = some true)
    (is_ZeroDivisor_OutOfRange : PySem.W.kitOne K (.ref c_ZeroDivisor) (.ref c_OutOfRange) = some false)
    (is_ZeroDivisor_BadPrice : PySem.W.kitOne K (.ref c_ZeroDivisor) (.ref c_BadPrice) = some false)
    (is_ZeroDivisor_TooMany : PySem.W.kitOne K (.ref c_ZeroDivisor) (.ref c_TooMany) = some false)
    (is_ZeroDivisor_ZeroDivisor : PySem.W.kitOne K (.ref c_ZeroDivisor) (.ref c_ZeroDivisor) = some true)
    (is_ZeroDivisor_BadRelation : PySem.W.kitOne K (.ref c_ZeroDivisor) (.ref c_BadRelation) = some false)
    (is_ZeroDivisor_WrongSize : PySem.W.kitOne K (.ref c_ZeroDivisor) (.ref c_WrongSize) = some false)
    (is_ZeroDivisor_BadSet : PySem.W.kitOne K (.ref c_ZeroDivisor) (.ref c_BadSet) = some false)
    (xL_BadRelation : K.lookup c_BadRelation = some (excClassObj nm_BadRelation qn_BadRelation c_BadRelation N_BadRelation bs_BadRelation bm_BadRelation true st_BadRelation sub_BadRelation ab_BadRelation col_BadRelation dd_BadRelation m0_BadRelation m1_BadRelation m2_BadRelation m3_BadRelation m5_BadRelation "ValueError.__new__"))
    (rv_BadRelation : PySem.HandSPX.refsVE bm_BadRelation = true)
    (sa_BadRelation : PySem.W.findIn K (.ref c_BadRelation) "__setattr__" = some (some (.builtin "object.__setattr__")))
    (ga_BadRelation : PySem.W.findIn K (.ref c_BadRelation) "__getattribute__" = some (some (.builtin "BaseException.__getattribute__")))
    (gg_BadRelation : PySem.W.findIn K (.ref c_BadRelation) "__getattr__" = some none)
    (nb_BadRelation : PySem.W.findIn K (.ref c_BadRelation) "at" = some none)
    (in_BadRelation : PySem.W.findIn K (.ref c_BadRelation) "__init__" = some (some (.ref f_WebError___init__)))
    (eC_BadRelation : PySem.W.subIn K (.ref c_BadRelation) (.type "BaseException") = some true)
    (tC_BadRelation : PySem.W.typeIn K (.ref c_BadRelation) = some (.type "type"))
    (hC_BadRelation : PySem.W.hasDictIn K c_BadRelation = true)
    (kC_BadRelation : PySem.W.keepIn K (.ref c_BadRelation) = true)
    (cl_BadRelation : PySem.W.findIn K (.ref c_BadRelation) "__class__" = some (some (.builtin "object.__class__")))
    (mr_BadRelation : PySem.W.mroIn K c_BadRelation (.type "object") = some true)
    (sb_BadRelation : PySem.W.subIn K (.ref c_BadRelation) (.ref c_WebError) = some true)
    (is_BadRelation_OutOfRange : PySem.W.kitOne K (.ref c_BadRelation) (.ref c_OutOfRange) = some false)
    (is_BadRelation_BadPrice : PySem.W.kitOne K (.ref c_BadRelation) (.ref c_BadPrice) = some false)
    (is_BadRelation_TooMany : PySem.W.kitOne K (.ref c_BadRelation) (.ref c_TooMany) = some false)
    (is_BadRelation_ZeroDivisor : PySem.W.kitOne K (.ref c_BadRelation) (.ref c_ZeroDivisor) = some false)
    (is_BadRelation_BadRelation : PySem.W.kitOne K (.ref c_BadRelation) (.ref c_BadRelation) = some true)
    (is_BadRelation_WrongSize : PySem.W.kitOne K (.ref c_BadRelation) (.ref c_WrongSize) = some false)
    (is_BadRelation_BadSet : PySem.W.kitOne K (.ref c_BadRelation) (.ref c_BadSet) = some false)
    (xL_WrongSize : K.lookup c_WrongSize = some (excClassObj nm_WrongSize qn_WrongSize c_WrongSize N_WrongSize bs_WrongSize bm_WrongSize true st_WrongSize sub_WrongSize ab_WrongSize col_WrongSize dd_WrongSize m0_WrongSize m1_WrongSize m2_WrongSize m3_WrongSize m5_WrongSize "ValueError.__new__"))
    (rv_WrongSize : PySem.HandSPX.refsVE bm_WrongSize = true)
    (sa_WrongSize : PySem.W.findIn K (.ref c_WrongSize) "__setattr__" = some (some (.builtin "object.__setattr__")))
    (ga_WrongSize : PySem.W.findIn K (.ref c_WrongSize) "__getattribute__" = some (some (.builtin "BaseException.__getattribute__")))
    (gg_WrongSize : PySem.W.findIn K (.ref c_WrongSize) "__getattr__" = some none)
    (nb_WrongSize : PySem.W.findIn K (.ref c_WrongSize) "at" = some none)
    (in_WrongSize : PySem.W.findIn K (.ref c_WrongSize) "__init__" = some (some (.ref f_WebError___init__)))
    (eC_WrongSize : PySem.W.subIn K (.ref c_WrongSize) (.type "BaseException") = some true)
    (tC_WrongSize : PySem.W.typeIn K (.ref c_WrongSize) = some (.type "type"))
    (hC_WrongSize : PySem.W.hasDictIn K c_WrongSize = true)
    (kC_WrongSize : PySem.W.keepIn K (.ref c_WrongSize) = true)
    (cl_WrongSize : PySem.W.findIn K (.ref c_WrongSize) "__class__" = some (some (.builtin "object.__class__")))
    (mr_WrongSize : PySem.W.mroIn K c_WrongSize (.type "object") = some true)
    (sb_WrongSize : PySem.W.subIn K (.ref c_WrongSize) (.ref c_WebError) = some true)
    (is_WrongSize_OutOfRange : PySem.W.kitOne K (.ref c_WrongSize) (.ref c_OutOfRange) = some false)
    (is_WrongSize_BadPrice : PySem.W.kitOne K (.ref c_WrongSize) (.ref c_BadPrice) = some false)
    (is_WrongSize_TooMany : PySem.W.kitOne K (.ref c_WrongSize) (.ref c_TooMany) = some false)
    (is_WrongSize_ZeroDivisor : PySem.W.kitOne K (.ref c_WrongSize) (.ref c_ZeroDivisor) = some false)
    (is_WrongSize_BadRelation : PySem.W.kitOne K (.ref c_WrongSize) (.ref c_BadRelation) = some false)
    (is_WrongSize_WrongSize : PySem.W.kitOne K (.ref c_WrongSize) (.ref c_WrongSize) = some true)
    (is_WrongSize_BadSet : PySem.W.kitOne K (.ref c_WrongSize) (.ref c_BadSet) = some false)
    (xL_BadSet : K.lookup c_BadSet = some (excClassObj nm_BadSet qn_BadSet c_BadSet N_BadSet bs_BadSet bm_BadSet true st_BadSet sub_BadSet ab_BadSet col_BadSet dd_BadSet m0_BadSet m1_BadSet m2_BadSet m3_BadSet m5_BadSet "ValueError.__new__"))
    (rv_BadSet : PySem.HandSPX.refsVE bm_BadSet = true)
    (sa_BadSet : PySem.W.findIn K (.ref c_BadSet) "__setattr__" = some (some (.builtin "object.__setattr__")))
    (ga_BadSet : PySem.W.findIn K (.ref c_BadSet) "__getattribute__" = some (some (.builtin "BaseException.__getattribute__")))
    (gg_BadSet : PySem.W.findIn K (.ref c_BadSet) "__getattr__" = some none)
    (nb_BadSet : PySem.W.findIn K (.ref c_BadSet) "at" = some none)
    (in_BadSet : PySem.W.findIn K (.ref c_BadSet) "__init__" = some (some (.ref f_WebError___init__)))
    (eC_BadSet : PySem.W.subIn K (.ref c_BadSet) (.type "BaseException") = some true)
    (tC_BadSet : PySem.W.typeIn K (.ref c_BadSet) = some (.type "type"))
    (hC_BadSet : PySem.W.hasDictIn K c_BadSet = true)
    (kC_BadSet : PySem.W.keepIn K (.ref c_BadSet) = true)
    (cl_BadSet : PySem.W.findIn K (.ref c_BadSet) "__class__" = some (some (.builtin "object.__class__")))
    (mr_BadSet : PySem.W.mroIn K c_BadSet (.type "object") = some true)
    (sb_BadSet : PySem.W.subIn K (.ref c_BadSet) (.ref c_WebError) = some true)
    (is_BadSet_OutOfRange : PySem.W.kitOne K (.ref c_BadSet) (.ref c_OutOfRange) = some false)
    (is_BadSet_BadPrice : PySem.W.kitOne K (.ref c_BadSet) (.ref c_BadPrice) = some false)
    (is_BadSet_TooMany : PySem.W.kitOne K (.ref c_BadSet) (.ref c_TooMany) = some false)
    (is_BadSet_ZeroDivisor : PySem.W.kitOne K (.ref c_BadSet) (.ref c_ZeroDivisor) = some false)
    (is_BadSet_BadRelation : PySem.W.kitOne K (.ref c_BadSet) (.ref c_BadRelation) = some false)
    (is_BadSet_WrongSize : PySem.W.kitOne K (.ref c_BadSet) (.ref c_WrongSize) = some false)
    (is_BadSet_BadSet : PySem.W.kitOne K (.ref c_BadSet) (.ref c_BadSet) = some true)
    (z_abs : PySem.W.nsIn K mainGlobals "abs" = some none)
    (z_all : PySem.W.nsIn K mainGlobals "all" = some none)
    (z_enumerate : PySem.W.nsIn K mainGlobals "enumerate" = some none)
    (z_int : PySem.W.nsIn K mainGlobals "int" = some none)
    (z_isinstance : PySem.W.nsIn K mainGlobals "isinstance" = some none)
    (z_len : PySem.W.nsIn K mainGlobals "len" = some none)
    (z_list : PySem.W.nsIn K mainGlobals "list" = some none)
    (z_max : PySem.W.nsIn K mainGlobals "max" = some none)
    (z_range : PySem.W.nsIn K mainGlobals "range" = some none)
    (z_repr : PySem.W.nsIn K mainGlobals "repr" = some none)
    (z_set : PySem.W.nsIn K mainGlobals "set" = some none)
    (z_sorted : PySem.W.nsIn K mainGlobals "sorted" = some none)
    (z_sum : PySem.W.nsIn K mainGlobals "sum" = some none)
    (z_gcd : PySem.W.nsIn K mainGlobals "gcd" = some (some (.builtin "math.gcd")))
    (z_lcm : PySem.W.nsIn K mainGlobals "lcm" = some (some (.builtin "math.lcm")))
    (k_MOST_PRICE : PySem.W.nsIn K mainGlobals "MOST_PRICE" = some (some (.int 1048576 t_MOST_PRICE)))
    (k_MOST_VARIABLES : PySem.W.nsIn K mainGlobals "MOST_VARIABLES" = some (some (.int 40 t_MOST_VARIABLES)))
    (k_MOST_ROWS : PySem.W.nsIn K mainGlobals "MOST_ROWS" = some (some (.int 80 t_MOST_ROWS)))
    (k_MOST_ELEMENTS : PySem.W.nsIn K mainGlobals "MOST_ELEMENTS" = some (some (.int 40 t_MOST_ELEMENTS)))
    (k_MOST_SETS : PySem.W.nsIn K mainGlobals "MOST_SETS" = some (some (.int 40 t_MOST_SETS)))
    (aC_RELATIONS : PySem.W.nsIn K mainGlobals "RELATIONS" = some (some (.ref c_RELATIONS)))
    (l_RELATIONS : K.lookup c_RELATIONS = some ⟨oc_RELATIONS, od_RELATIONS, .seq it_RELATIONS sn_RELATIONS, sl_RELATIONS⟩)
    (v_RELATIONS : oc_RELATIONS = .type "tuple" ∧ it_RELATIONS.size ≤ sizeLine ∧ Vals ([PySem.Str.ofString "least", PySem.Str.ofString "most", PySem.Str.ofString "equal"].map V.str) it_RELATIONS.toList)
    : ∃ fd : FuncData, (∀ (s : Shared) (u : Value), BindsTo s fd ⟨[u], []⟩ [("script", u)]) ∧ ∀ base : Heap, K.In base → base.Ns mainGlobals mg → Z.RunAt P w K mg base (L2.CX P w) 10 fa fd ["script"] (spLaw K) := by
  have e := hfa.symm.trans (PySem.W.mg_of X G a_law)
  have e2 : f_law = fa := by cases e; rfl
  subst e2
  have F_WebError___init__ := fun_mk (st := s_WebError___init__) l_WebError___init__ cdw_WebError___init__ kp_WebError___init__
  have b_WebError___init__ := F_WebError___init__.binds (ps := ["self", "at"]) fun _ _ _ _ _ _ us hl => match us, hl with | [_, _], _ => rfl
  have F_is_ascending := fun_mk (st := s_is_ascending) l_is_ascending cdw_is_ascending kp_is_ascending
  have b_is_ascending := F_is_ascending.binds (ps := ["numbers", "many"]) fun _ _ _ _ _ _ us hl => match us, hl with | [_, _], _ => rfl
  have F_is_price := fun_mk (st := s_is_price) l_is_price cdw_is_price kp_is_price
  have b_is_price := F_is_price.binds (ps := ["price"]) fun _ _ _ _ _ _ us hl => match us, hl with | [_], _ => rfl
  have F_fraction := fun_mk (st := s_fraction) l_fraction cdw_fraction kp_fraction
  have b_fraction := F_fraction.binds (ps := ["numerator", "denominator"]) fun _ _ _ _ _ _ us hl => match us, hl with | [_, _], _ => rfl
  have F_times := fun_mk (st := s_times) l_times cdw_times kp_times
  have b_times := F_times.binds (ps := ["first", "second"]) fun _ _ _ _ _ _ us hl => match us, hl with | [_, _], _ => rfl
  have F_over := fun_mk (st := s_over) l_over cdw_over kp_over
  have b_over := F_over.binds (ps := ["first", "second"]) fun _ _ _ _ _ _ us hl => match us, hl with | [_, _], _ => rfl
  have F_is_less := fun_mk (st := s_is_less) l_is_less cdw_is_less kp_is_less
  have b_is_less := F_is_less.binds (ps := ["first", "second"]) fun _ _ _ _ _ _ us hl => match us, hl with | [_, _], _ => rfl
  have F_scaled := fun_mk (st := s_scaled) l_scaled cdw_scaled kp_scaled
  have b_scaled := F_scaled.binds (ps := ["fractions"]) fun _ _ _ _ _ _ us hl => match us, hl with | [_], _ => rfl
  have F_added := fun_mk (st := s_added) l_added cdw_added kp_added
  have b_added := F_added.binds (ps := ["fractions"]) fun _ _ _ _ _ _ us hl => match us, hl with | [_], _ => rfl
  have F_Program___init__ := fun_mk (st := s_Program___init__) l_Program___init__ cdw_Program___init__ kp_Program___init__
  have b_Program___init__ := F_Program___init__.binds (ps := ["self", "prices", "rows"]) fun _ _ _ _ _ _ us hl => match us, hl with | [_, _, _], _ => rfl
  have F_Program_prices := fun_mk (st := s_Program_prices) l_Program_prices cdw_Program_prices kp_Program_prices
  have b_Program_prices := F_Program_prices.binds (ps := ["self"]) fun _ _ _ _ _ _ us hl => match us, hl with | [_], _ => rfl
  have F_Program_rows := fun_mk (st := s_Program_rows) l_Program_rows cdw_Program_rows kp_Program_rows
  have b_Program_rows := F_Program_rows.binds (ps := ["self"]) fun _ _ _ _ _ _ us hl => match us, hl with | [_], _ => rfl
  have F_need_sets := fun_mk (st := s_need_sets) l_need_sets cdw_need_sets kp_need_sets
  have b_need_sets := F_need_sets.binds (ps := ["size", "sets"]) fun _ _ _ _ _ _ us hl => match us, hl with | [_, _], _ => rfl
  have F_cover_program := fun_mk (st := s_cover_program) l_cover_program cdw_cover_program kp_cover_program
  have b_cover_program := F_cover_program.binds (ps := ["size", "sets"]) fun _ _ _ _ _ _ us hl => match us, hl with | [_, _], _ => rfl
  have F_cheapest_set := fun_mk (st := s_cheapest_set) l_cheapest_set cdw_cheapest_set kp_cheapest_set
  have b_cheapest_set := F_cheapest_set.binds (ps := ["sets", "covered"]) fun _ _ _ _ _ _ us hl => match us, hl with | [_, _], _ => rfl
  have F_quick_cover := fun_mk (st := s_quick_cover) l_quick_cover cdw_quick_cover kp_quick_cover
  have b_quick_cover := F_quick_cover.binds (ps := ["size", "sets"]) fun _ _ _ _ _ _ us hl => match us, hl with | [_, _], _ => rfl
  have F_harmonic := fun_mk (st := s_harmonic) l_harmonic cdw_harmonic kp_harmonic
  have b_harmonic := F_harmonic.binds (ps := ["many"]) fun _ _ _ _ _ _ us hl => match us, hl with | [_], _ => rfl
  have F_cover_factor := fun_mk (st := s_cover_factor) l_cover_factor cdw_cover_factor kp_cover_factor
  have b_cover_factor := F_cover_factor.binds (ps := ["size", "sets"]) fun _ _ _ _ _ _ us hl => match us, hl with | [_, _], _ => rfl
  have F_are_cover := fun_mk (st := s_are_cover) l_are_cover cdw_are_cover kp_are_cover
  have b_are_cover := F_are_cover.binds (ps := ["size", "sets", "taken"]) fun _ _ _ _ _ _ us hl => match us, hl with | [_, _, _], _ => rfl
  have F_check_shares := fun_mk (st := s_check_shares) l_check_shares cdw_check_shares kp_check_shares
  have b_check_shares := F_check_shares.binds (ps := ["size", "sets", "taken", "shares"]) fun _ _ _ _ _ _ us hl => match us, hl with | [_, _, _, _], _ => rfl
  have F_cover_bound := fun_mk (st := s_cover_bound) l_cover_bound cdw_cover_bound kp_cover_bound
  have b_cover_bound := F_cover_bound.binds (ps := ["size", "sets", "shares"]) fun _ _ _ _ _ _ us hl => match us, hl with | [_, _, _], _ => rfl
  have F_law_numbers := fun_mk (st := s_law_numbers) l_law_numbers cdw_law_numbers kp_law_numbers
  have b_law_numbers := F_law_numbers.binds (ps := ["script", "many"]) fun _ _ _ _ _ _ us hl => match us, hl with | [_, _], _ => rfl
  have F_law_lowest := fun_mk (st := s_law_lowest) l_law_lowest cdw_law_lowest kp_law_lowest
  have b_law_lowest := F_law_lowest.binds (ps := ["p", "q"]) fun _ _ _ _ _ _ us hl => match us, hl with | [_, _], _ => rfl
  have F_law_plus := fun_mk (st := s_law_plus) l_law_plus cdw_law_plus kp_law_plus
  have b_law_plus := F_law_plus.binds (ps := ["first", "second"]) fun _ _ _ _ _ _ us hl => match us, hl with | [_, _], _ => rfl
  have F_law_added := fun_mk (st := s_law_added) l_law_added cdw_law_added kp_law_added
  have b_law_added := F_law_added.binds (ps := ["rows"]) fun _ _ _ _ _ _ us hl => match us, hl with | [_], _ => rfl
  have F_law_sets := fun_mk (st := s_law_sets) l_law_sets cdw_law_sets kp_law_sets
  have b_law_sets := F_law_sets.binds (ps := ["numbers", "at", "most", "many"]) fun _ _ _ _ _ _ us hl => match us, hl with | [_, _, _, _], _ => rfl
  have F_law_quick := fun_mk (st := s_law_quick) l_law_quick cdw_law_quick kp_law_quick
  have b_law_quick := F_law_quick.binds (ps := ["size", "sets"]) fun _ _ _ _ _ _ us hl => match us, hl with | [_, _], _ => rfl
  have F_law_refused := fun_mk (st := s_law_refused) l_law_refused cdw_law_refused kp_law_refused
  have b_law_refused := F_law_refused.binds (ps := ["way", "size", "sets"]) fun _ _ _ _ _ _ us hl => match us, hl with | [_, _, _], _ => rfl
  have F_law_refusals := fun_mk (st := s_law_refusals) l_law_refusals cdw_law_refusals kp_law_refusals
  have b_law_refusals := F_law_refusals.binds (ps := ["numbers", "size", "sets"]) fun _ _ _ _ _ _ us hl => match us, hl with | [_, _, _], _ => rfl
  have F_law := fun_mk (st := s_law) l_law cdw_law kp_law
  have b_law := F_law.binds (ps := ["script"]) fun _ _ _ _ _ _ us hl => match us, hl with | [_], _ => rfl
  exact ⟨PySem.W.fnOf "law" "law" (defArgs s_law) (defBody s_law) (defScope s_law) .none kV_law dc_law pm_law an_law cd_law ct_law, fun s u => .of_eq rfl, fun base _ _ => ok_law (K := K) (mg := mg) {
    f_WebError___init__ := f_WebError___init__,
    fd_WebError___init__ := PySem.W.fnOf "__init__" "WebError.__init__" (defArgs s_WebError___init__) (defBody s_WebError___init__) (defScope s_WebError___init__) .none kV_WebError___init__ dc_WebError___init__ pm_WebError___init__ an_WebError___init__ cd_WebError___init__ ct_WebError___init__,
    F_WebError___init__ := F_WebError___init__,
    b_WebError___init__ := b_WebError___init__,
    f_is_ascending := f_is_ascending,
    fd_is_ascending := PySem.W.fnOf "is_ascending" "is_ascending" (defArgs s_is_ascending) (defBody s_is_ascending) (defScope s_is_ascending) .none kV_is_ascending dc_is_ascending pm_is_ascending an_is_ascending cd_is_ascending ct_is_ascending,
    F_is_ascending := F_is_ascending,
    b_is_ascending := b_is_ascending,
    g_is_ascending := PySem.W.mg_of X G a_is_ascending,
    f_is_price := f_is_price,
    fd_is_price := PySem.W.fnOf "is_price" "is_price" (defArgs s_is_price) (defBody s_is_price) (defScope s_is_price) .none kV_is_price dc_is_price pm_is_price an_is_price cd_is_price ct_is_price,
    F_is_price := F_is_price,
    b_is_price := b_is_price,
    g_is_price := PySem.W.mg_of X G a_is_price,
    f_fraction := f_fraction,
    fd_fraction := PySem.W.fnOf "fraction" "fraction" (defArgs s_fraction) (defBody s_fraction) (defScope s_fraction) .none kV_fraction dc_fraction pm_fraction an_fraction cd_fraction ct_fraction,
    F_fraction := F_fraction,
    b_fraction := b_fraction,
    g_fraction := PySem.W.mg_of X G a_fraction,
    f_times := f_times,
    fd_times := PySem.W.fnOf "times" "times" (defArgs s_times) (defBody s_times) (defScope s_times) .none kV_times dc_times pm_times an_times cd_times ct_times,
    F_times := F_times,
    b_times := b_times,
    g_times := PySem.W.mg_of X G a_times,
    f_over := f_over,
    fd_over := PySem.W.fnOf "over" "over" (defArgs s_over) (defBody s_over) (defScope s_over) .none kV_over dc_over pm_over an_over cd_over ct_over,
    F_over := F_over,
    b_over := b_over,
    g_over := PySem.W.mg_of X G a_over,
    f_is_less := f_is_less,
    fd_is_less := PySem.W.fnOf "is_less" "is_less" (defArgs s_is_less) (defBody s_is_less) (defScope s_is_less) .none kV_is_less dc_is_less pm_is_less an_is_less cd_is_less ct_is_less,
    F_is_less := F_is_less,
    b_is_less := b_is_less,
    g_is_less := PySem.W.mg_of X G a_is_less,
    f_scaled := f_scaled,
    fd_scaled := PySem.W.fnOf "scaled" "scaled" (defArgs s_scaled) (defBody s_scaled) (defScope s_scaled) .none kV_scaled dc_scaled pm_scaled an_scaled cd_scaled ct_scaled,
    F_scaled := F_scaled,
    b_scaled := b_scaled,
    g_scaled := PySem.W.mg_of X G a_scaled,
    f_added := f_added,
    fd_added := PySem.W.fnOf "added" "added" (defArgs s_added) (defBody s_added) (defScope s_added) .none kV_added dc_added pm_added an_added cd_added ct_added,
    F_added := F_added,
    b_added := b_added,
    g_added := PySem.W.mg_of X G a_added,
    f_Program___init__ := f_Program___init__,
    fd_Program___init__ := PySem.W.fnOf "__init__" "Program.__init__" (defArgs s_Program___init__) (defBody s_Program___init__) (defScope s_Program___init__) .none kV_Program___init__ dc_Program___init__ pm_Program___init__ an_Program___init__ cd_Program___init__ ct_Program___init__,
    F_Program___init__ := F_Program___init__,
    b_Program___init__ := b_Program___init__,
    f_Program_prices := f_Program_prices,
    fd_Program_prices := PySem.W.fnOf "prices" "Program.prices" (defArgs s_Program_prices) (defBody s_Program_prices) (defScope s_Program_prices) .none kV_Program_prices dc_Program_prices pm_Program_prices an_Program_prices cd_Program_prices ct_Program_prices,
    F_Program_prices := F_Program_prices,
    b_Program_prices := b_Program_prices,
    f_Program_rows := f_Program_rows,
    fd_Program_rows := PySem.W.fnOf "rows" "Program.rows" (defArgs s_Program_rows) (defBody s_Program_rows) (defScope s_Program_rows) .none kV_Program_rows dc_Program_rows pm_Program_rows an_Program_rows cd_Program_rows ct_Program_rows,
    F_Program_rows := F_Program_rows,
    b_Program_rows := b_Program_rows,
    f_need_sets := f_need_sets,
    fd_need_sets := PySem.W.fnOf "need_sets" "need_sets" (defArgs s_need_sets) (defBody s_need_sets) (defScope s_need_sets) .none kV_need_sets dc_need_sets pm_need_sets an_need_sets cd_need_sets ct_need_sets,
    F_need_sets := F_need_sets,
    b_need_sets := b_need_sets,
    g_need_sets := PySem.W.mg_of X G a_need_sets,
    f_cover_program := f_cover_program,
    fd_cover_program := PySem.W.fnOf "cover_program" "cover_program" (defArgs s_cover_program) (defBody s_cover_program) (defScope s_cover_program) .none kV_cover_program dc_cover_program pm_cover_program an_cover_program cd_cover_program ct_cover_program,
    F_cover_program := F_cover_program,
    b_cover_program := b_cover_program,
    g_cover_program := PySem.W.mg_of X G a_cover_program,
    f_cheapest_set := f_cheapest_set,
    fd_cheapest_set := PySem.W.fnOf "cheapest_set" "cheapest_set" (defArgs s_cheapest_set) (defBody s_cheapest_set) (defScope s_cheapest_set) .none kV_cheapest_set dc_cheapest_set pm_cheapest_set an_cheapest_set cd_cheapest_set ct_cheapest_set,
    F_cheapest_set := F_cheapest_set,
    b_cheapest_set := b_cheapest_set,
    g_cheapest_set := PySem.W.mg_of X G a_cheapest_set,
    f_quick_cover := f_quick_cover,
    fd_quick_cover := PySem.W.fnOf "quick_cover" "quick_cover" (defArgs s_quick_cover) (defBody s_quick_cover) (defScope s_quick_cover) .none kV_quick_cover dc_quick_cover pm_quick_cover an_quick_cover cd_quick_cover ct_quick_cover,
    F_quick_cover := F_quick_cover,
    b_quick_cover := b_quick_cover,
    g_quick_cover := PySem.W.mg_of X G a_quick_cover,
    f_harmonic := f_harmonic,
    fd_harmonic := PySem.W.fnOf "harmonic" "harmonic" (defArgs s_harmonic) (defBody s_harmonic) (defScope s_harmonic) .none kV_harmonic dc_harmonic pm_harmonic an_harmonic cd_harmonic ct_harmonic,
    F_harmonic := F_harmonic,
    b_harmonic := b_harmonic,
    g_harmonic := PySem.W.mg_of X G a_harmonic,
    f_cover_factor := f_cover_factor,
    fd_cover_factor := PySem.W.fnOf "cover_factor" "cover_factor" (defArgs s_cover_factor) (defBody s_cover_factor) (defScope s_cover_factor) .none kV_cover_factor dc_cover_factor pm_cover_factor an_cover_factor cd_cover_factor ct_cover_factor,
    F_cover_factor := F_cover_factor,
    b_cover_factor := b_cover_factor,
    g_cover_factor := PySem.W.mg_of X G a_cover_factor,
    f_are_cover := f_are_cover,
    fd_are_cover := PySem.W.fnOf "are_cover" "are_cover" (defArgs s_are_cover) (defBody s_are_cover) (defScope s_are_cover) .none kV_are_cover dc_are_cover pm_are_cover an_are_cover cd_are_cover ct_are_cover,
    F_are_cover := F_are_cover,
    b_are_cover := b_are_cover,
    g_are_cover := PySem.W.mg_of X G a_are_cover,
    f_check_shares := f_check_shares,
    fd_check_shares := PySem.W.fnOf "check_shares" "check_shares" (defArgs s_check_shares) (defBody s_check_shares) (defScope s_check_shares) .none kV_check_shares dc_check_shares pm_check_shares an_check_shares cd_check_shares ct_check_shares,
    F_check_shares := F_check_shares,
    b_check_shares := b_check_shares,
    g_check_shares := PySem.W.mg_of X G a_check_shares,
    f_cover_bound := f_cover_bound,
    fd_cover_bound := PySem.W.fnOf "cover_bound" "cover_bound" (defArgs s_cover_bound) (defBody s_cover_bound) (defScope s_cover_bound) .none kV_cover_bound dc_cover_bound pm_cover_bound an_cover_bound cd_cover_bound ct_cover_bound,
    F_cover_bound := F_cover_bound,
    b_cover_bound := b_cover_bound,
    g_cover_bound := PySem.W.mg_of X G a_cover_bound,
    f_law_numbers := f_law_numbers,
    fd_law_numbers := PySem.W.fnOf "_law_numbers" "_law_numbers" (defArgs s_law_numbers) (defBody s_law_numbers) (defScope s_law_numbers) .none kV_law_numbers dc_law_numbers pm_law_numbers an_law_numbers cd_law_numbers ct_law_numbers,
    F_law_numbers := F_law_numbers,
    b_law_numbers := b_law_numbers,
    g_law_numbers := PySem.W.mg_of X G a_law_numbers,
    f_law_lowest := f_law_lowest,
    fd_law_lowest := PySem.W.fnOf "_law_lowest" "_law_lowest" (defArgs s_law_lowest) (defBody s_law_lowest) (defScope s_law_lowest) .none kV_law_lowest dc_law_lowest pm_law_lowest an_law_lowest cd_law_lowest ct_law_lowest,
    F_law_lowest := F_law_lowest,
    b_law_lowest := b_law_lowest,
    g_law_lowest := PySem.W.mg_of X G a_law_lowest,
    f_law_plus := f_law_plus,
    fd_law_plus := PySem.W.fnOf "_law_plus" "_law_plus" (defArgs s_law_plus) (defBody s_law_plus) (defScope s_law_plus) .none kV_law_plus dc_law_plus pm_law_plus an_law_plus cd_law_plus ct_law_plus,
    F_law_plus := F_law_plus,
    b_law_plus := b_law_plus,
    g_law_plus := PySem.W.mg_of X G a_law_plus,
    f_law_added := f_law_added,
    fd_law_added := PySem.W.fnOf "_law_added" "_law_added" (defArgs s_law_added) (defBody s_law_added) (defScope s_law_added) .none kV_law_added dc_law_added pm_law_added an_law_added cd_law_added ct_law_added,
    F_law_added := F_law_added,
    b_law_added := b_law_added,
    g_law_added := PySem.W.mg_of X G a_law_added,
    f_law_sets := f_law_sets,
    fd_law_sets := PySem.W.fnOf "_law_sets" "_law_sets" (defArgs s_law_sets) (defBody s_law_sets) (defScope s_law_sets) .none kV_law_sets dc_law_sets pm_law_sets an_law_sets cd_law_sets ct_law_sets,
    F_law_sets := F_law_sets,
    b_law_sets := b_law_sets,
    g_law_sets := PySem.W.mg_of X G a_law_sets,
    f_law_quick := f_law_quick,
    fd_law_quick := PySem.W.fnOf "_law_quick" "_law_quick" (defArgs s_law_quick) (defBody s_law_quick) (defScope s_law_quick) .none kV_law_quick dc_law_quick pm_law_quick an_law_quick cd_law_quick ct_law_quick,
    F_law_quick := F_law_quick,
    b_law_quick := b_law_quick,
    g_law_quick := PySem.W.mg_of X G a_law_quick,
    f_law_refused := f_law_refused,
    fd_law_refused := PySem.W.fnOf "_law_refused" "_law_refused" (defArgs s_law_refused) (defBody s_law_refused) (defScope s_law_refused) .none kV_law_refused dc_law_refused pm_law_refused an_law_refused cd_law_refused ct_law_refused,
    F_law_refused := F_law_refused,
    b_law_refused := b_law_refused,
    g_law_refused := PySem.W.mg_of X G a_law_refused,
    f_law_refusals := f_law_refusals,
    fd_law_refusals := PySem.W.fnOf "_law_refusals" "_law_refusals" (defArgs s_law_refusals) (defBody s_law_refusals) (defScope s_law_refusals) .none kV_law_refusals dc_law_refusals pm_law_refusals an_law_refusals cd_law_refusals ct_law_refusals,
    F_law_refusals := F_law_refusals,
    b_law_refusals := b_law_refusals,
    g_law_refusals := PySem.W.mg_of X G a_law_refusals,
    f_law := f_law,
    fd_law := PySem.W.fnOf "law" "law" (defArgs s_law) (defBody s_law) (defScope s_law) .none kV_law dc_law pm_law an_law cd_law ct_law,
    F_law := F_law,
    b_law := b_law,
    g_law := PySem.W.mg_of X G a_law,
    c_Program := c_Program,
    g_Program := PySem.W.mg_of X G aC_Program,
    cl_Program := ⟨pg_Program, hd_Program, po_Program, sa_Program⟩,
    mk_Program := ⟨mk_Program, a_Program___init__, i_Program___init__, kc_Program⟩,
    m_Program_prices := ⟨a_Program_prices, i_Program_prices, kp_Program_prices⟩,
    m_Program_rows := ⟨a_Program_rows, i_Program_rows, kp_Program_rows⟩,
    na_Program__prices := na_Program__prices,
    na_Program__rows := na_Program__rows,
    c_WebError := c_WebError,
    x_WebError := ⟨⟨⟨_, _, _, _, _, _, _, _, _, _, _, _, _, _, _, xL_WebError, rv_WebError⟩, sa_WebError, eC_WebError, tC_WebError, kC_WebError⟩, nb_WebError, in_WebError, ty_WebError___init__, PySem.W.mg_of X G aC_WebError⟩,
    e_WebError := ⟨ga_WebError, gg_WebError, eC_WebError, hC_WebError, cl_WebError, gt, tk, mr_WebError⟩,
    ef_WebError := ⟨ga_WebError, gg_WebError, eC_WebError, hC_WebError⟩,
    c_OutOfRange := c_OutOfRange,
    x_OutOfRange := ⟨⟨⟨_, _, _, _, _, _, _, _, _, _, _, _, _, _, _, xL_OutOfRange, rv_OutOfRange⟩, sa_OutOfRange, eC_OutOfRange, tC_OutOfRange, kC_OutOfRange⟩, nb_OutOfRange, in_OutOfRange, ty_WebError___init__, PySem.W.mg_of X G aC_OutOfRange⟩,
    e_OutOfRange := ⟨ga_OutOfRange, gg_OutOfRange, eC_OutOfRange, hC_OutOfRange, cl_OutOfRange, gt, tk, mr_OutOfRange⟩,
    ef_OutOfRange := ⟨ga_OutOfRange, gg_OutOfRange, eC_OutOfRange, hC_OutOfRange⟩,
    em_OutOfRange := Z.exm_of eC_WebError ib tC_WebError sb_OutOfRange,
    is_OutOfRange_OutOfRange := is_OutOfRange_OutOfRange,
    is_OutOfRange_BadPrice := is_OutOfRange_BadPrice,
    is_OutOfRange_TooMany := is_OutOfRange_TooMany,
    is_OutOfRange_ZeroDivisor := is_OutOfRange_ZeroDivisor,
    is_OutOfRange_BadRelation := is_OutOfRange_BadRelation,
    is_OutOfRange_WrongSize := is_OutOfRange_WrongSize,
    is_OutOfRange_BadSet := is_OutOfRange_BadSet,
    c_BadPrice := c_BadPrice,
    x_BadPrice := ⟨⟨⟨_, _, _, _, _, _, _, _, _, _, _, _, _, _, _, xL_BadPrice, rv_BadPrice⟩, sa_BadPrice, eC_BadPrice, tC_BadPrice, kC_BadPrice⟩, nb_BadPrice, in_BadPrice, ty_WebError___init__, PySem.W.mg_of X G aC_BadPrice⟩,
    e_BadPrice := ⟨ga_BadPrice, gg_BadPrice, eC_BadPrice, hC_BadPrice, cl_BadPrice, gt, tk, mr_BadPrice⟩,
    ef_BadPrice := ⟨ga_BadPrice, gg_BadPrice, eC_BadPrice, hC_BadPrice⟩,
    em_BadPrice := Z.exm_of eC_WebError ib tC_WebError sb_BadPrice,
    is_BadPrice_OutOfRange := is_BadPrice_OutOfRange,
    is_BadPrice_BadPrice := is_BadPrice_BadPrice,
    is_BadPrice_TooMany := is_BadPrice_TooMany,
    is_BadPrice_ZeroDivisor := is_BadPrice_ZeroDivisor,
    is_BadPrice_BadRelation := is_BadPrice_BadRelation,
    is_BadPrice_WrongSize := is_BadPrice_WrongSize,
    is_BadPrice_BadSet := is_BadPrice_BadSet,
    c_TooMany := c_TooMany,
    x_TooMany := ⟨⟨⟨_, _, _, _, _, _, _, _, _, _, _, _, _, _, _, xL_TooMany, rv_TooMany⟩, sa_TooMany, eC_TooMany, tC_TooMany, kC_TooMany⟩, nb_TooMany, in_TooMany, ty_WebError___init__, PySem.W.mg_of X G aC_TooMany⟩,
    e_TooMany := ⟨ga_TooMany, gg_TooMany, eC_TooMany, hC_TooMany, cl_TooMany, gt, tk, mr_TooMany⟩,
    ef_TooMany := ⟨ga_TooMany, gg_TooMany, eC_TooMany, hC_TooMany⟩,
    em_TooMany := Z.exm_of eC_WebError ib tC_WebError sb_TooMany,
    is_TooMany_OutOfRange := is_TooMany_OutOfRange,
    is_TooMany_BadPrice := is_TooMany_BadPrice,
    is_TooMany_TooMany := is_TooMany_TooMany,
    is_TooMany_ZeroDivisor := is_TooMany_ZeroDivisor,
    is_TooMany_BadRelation := is_TooMany_BadRelation,
    is_TooMany_WrongSize := is_TooMany_WrongSize,
    is_TooMany_BadSet := is_TooMany_BadSet,
    c_ZeroDivisor := c_ZeroDivisor,
    x_ZeroDivisor := ⟨⟨⟨_, _, _, _, _, _, _, _, _, _, _, _, _, _, _, xL_ZeroDivisor, rv_ZeroDivisor⟩, sa_ZeroDivisor, eC_ZeroDivisor, tC_ZeroDivisor, kC_ZeroDivisor⟩, nb_ZeroDivisor, in_ZeroDivisor, ty_WebError___init__, PySem.W.mg_of X G aC_ZeroDivisor⟩,
    e_ZeroDivisor := ⟨ga_ZeroDivisor, gg_ZeroDivisor, eC_ZeroDivisor, hC_ZeroDivisor, cl_ZeroDivisor, gt, tk, mr_ZeroDivisor⟩,
    ef_ZeroDivisor := ⟨ga_ZeroDivisor, gg_ZeroDivisor, eC_ZeroDivisor, hC_ZeroDivisor⟩,
    em_ZeroDivisor := Z.exm_of eC_WebError ib tC_WebError sb_ZeroDivisor,
    is_ZeroDivisor_OutOfRange := is_ZeroDivisor_OutOfRange,
    is_ZeroDivisor_BadPrice := is_ZeroDivisor_BadPrice,
    is_ZeroDivisor_TooMany := is_ZeroDivisor_TooMany,
    is_ZeroDivisor_ZeroDivisor := is_ZeroDivisor_ZeroDivisor,
    is_ZeroDivisor_BadRelation := is_ZeroDivisor_BadRelation,
    is_ZeroDivisor_WrongSize := is_ZeroDivisor_WrongSize,
    is_ZeroDivisor_BadSet := is_ZeroDivisor_BadSet,
    c_BadRelation := c_BadRelation,
    x_BadRelation := ⟨⟨⟨_, _, _, _, _, _, _, _, _, _, _, _, _, _, _, xL_BadRelation, rv_BadRelation⟩, sa_BadRelation, eC_BadRelation, tC_BadRelation, kC_BadRelation⟩, nb_BadRelation, in_BadRelation, ty_WebError___init__, PySem.W.mg_of X G aC_BadRelation⟩,
    e_BadRelation := ⟨ga_BadRelation, gg_BadRelation, eC_BadRelation, hC_BadRelation, cl_BadRelation, gt, tk, mr_BadRelation⟩,
    ef_BadRelation := ⟨ga_BadRelation, gg_BadRelation, eC_BadRelation, hC_BadRelation⟩,
    em_BadRelation := Z.exm_of eC_WebError ib tC_WebError sb_BadRelation,
    is_BadRelation_OutOfRange := is_BadRelation_OutOfRange,
    is_BadRelation_BadPrice := is_BadRelation_BadPrice,
    is_BadRelation_TooMany := is_BadRelation_TooMany,
    is_BadRelation_ZeroDivisor := is_BadRelation_ZeroDivisor,
    is_BadRelation_BadRelation := is_BadRelation_BadRelation,
    is_BadRelation_WrongSize := is_BadRelation_WrongSize,
    is_BadRelation_BadSet := is_BadRelation_BadSet,
    c_WrongSize := c_WrongSize,
    x_WrongSize := ⟨⟨⟨_, _, _, _, _, _, _, _, _, _, _, _, _, _, _, xL_WrongSize, rv_WrongSize⟩, sa_WrongSize, eC_WrongSize, tC_WrongSize, kC_WrongSize⟩, nb_WrongSize, in_WrongSize, ty_WebError___init__, PySem.W.mg_of X G aC_WrongSize⟩,
    e_WrongSize := ⟨ga_WrongSize, gg_WrongSize, eC_WrongSize, hC_WrongSize, cl_WrongSize, gt, tk, mr_WrongSize⟩,
    ef_WrongSize := ⟨ga_WrongSize, gg_WrongSize, eC_WrongSize, hC_WrongSize⟩,
    em_WrongSize := Z.exm_of eC_WebError ib tC_WebError sb_WrongSize,
    is_WrongSize_OutOfRange := is_WrongSize_OutOfRange,
    is_WrongSize_BadPrice := is_WrongSize_BadPrice,
    is_WrongSize_TooMany := is_WrongSize_TooMany,
    is_WrongSize_ZeroDivisor := is_WrongSize_ZeroDivisor,
    is_WrongSize_BadRelation := is_WrongSize_BadRelation,
    is_WrongSize_WrongSize := is_WrongSize_WrongSize,
    is_WrongSize_BadSet := is_WrongSize_BadSet,
    c_BadSet := c_BadSet,
    x_BadSet := ⟨⟨⟨_, _, _, _, _, _, _, _, _, _, _, _, _, _, _, xL_BadSet, rv_BadSet⟩, sa_BadSet, eC_BadSet, tC_BadSet, kC_BadSet⟩, nb_BadSet, in_BadSet, ty_WebError___init__, PySem.W.mg_of X G aC_BadSet⟩,
    e_BadSet := ⟨ga_BadSet, gg_BadSet, eC_BadSet, hC_BadSet, cl_BadSet, gt, tk, mr_BadSet⟩,
    ef_BadSet := ⟨ga_BadSet, gg_BadSet, eC_BadSet, hC_BadSet⟩,
    em_BadSet := Z.exm_of eC_WebError ib tC_WebError sb_BadSet,
    is_BadSet_OutOfRange := is_BadSet_OutOfRange,
    is_BadSet_BadPrice := is_BadSet_BadPrice,
    is_BadSet_TooMany := is_BadSet_TooMany,
    is_BadSet_ZeroDivisor := is_BadSet_ZeroDivisor,
    is_BadSet_BadRelation := is_BadSet_BadRelation,
    is_BadSet_WrongSize := is_BadSet_WrongSize,
    is_BadSet_BadSet := is_BadSet_BadSet,
    z_abs := PySem.W.mg_none_of X G z_abs,
    z_all := PySem.W.mg_none_of X G z_all,
    z_enumerate := PySem.W.mg_none_of X G z_enumerate,
    z_int := PySem.W.mg_none_of X G z_int,
    z_isinstance := PySem.W.mg_none_of X G z_isinstance,
    z_len := PySem.W.mg_none_of X G z_len,
    z_list := PySem.W.mg_none_of X G z_list,
    z_max := PySem.W.mg_none_of X G z_max,
    z_range := PySem.W.mg_none_of X G z_range,
    z_repr := PySem.W.mg_none_of X G z_repr,
    z_set := PySem.W.mg_none_of X G z_set,
    z_sorted := PySem.W.mg_none_of X G z_sorted,
    z_sum := PySem.W.mg_none_of X G z_sum,
    z_gcd := PySem.W.mg_of X G z_gcd,
    z_lcm := PySem.W.mg_of X G z_lcm,
    t_MOST_PRICE := t_MOST_PRICE,
    k_MOST_PRICE := PySem.W.mg_of X G k_MOST_PRICE,
    t_MOST_VARIABLES := t_MOST_VARIABLES,
    k_MOST_VARIABLES := PySem.W.mg_of X G k_MOST_VARIABLES,
    t_MOST_ROWS := t_MOST_ROWS,
    k_MOST_ROWS := PySem.W.mg_of X G k_MOST_ROWS,
    t_MOST_ELEMENTS := t_MOST_ELEMENTS,
    k_MOST_ELEMENTS := PySem.W.mg_of X G k_MOST_ELEMENTS,
    t_MOST_SETS := t_MOST_SETS,
    k_MOST_SETS := PySem.W.mg_of X G k_MOST_SETS,
    c_RELATIONS := c_RELATIONS,
    k_RELATIONS := PySem.W.mg_of X G aC_RELATIONS,
    q_RELATIONS := fun H => .inr ⟨_, _, _, l_RELATIONS, v_RELATIONS.1, rfl, v_RELATIONS.2.1, v_RELATIONS.2.2⟩ }⟩
theorem walk {l : PySem.W.OpenLaw} {q : Program} {loose : List Str} {XP : (Str → Option Value) → Heap → Prop} {YP : World → Heap → Prop} {d : DefRec} {K : Params → PySem.W.Frag} (hn : l.most = some 63) (hdf : d.params.defaults = [])
    (hY : ∀ (w : World) (h : Heap), YP w h → (K w.params).In h)
    (F : ∀ (w : World) (mg : Str → Option Value) (fa : Addr) (h : Heap), (K w.params).In h → h.Ns mainGlobals mg → mg d.name = some (.ref fa) →
      ∃ fd : FuncData, (∀ (s : Shared) (u : Value), BindsTo s fd ⟨[u], []⟩ [("script", u)]) ∧ ∀ base : Heap, (K w.params).In base → base.Ns mainGlobals mg → Z.RunAt l.prog w (K w.params) mg base (L2.CX l.prog w) 10 fa fd ["script"] (spLaw (K w.params))) :
    PySem.W.WalkO q loose XP YP l.row.toRowW d [] (fun f vs => PySem.call f vs) :=
  Z.walk_at (n := 63) (k := 10) (x := "script") (CX := fun w => L2.CX l.prog w) (sp := fun w => spLaw (K w.params)) hn (by decide) hdf ⟨rfl, by decide, by decide⟩ hY F
    (fun w H a ns hn hS => ⟨ns, H, [], hn, Z.Lay.nil, .cons ⟨a, rfl, hS⟩ .nil, fun G' H' v _ _ hv => by cases hv; rfl⟩)
    (fun w H s e s' z => by
      obtain ⟨_, _, _, _, _, _, _, _, _, _, _, _, z⟩ := z
      exact z)
end Q

set_option Elab.async false
open PySem PySem.W PyProof.Rows in
set_option maxRecDepth 100000 in
set_option maxHeartbeats 0 in
theorem PySem.Challenge.cw_trunkweb_k69_quick_covers_holds : PySem.Challenge.rw_trunkweb_k69_quick_covers.Holds := by
  w_on; o_law; k_head; (case hw => w_witness2)
  k_fill
  refine Q.walk (l := PySem.Challenge.rw_trunkweb_k69_quick_covers) rfl rfl (fun w h Y => PySem.W.kIn_of Y) ?F
  case F =>
    intro w mg fa h KX G hmg
    refine' Q.all_mk KX G hmg ?aC_Program ?aC_WebError ?aC_OutOfRange ?aC_BadPrice ?aC_TooMany ?aC_ZeroDivisor ?aC_BadRelation ?aC_WrongSize ?aC_BadSet ?a_WebError___init__ ?ty_WebError___init__ ?l_WebError___init__ ?cdw_WebError___init__ ?kp_WebError___init__ ?a_is_ascending ?l_is_ascending ?cdw_is_ascending ?kp_is_ascending ?a_is_price ?l_is_price ?cdw_is_price ?kp_is_price ?a_fraction ?l_fraction ?cdw_fraction ?kp_fraction ?a_times ?l_times ?cdw_times ?kp_times ?a_over ?l_over ?cdw_over ?kp_over ?a_is_less ?l_is_less ?cdw_is_less ?kp_is_less ?a_scaled ?l_scaled ?cdw_scaled ?kp_scaled ?a_added ?l_added ?cdw_added ?kp_added ?a_Program___init__ ?i_Program___init__ ?l_Program___init__ ?cdw_Program___init__ ?kp_Program___init__ ?a_Program_prices ?i_Program_prices ?l_Program_prices ?cdw_Program_prices ?kp_Program_prices ?a_Program_rows ?i_Program_rows ?l_Program_rows ?cdw_Program_rows ?kp_Program_rows ?a_need_sets ?l_need_sets ?cdw_need_sets ?kp_need_sets ?a_cover_program ?l_cover_program ?cdw_cover_program ?kp_cover_program ?a_cheapest_set ?l_cheapest_set ?cdw_cheapest_set ?kp_cheapest_set ?a_quick_cover ?l_quick_cover ?cdw_quick_cover ?kp_quick_cover ?a_harmonic ?l_harmonic ?cdw_harmonic ?kp_harmonic ?a_cover_factor ?l_cover_factor ?cdw_cover_factor ?kp_cover_factor ?a_are_cover ?l_are_cover ?cdw_are_cover ?kp_are_cover ?a_check_shares ?l_check_shares ?cdw_check_shares ?kp_check_shares ?a_cover_bound ?l_cover_bound ?cdw_cover_bound ?kp_cover_bound ?a_law_numbers ?l_law_numbers ?cdw_law_numbers ?kp_law_numbers ?a_law_lowest ?l_law_lowest ?cdw_law_lowest ?kp_law_lowest ?a_law_plus ?l_law_plus ?cdw_law_plus ?kp_law_plus ?a_law_added ?l_law_added ?cdw_law_added ?kp_law_added ?a_law_sets ?l_law_sets ?cdw_law_sets ?kp_law_sets ?a_law_quick ?l_law_quick ?cdw_law_quick ?kp_law_quick ?a_law_refused ?l_law_refused ?cdw_law_refused ?kp_law_refused ?a_law_refusals ?l_law_refusals ?cdw_law_refusals ?kp_law_refusals ?a_law ?l_law ?cdw_law ?kp_law ?pg_Program ?hd_Program ?po_Program ?sa_Program ?mk_Program ?kc_Program ?na_Program__prices ?na_Program__rows ?gt ?tk ?ib ?xL_WebError ?rv_WebError ?sa_WebError ?ga_WebError ?gg_WebError ?nb_WebError ?in_WebError ?eC_WebError ?tC_WebError ?hC_WebError ?kC_WebError ?cl_WebError ?mr_WebError ?xL_OutOfRange ?rv_OutOfRange ?sa_OutOfRange ?ga_OutOfRange ?gg_OutOfRange ?nb_OutOfRange ?in_OutOfRange ?eC_OutOfRange ?tC_OutOfRange ?hC_OutOfRange ?kC_OutOfRange ?cl_OutOfRange ?mr_OutOfRange ?sb_OutOfRange ?is_OutOfRange_OutOfRange ?is_OutOfRange_BadPrice ?is_OutOfRange_TooMany ?is_OutOfRange_ZeroDivisor ?is_OutOfRange_BadRelation ?is_OutOfRange_WrongSize ?is_OutOfRange_BadSet ?xL_BadPrice ?rv_BadPrice ?sa_BadPrice ?ga_BadPrice ?gg_BadPrice ?nb_BadPrice ?in_BadPrice ?eC_BadPrice ?tC_BadPrice ?hC_BadPrice ?kC_BadPrice ?cl_BadPrice ?mr_BadPrice ?sb_BadPrice ?is_BadPrice_OutOfRange ?is_BadPrice_BadPrice ?is_BadPrice_TooMany ?is_BadPrice_ZeroDivisor ?is_BadPrice_BadRelation ?is_BadPrice_WrongSize ?is_BadPrice_BadSet ?xL_TooMany ?rv_TooMany ?sa_TooMany ?ga_TooMany ?gg_TooMany ?nb_TooMany ?in_TooMany ?eC_TooMany ?tC_TooMany ?hC_TooMany ?kC_TooMany ?cl_TooMany ?mr_TooMany ?sb_TooMany ?is_TooMany_OutOfRange ?is_TooMany_BadPrice ?is_TooMany_TooMany ?is_TooMany_ZeroDivisor ?is_TooMany_BadRelation ?is_TooMany_WrongSize ?is_TooMany_BadSet ?xL_ZeroDivisor ?rv_ZeroDivisor ?sa_ZeroDivisor ?ga_ZeroDivisor ?gg_ZeroDivisor ?nb_ZeroDivisor ?in_ZeroDivisor ?eC_ZeroDivisor ?tC_ZeroDivisor ?hC_ZeroDivisor ?kC_ZeroDivisor ?cl_ZeroDivisor ?mr_ZeroDivisor ?sb_ZeroDivisor ?is_ZeroDivisor_OutOfRange ?is_ZeroDivisor_BadPrice ?is_ZeroDivisor_TooMany ?is_ZeroDivisor_ZeroDivisor ?is_ZeroDivisor_BadRelation ?is_ZeroDivisor_WrongSize ?is_ZeroDivisor_BadSet ?xL_BadRelation ?rv_BadRelation ?sa_BadRelation ?ga_BadRelation ?gg_BadRelation ?nb_BadRelation ?in_BadRelation ?eC_BadRelation ?tC_BadRelation ?hC_BadRelation ?kC_BadRelation ?cl_BadRelation ?mr_BadRelation ?sb_BadRelation ?is_BadRelation_OutOfRange ?is_BadRelation_BadPrice ?is_BadRelation_TooMany ?is_BadRelation_ZeroDivisor ?is_BadRelation_BadRelation ?is_BadRelation_WrongSize ?is_BadRelation_BadSet ?xL_WrongSize ?rv_WrongSize ?sa_WrongSize ?ga_WrongSize ?gg_WrongSize ?nb_WrongSize ?in_WrongSize ?eC_WrongSize ?tC_WrongSize ?hC_WrongSize ?kC_WrongSize ?cl_WrongSize ?mr_WrongSize ?sb_WrongSize ?is_WrongSize_OutOfRange ?is_WrongSize_BadPrice ?is_WrongSize_TooMany ?is_WrongSize_ZeroDivisor ?is_WrongSize_BadRelation ?is_WrongSize_WrongSize ?is_WrongSize_BadSet ?xL_BadSet ?rv_BadSet ?sa_BadSet ?ga_BadSet ?gg_BadSet ?nb_BadSet ?in_BadSet ?eC_BadSet ?tC_BadSet ?hC_BadSet ?kC_BadSet ?cl_BadSet ?mr_BadSet ?sb_BadSet ?is_BadSet_OutOfRange ?is_BadSet_BadPrice ?is_BadSet_TooMany ?is_BadSet_ZeroDivisor ?is_BadSet_BadRelation ?is_BadSet_WrongSize ?is_BadSet_BadSet ?z_abs ?z_all ?z_enumerate ?z_int ?z_isinstance ?z_len ?z_list ?z_max ?z_range ?z_repr ?z_set ?z_sorted ?z_sum ?z_gcd ?z_lcm ?k_MOST_PRICE ?k_MOST_VARIABLES ?k_MOST_ROWS ?k_MOST_ELEMENTS ?k_MOST_SETS ?aC_RELATIONS ?l_RELATIONS ?v_RELATIONS
    (case aC_Program => k_is)
    (case aC_WebError => k_is)
    (case aC_OutOfRange => k_is)
    (case aC_BadPrice => k_is)
    (case aC_TooMany => k_is)
    (case aC_ZeroDivisor => k_is)
    (case aC_BadRelation => k_is)
    (case aC_WrongSize => k_is)
    (case aC_BadSet => k_is)
    (case a_WebError___init__ => k_is)
    (case ty_WebError___init__ => k_is)
    (case l_WebError___init__ => k_is)
    (case cdw_WebError___init__ => k_is)
    (case kp_WebError___init__ => k_is)
    (case a_is_ascending => k_is)
    (case l_is_ascending => k_is)
    (case cdw_is_ascending => k_is)
    (case kp_is_ascending => k_is)
    (case a_is_price => k_is)
    (case l_is_price => k_is)
    (case cdw_is_price => k_is)
    (case kp_is_price => k_is)
    (case a_fraction => k_is)
    (case l_fraction => k_is)
    (case cdw_fraction => k_is)
    (case kp_fraction => k_is)
    (case a_times => k_is)
    (case l_times => k_is)
    (case cdw_times => k_is)
    (case kp_times => k_is)
    (case a_over => k_is)
    (case l_over => k_is)
    (case cdw_over => k_is)
    (case kp_over => k_is)
    (case a_is_less => k_is)
    (case l_is_less => k_is)
    (case cdw_is_less => k_is)
    (case kp_is_less => k_is)
    (case a_scaled => k_is)
    (case l_scaled => k_is)
    (case cdw_scaled => k_is)
    (case kp_scaled => k_is)
    (case a_added => k_is)
    (case l_added => k_is)
    (case cdw_added => k_is)
    (case kp_added => k_is)
    (case a_Program___init__ => k_is)
    (case i_Program___init__ => k_is)
    (case l_Program___init__ => k_is)
    (case cdw_Program___init__ => k_is)
    (case kp_Program___init__ => k_is)
    (case a_Program_prices => k_is)
    (case i_Program_prices => k_is)
    (case l_Program_prices => k_is)
    (case cdw_Program_prices => k_is)
    (case kp_Program_prices => k_is)
    (case a_Program_rows => k_is)
    (case i_Program_rows => k_is)
    (case l_Program_rows => k_is)
    (case cdw_Program_rows => k_is)
    (case kp_Program_rows => k_is)
    (case a_need_sets => k_is)
    (case l_need_sets => k_is)
    (case cdw_need_sets => k_is)
    (case kp_need_sets => k_is)
    (case a_cover_program => k_is)
    (case l_cover_program => k_is)
    (case cdw_cover_program => k_is)
    (case kp_cover_program => k_is)
    (case a_cheapest_set => k_is)
    (case l_cheapest_set => k_is)
    (case cdw_cheapest_set => k_is)
    (case kp_cheapest_set => k_is)
    (case a_quick_cover => k_is)
    (case l_quick_cover => k_is)
    (case cdw_quick_cover => k_is)
    (case kp_quick_cover => k_is)
    (case a_harmonic => k_is)
    (case l_harmonic => k_is)
    (case cdw_harmonic => k_is)
    (case kp_harmonic => k_is)
    (case a_cover_factor => k_is)
    (case l_cover_factor => k_is)
    (case cdw_cover_factor => k_is)
    (case kp_cover_factor => k_is)
    (case a_are_cover => k_is)
    (case l_are_cover => k_is)
    (case cdw_are_cover => k_is)
    (case kp_are_cover => k_is)
    (case a_check_shares => k_is)
    (case l_check_shares => k_is)
    (case cdw_check_shares => k_is)
    (case kp_check_shares => k_is)
    (case a_cover_bound => k_is)
    (case l_cover_bound => k_is)
    (case cdw_cover_bound => k_is)
    (case kp_cover_bound => k_is)
    (case a_law_numbers => k_is)
    (case l_law_numbers => k_is)
    (case cdw_law_numbers => k_is)
    (case kp_law_numbers => k_is)
    (case a_law_lowest => k_is)
    (case l_law_lowest => k_is)
    (case cdw_law_lowest => k_is)
    (case kp_law_lowest => k_is)
    (case a_law_plus => k_is)
    (case l_law_plus => k_is)
    (case cdw_law_plus => k_is)
    (case kp_law_plus => k_is)
    (case a_law_added => k_is)
    (case l_law_added => k_is)
    (case cdw_law_added => k_is)
    (case kp_law_added => k_is)
    (case a_law_sets => k_is)
    (case l_law_sets => k_is)
    (case cdw_law_sets => k_is)
    (case kp_law_sets => k_is)
    (case a_law_quick => k_is)
    (case l_law_quick => k_is)
    (case cdw_law_quick => k_is)
    (case kp_law_quick => k_is)
    (case a_law_refused => k_is)
    (case l_law_refused => k_is)
    (case cdw_law_refused => k_is)
    (case kp_law_refused => k_is)
    (case a_law_refusals => k_is)
    (case l_law_refusals => k_is)
    (case cdw_law_refusals => k_is)
    (case kp_law_refusals => k_is)
    (case a_law => k_is)
    (case l_law => k_is)
    (case cdw_law => k_is)
    (case kp_law => k_is)
    (case pg_Program => k_is)
    (case hd_Program => k_is)
    (case po_Program => k_is)
    (case sa_Program => k_is)
    (case mk_Program => k_is)
    (case kc_Program => k_is)
    (case na_Program__prices => k_is)
    (case na_Program__rows => k_is)
    (case gt => k_is)
    (case tk => k_is)
    (case ib => k_is)
    (case xL_WebError => k_is)
    (case rv_WebError => first | rfl | decide +kernel)
    (case sa_WebError => k_is)
    (case ga_WebError => k_is)
    (case gg_WebError => k_is)
    (case nb_WebError => k_is)
    (case in_WebError => k_is)
    (case eC_WebError => k_is)
    (case tC_WebError => k_is)
    (case hC_WebError => k_is)
    (case kC_WebError => k_is)
    (case cl_WebError => k_is)
    (case mr_WebError => k_is)
    (case xL_OutOfRange => k_is)
    (case rv_OutOfRange => first | rfl | decide +kernel)
    (case sa_OutOfRange => k_is)
    (case ga_OutOfRange => k_is)
    (case gg_OutOfRange => k_is)
    (case nb_OutOfRange => k_is)
    (case in_OutOfRange => k_is)
    (case eC_OutOfRange => k_is)
    (case tC_OutOfRange => k_is)
    (case hC_OutOfRange => k_is)
    (case kC_OutOfRange => k_is)
    (case cl_OutOfRange => k_is)
    (case mr_OutOfRange => k_is)
    (case sb_OutOfRange => k_is)
    (case is_OutOfRange_OutOfRange => kit_is)
    (case is_OutOfRange_BadPrice => kit_is)
    (case is_OutOfRange_TooMany => kit_is)
    (case is_OutOfRange_ZeroDivisor => kit_is)
    (case is_OutOfRange_BadRelation => kit_is)
    (case is_OutOfRange_WrongSize => kit_is)
    (case is_OutOfRange_BadSet => kit_is)
    (case xL_BadPrice => k_is)
    (case rv_BadPrice => first | rfl | decide +kernel)
    (case sa_BadPrice => k_is)
    (case ga_BadPrice => k_is)
    (case gg_BadPrice => k_is)
    (case nb_BadPrice => k_is)
    (case in_BadPrice => k_is)
    (case eC_BadPrice => k_is)
    (case tC_BadPrice => k_is)
    (case hC_BadPrice => k_is)
    (case kC_BadPrice => k_is)
    (case cl_BadPrice => k_is)
    (case mr_BadPrice => k_is)
    (case sb_BadPrice => k_is)
    (case is_BadPrice_OutOfRange => kit_is)
    (case is_BadPrice_BadPrice => kit_is)
    (case is_BadPrice_TooMany => kit_is)
    (case is_BadPrice_ZeroDivisor => kit_is)
    (case is_BadPrice_BadRelation => kit_is)
    (case is_BadPrice_WrongSize => kit_is)
    (case is_BadPrice_BadSet => kit_is)
    (case xL_TooMany => k_is)
    (case rv_TooMany => first | rfl | decide +kernel)
    (case sa_TooMany => k_is)
    (case ga_TooMany => k_is)
    (case gg_TooMany => k_is)
    (case nb_TooMany => k_is)
    (case in_TooMany => k_is)
    (case eC_TooMany => k_is)
    (case tC_TooMany => k_is)
    (case hC_TooMany => k_is)
    (case kC_TooMany => k_is)
    (case cl_TooMany => k_is)
    (case mr_TooMany => k_is)
    (case sb_TooMany => k_is)
    (case is_TooMany_OutOfRange => kit_is)
    (case is_TooMany_BadPrice => kit_is)
    (case is_TooMany_TooMany => kit_is)
    (case is_TooMany_ZeroDivisor => kit_is)
    (case is_TooMany_BadRelation => kit_is)
    (case is_TooMany_WrongSize => kit_is)
    (case is_TooMany_BadSet => kit_is)
    (case xL_ZeroDivisor => k_is)
    (case rv_ZeroDivisor => first | rfl | decide +kernel)
    (case sa_ZeroDivisor => k_is)
    (case ga_ZeroDivisor => k_is)
    (case gg_ZeroDivisor => k_is)
    (case nb_ZeroDivisor => k_is)
    (case in_ZeroDivisor => k_is)
    (case eC_ZeroDivisor => k_is)
    (case tC_ZeroDivisor => k_is)
    (case hC_ZeroDivisor => k_is)
    (case kC_ZeroDivisor => k_is)
    (case cl_ZeroDivisor => k_is)
    (case mr_ZeroDivisor => k_is)
    (case sb_ZeroDivisor => k_is)
    (case is_ZeroDivisor_OutOfRange => kit_is)
    (case is_ZeroDivisor_BadPrice => kit_is)
    (case is_ZeroDivisor_TooMany => kit_is)
    (case is_ZeroDivisor_ZeroDivisor => kit_is)
    (case is_ZeroDivisor_BadRelation => kit_is)
    (case is_ZeroDivisor_WrongSize => kit_is)
    (case is_ZeroDivisor_BadSet => kit_is)
    (case xL_BadRelation => k_is)
    (case rv_BadRelation => first | rfl | decide +kernel)
    (case sa_BadRelation => k_is)
    (case ga_BadRelation => k_is)
    (case gg_BadRelation => k_is)
    (case nb_BadRelation => k_is)
    (case in_BadRelation => k_is)
    (case eC_BadRelation => k_is)
    (case tC_BadRelation => k_is)
    (case hC_BadRelation => k_is)
    (case kC_BadRelation => k_is)
    (case cl_BadRelation => k_is)
    (case mr_BadRelation => k_is)
    (case sb_BadRelation => k_is)
    (case is_BadRelation_OutOfRange => kit_is)
    (case is_BadRelation_BadPrice => kit_is)
    (case is_BadRelation_TooMany => kit_is)
    (case is_BadRelation_ZeroDivisor => kit_is)
    (case is_BadRelation_BadRelation => kit_is)
    (case is_BadRelation_WrongSize => kit_is)
    (case is_BadRelation_BadSet => kit_is)
    (case xL_WrongSize => k_is)
    (case rv_WrongSize => first | rfl | decide +kernel)
    (case sa_WrongSize => k_is)
    (case ga_WrongSize => k_is)
    (case gg_WrongSize => k_is)
    (case nb_WrongSize => k_is)
    (case in_WrongSize => k_is)
    (case eC_WrongSize => k_is)
    (case tC_WrongSize => k_is)
    (case hC_WrongSize => k_is)
    (case kC_WrongSize => k_is)
    (case cl_WrongSize => k_is)
    (case mr_WrongSize => k_is)
    (case sb_WrongSize => k_is)
    (case is_WrongSize_OutOfRange => kit_is)
    (case is_WrongSize_BadPrice => kit_is)
    (case is_WrongSize_TooMany => kit_is)
    (case is_WrongSize_ZeroDivisor => kit_is)
    (case is_WrongSize_BadRelation => kit_is)
    (case is_WrongSize_WrongSize => kit_is)
    (case is_WrongSize_BadSet => kit_is)
    (case xL_BadSet => k_is)
    (case rv_BadSet => first | rfl | decide +kernel)
    (case sa_BadSet => k_is)
    (case ga_BadSet => k_is)
    (case gg_BadSet => k_is)
    (case nb_BadSet => k_is)
    (case in_BadSet => k_is)
    (case eC_BadSet => k_is)
    (case tC_BadSet => k_is)
    (case hC_BadSet => k_is)
    (case kC_BadSet => k_is)
    (case cl_BadSet => k_is)
    (case mr_BadSet => k_is)
    (case sb_BadSet => k_is)
    (case is_BadSet_OutOfRange => kit_is)
    (case is_BadSet_BadPrice => kit_is)
    (case is_BadSet_TooMany => kit_is)
    (case is_BadSet_ZeroDivisor => kit_is)
    (case is_BadSet_BadRelation => kit_is)
    (case is_BadSet_WrongSize => kit_is)
    (case is_BadSet_BadSet => kit_is)
    (case z_abs => k_is)
    (case z_all => k_is)
    (case z_enumerate => k_is)
    (case z_int => k_is)
    (case z_isinstance => k_is)
    (case z_len => k_is)
    (case z_list => k_is)
    (case z_max => k_is)
    (case z_range => k_is)
    (case z_repr => k_is)
    (case z_set => k_is)
    (case z_sorted => k_is)
    (case z_sum => k_is)
    (case z_gcd => k_is)
    (case z_lcm => k_is)
    (case k_MOST_PRICE => k_is)
    (case k_MOST_VARIABLES => k_is)
    (case k_MOST_ROWS => k_is)
    (case k_MOST_ELEMENTS => k_is)
    (case k_MOST_SETS => k_is)
    (case aC_RELATIONS => k_is)
    (case l_RELATIONS => k_is)
    (case v_RELATIONS => exact ⟨rfl, by decide, .cons ⟨_, rfl⟩ (.cons ⟨_, rfl⟩ (.cons ⟨_, rfl⟩ (.nil)))⟩)

