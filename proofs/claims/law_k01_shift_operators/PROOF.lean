import PyProof.Rows.All
import Wide.All
import OpenK.AllK
import Wide.FinOn
import HandS.ForMost
import HandS.Flow
import HandS.Evl
import HandS.Walk
import HandS.IsInst
import HandS.Codes
import HandS.Conv
import HandS.Defaults
import HandS.NoneIn
import HandS.StrMore
import HandS.Dict
import HandS.SetKeys
import HandS.Small
import HandS.Gcd
import HandS.Star
import HandS.Wide
import HandS.WideBits
import HandS.More
import KE.KSortedM
import KE.GoesMore
import PyProof.EnumMake
import PyProof.Draws
import HandS.Property
import HandS.MakeKwOnly
import HandS.SortRule
import PyProof.Rows.SortKeyStr
import KE.DatumOrd
import HandS.SortKw
import HandS.TupLe
import HandS.DictComp
import PyProof.DictUpdate
import HandS.Style
import HandS.Exc
import HandS.TryOnly
import HandS.TryMany
import HandS.ExcInit
import HandS.ExcSuper
import HandS.ExcIs
import HandS.ExcField
import HandS.Nested
import HandS.FStr
import KE.KExcSuper
import HandS.ForExc
import HandS.CallSlots
import KE.KOpsOwn
import HandS.Iter
import HandS.MakeKw
import HandS.TupAny
import KE.DataEq
import PySem.Challenge.RW_playhall_k01_shift_operators
set_option Elab.async false
set_option linter.all false
set_option maxRecDepth 100000
set_option maxHeartbeats 4000000
set_option exponentiation.threshold 20000
set_option synthInstance.maxSize 100000
namespace Y
open PySem L2
theorem smallZ {n : Nat} (h : n ≤ 100000) : n < sizeLine := Nat.lt_of_le_of_lt h (by decide)
/-! ### data -/
inductive D where
  | non | bl (b : Bool) | int (i : Int) | str (s : Str) | lst (xs : List D) | tup (xs : List D)
  | ins (C : Addr) (ns : List Str) (xs : List D) | dic (ks : List Key) (xs : List D) | dit (ks : List (List Key)) (xs : List D) | tt (ks : List Key) | v (x : V) | xc (a dd : Addr) (ns : List Str) (xs : List D) | dicz (ks : List Key) (xs : List D) | ditz (ks : List (List Key)) (xs : List D)
mutual
def Rep (K : PySem.W.Frag) (H : Hp) : D → V → Prop
  | .non, x => x = .non
  | .bl b, x => x = .bl b
  | .int i, x => x = .int i
  | .str s, x => x = .str s
  | .v y, x => x = y
  | .tt ks, x => ∃ a, x = .ref a ∧ H a = some (.tup (ks.map kV))
  | .lst ds, x => ∃ a vs, x = .ref a ∧ SqL K H a vs ∧ Reps K H ds vs
  | .tup ds, x => ∃ a vs, x = .ref a ∧ SqT K H a vs ∧ Reps K H ds vs
  | .ins C ns ds, x => ∃ a dx vs, x = .ref a ∧ H a = some (.ins C dx (ns.zip vs)) ∧ ns.length = ds.length ∧ Reps K H ds vs
  | .dic ks ds, x => ∃ a vs, x = .ref a ∧ Rd H a (.dK (ks.zip vs)) ∧ ks.length = ds.length ∧ Reps K H ds vs
  | .dit ks ds, x => ∃ a vs, x = .ref a ∧ Rd H a (.dT (ks.zip vs)) ∧ ks.length = ds.length ∧ Reps K H ds vs
  | .dicz ks ds, x => ∃ a o vs, x = .ref a ∧ H a = some (.frz o (.dK (ks.zip vs))) ∧ ks.length = ds.length ∧ Reps K H ds vs
  | .ditz ks ds, x => ∃ a o vs, x = .ref a ∧ H a = some (.frz o (.dT (ks.zip vs))) ∧ ks.length = ds.length ∧ Reps K H ds vs
  | .xc a dd ns ds, x => x = .ref a ∧ ∃ vs, H dd = some (.xd (ns.zip vs).reverse) ∧ ns.length = ds.length ∧ Reps K H ds vs
def Reps (K : PySem.W.Frag) (H : Hp) : List D → List V → Prop
  | [], vs => vs = []
  | d :: ds, vs => ∃ x ws, vs = x :: ws ∧ Rep K H d x ∧ Reps K H ds ws
end
section
variable {K : PySem.W.Frag} {H H' : Hp}
theorem rd_mono {a : Addr} {u : HO} (e : Same H H') (h : Rd H a u) : Rd H' a u := by
  rcases h with h | ⟨o, h⟩
  · exact .inl (e _ _ h)
  · exact .inr ⟨o, e _ _ h⟩
theorem sqt_mono {a : Addr} {xs : List V} (e : Same H H') (h : SqT K H a xs) : SqT K H' a xs := by
  rcases h with h | h
  · exact .inl (rd_mono e h)
  · exact .inr h
mutual
theorem Rep.mono (e : Same H H') : ∀ {d : D} {x : V}, Rep K H d x → Rep K H' d x
  | .non, _, h => by simpa [Rep] using h
  | .bl _, _, h => by simpa [Rep] using h
  | .int _, _, h => by simpa [Rep] using h
  | .str _, _, h => by simpa [Rep] using h
  | .v _, _, h => by simpa [Rep] using h
  | .tt ks, _, h => by
    unfold Rep at h ⊢
    obtain ⟨a, h1, h2⟩ := h
    exact ⟨a, h1, e _ _ h2⟩
  | .lst ds, _, h => by
    unfold Rep at h ⊢
    obtain ⟨a, vs, h1, h2, h3⟩ := h
    exact ⟨a, vs, h1, e.seq h2, Reps.mono e h3⟩
  | .tup ds, _, h => by
    unfold Rep at h ⊢
    obtain ⟨a, vs, h1, h2, h3⟩ := h
    exact ⟨a, vs, h1, sqt_mono e h2, Reps.mono e h3⟩
  | .ins C ns ds, _, h => by
    unfold Rep at h ⊢
    obtain ⟨a, dx, vs, h1, h2, h4, h3⟩ := h
    exact ⟨a, dx, vs, h1, e _ _ h2, h4, Reps.mono e h3⟩
  | .dic ks ds, _, h => by
    unfold Rep at h ⊢
    obtain ⟨a, vs, h1, h2, h4, h3⟩ := h
    exact ⟨a, vs, h1, rd_mono e h2, h4, Reps.mono e h3⟩
  | .dit ks ds, _, h => by
    unfold Rep at h ⊢
    obtain ⟨a, vs, h1, h2, h4, h3⟩ := h
    exact ⟨a, vs, h1, rd_mono e h2, h4, Reps.mono e h3⟩
  | .dicz ks ds, _, h => by
    unfold Rep at h ⊢
    obtain ⟨a, o, vs, h1, h2, h4, h3⟩ := h
    exact ⟨a, o, vs, h1, e _ _ h2, h4, Reps.mono e h3⟩
  | .ditz ks ds, _, h => by
    unfold Rep at h ⊢
    obtain ⟨a, o, vs, h1, h2, h4, h3⟩ := h
    exact ⟨a, o, vs, h1, e _ _ h2, h4, Reps.mono e h3⟩
  | .xc b dd ns ds, _, h => by
    unfold Rep at h ⊢
    obtain ⟨h1, vs, h2, h4, h3⟩ := h
    exact ⟨h1, vs, e _ _ h2, h4, Reps.mono e h3⟩
theorem Reps.mono (e : Same H H') : ∀ {ds : List D} {vs : List V}, Reps K H ds vs → Reps K H' ds vs
  | [], _, h => by simpa [Reps] using h
  | d :: ds, _, h => by
    unfold Reps at h ⊢
    obtain ⟨x, ws, h1, h2, h3⟩ := h
    exact ⟨x, ws, h1, Rep.mono e h2, Reps.mono e h3⟩
end
theorem Reps.len : ∀ {ds : List D} {vs : List V}, Reps K H ds vs → vs.length = ds.length
  | [], _, h => by unfold Reps at h; subst h; rfl
  | d :: ds, _, h => by
    unfold Reps at h
    obtain ⟨x, ws, rfl, h2, h3⟩ := h
    simp [Reps.len h3]
theorem Reps.nil : Reps K H [] [] := by unfold Reps; rfl
theorem Reps.cons {d : D} {ds : List D} {x : V} {vs : List V} (h : Rep K H d x) (t : Reps K H ds vs) : Reps K H (d :: ds) (x :: vs) := by
  unfold Reps; exact ⟨x, vs, rfl, h, t⟩
theorem Reps.append : ∀ {ds es : List D} {vs ws : List V}, Reps K H ds vs → Reps K H es ws → Reps K H (ds ++ es) (vs ++ ws)
  | [], _, _, _, h, g => by unfold Reps at h; subst h; exact g
  | d :: ds, _, _, _, h, g => by
    unfold Reps at h
    obtain ⟨x, us, rfl, h2, h3⟩ := h
    exact Reps.cons h2 (Reps.append h3 g)
theorem Reps.get : ∀ {ds : List D} {vs : List V} {i : Nat} {d : D}, Reps K H ds vs → ds[i]? = some d → ∃ x, vs[i]? = some x ∧ Rep K H d x
  | [], _, _, _, _, e => by simp at e
  | d :: ds, _, 0, d', h, e => by
    unfold Reps at h
    obtain ⟨x, us, rfl, h2, h3⟩ := h
    simp at e; subst e
    exact ⟨x, rfl, h2⟩
  | d :: ds, _, i + 1, d', h, e => by
    unfold Reps at h
    obtain ⟨x, us, rfl, h2, h3⟩ := h
    simp at e
    obtain ⟨y, h4, h5⟩ := Reps.get h3 e
    exact ⟨y, by simpa using h4, h5⟩
theorem Reps.take : ∀ {ds : List D} {vs : List V} (n : Nat), Reps K H ds vs → Reps K H (ds.take n) (vs.take n)
  | [], _, n, h => by unfold Reps at h; subst h; simp; exact Reps.nil
  | d :: ds, _, 0, h => by simp; exact Reps.nil
  | d :: ds, _, n + 1, h => by
    unfold Reps at h
    obtain ⟨x, us, rfl, h2, h3⟩ := h
    exact Reps.cons h2 (Reps.take n h3)
theorem Reps.drop : ∀ {ds : List D} {vs : List V} (n : Nat), Reps K H ds vs → Reps K H (ds.drop n) (vs.drop n)
  | [], _, n, h => by unfold Reps at h; subst h; simp; exact Reps.nil
  | d :: ds, _, 0, h => h
  | d :: ds, _, n + 1, h => by
    unfold Reps at h
    obtain ⟨x, us, rfl, h2, h3⟩ := h
    exact Reps.drop n h3
theorem Reps.set {x : V} {d : D} (hx : Rep K H d x) : ∀ {ds : List D} {vs : List V} (n : Nat), Reps K H ds vs → Reps K H (ds.set n d) (vs.set n x)
  | [], _, n, h => by unfold Reps at h; subst h; simp; exact Reps.nil
  | e :: ds, _, 0, h => by
    unfold Reps at h
    obtain ⟨y, us, rfl, h2, h3⟩ := h
    exact Reps.cons hx h3
  | e :: ds, _, n + 1, h => by
    unfold Reps at h
    obtain ⟨y, us, rfl, h2, h3⟩ := h
    exact Reps.cons h2 (Reps.set hx n h3)
theorem Reps.rev : ∀ {ds : List D} {vs : List V}, Reps K H ds vs → Reps K H ds.reverse vs.reverse
  | [], _, h => by unfold Reps at h; subst h; exact Reps.nil
  | e :: ds, _, h => by
    unfold Reps at h
    obtain ⟨y, us, rfl, h2, h3⟩ := h
    rw [List.reverse_cons, List.reverse_cons]
    exact Reps.append (Reps.rev h3) (Reps.cons h2 Reps.nil)
/-- scalars: lists of V from lists of D -/
theorem Reps.ints : ∀ {ns : List Int} {vs : List V}, Reps K H (ns.map D.int) vs → vs = ns.map V.int
  | [], _, h => by simpa [Reps] using h
  | n :: ns, _, h => by
    unfold Reps at h
    obtain ⟨x, us, rfl, h2, h3⟩ := h
    unfold Rep at h2; subst h2
    simp [Reps.ints h3]
theorem Reps.strs : ∀ {ns : List Str} {vs : List V}, Reps K H (ns.map D.str) vs → vs = ns.map V.str
  | [], _, h => by simpa [Reps] using h
  | n :: ns, _, h => by
    unfold Reps at h
    obtain ⟨x, us, rfl, h2, h3⟩ := h
    unfold Rep at h2; subst h2
    simp [Reps.strs h3]
theorem Reps.bls : ∀ {ns : List Bool} {vs : List V}, Reps K H (ns.map D.bl) vs → vs = ns.map V.bl
  | [], _, h => by simpa [Reps] using h
  | n :: ns, _, h => by
    unfold Reps at h
    obtain ⟨x, us, rfl, h2, h3⟩ := h
    unfold Rep at h2; subst h2
    simp [Reps.bls h3]
theorem reps_ints (ns : List Int) : Reps K H (ns.map D.int) (ns.map V.int) := by
  induction ns with
  | nil => exact Reps.nil
  | cons n r ih => exact Reps.cons (by unfold Rep; rfl) ih
theorem reps_strs (ns : List Str) : Reps K H (ns.map D.str) (ns.map V.str) := by
  induction ns with
  | nil => exact Reps.nil
  | cons n r ih => exact Reps.cons (by unfold Rep; rfl) ih
end
/-! ### growth: base B and full heap F, from (H0, H1) -/
structure Gr (H0 H1 B F : Hp) : Prop where
  b : Same H0 B
  f : Same B F
  s : Same H1 F
  n : ∀ a, B a ≠ none → H0 a = none → H1 a = none
theorem Gr.refl {B F : Hp} (h : Same B F) : Gr B F B F := ⟨Same.refl _, h, Same.refl _, fun _ h1 h2 => absurd h2 h1⟩
theorem Gr.trans {H0 H1 B F B' F' : Hp} (a : Gr H0 H1 B F) (c : Gr B F B' F') : Gr H0 H1 B' F' :=
  ⟨a.b.trans c.b, c.f, a.s.trans c.s, fun x h1 h2 => by
    by_cases h : B x = none
    · exact a.s.free (c.n x h1 h)
    · exact a.n x h h2⟩
/-- a base may be widened to what stood before -/
def uni (A B : Hp) : Hp := fun a => match A a with | some o => some o | none => B a
theorem Gr.widen {H0 H1 B F H0' : Hp} (g : Gr H0 H1 B F) (h : Same H0 H0') (h1 : Same H0' H1) : ∃ B', Gr H0' H1 B' F ∧ Same B B' := by
  refine ⟨uni H0' B, ⟨fun a o e => by unfold uni; rw [e], fun a o e => ?_, g.s, fun a e1 e2 => ?_⟩, fun a o e => ?_⟩
  · unfold uni at e
    cases q : H0' a with
    | none => rw [q] at e; exact g.f _ _ e
    | some u => rw [q] at e; cases e; exact g.s _ _ (h1 _ _ q)
  · unfold uni at e1
    rw [e2] at e1
    exact g.n a e1 (h.free e2)
  · unfold uni
    cases q : H0' a with
    | none => exact e
    | some u =>
      have q1 := g.s _ _ (h1 _ _ q)
      have q2 := g.f _ _ e
      rw [q1] at q2
      exact q2
theorem free_base {B F : Hp} (h : Same B F) {p : Addr} (e : F p = none) : B p = none := h.free e
theorem same_new {B : Hp} {p : Addr} {o : HO} (e : B p = none) : Same B (upd B p o) := fun a u h => by
  rw [upd_ne (ne_of_none h e)]; exact h
theorem same_upd2 {B F : Hp} {p : Addr} {o : HO} (h : Same B F) (e : B p = none) : Same (upd B p o) (upd F p o) := fun a u q => by
  by_cases z : a = p
  · subst z; rw [upd_same] at q ⊢; exact q
  · rw [upd_ne z] at q ⊢; exact h _ _ q
theorem same_out {B F : Hp} {p : Addr} {o : HO} (h : Same B F) (e : B p = none) : Same B (upd F p o) := fun a u q => by
  rw [upd_ne (ne_of_none q e)]; exact h _ _ q
theorem Gr.new {B F : Hp} {p : Addr} {o : HO} (h : Same B F) (e : F p = none) : Gr B F (upd B p o) (upd F p o) :=
  ⟨same_new (h.free e), same_upd2 h (h.free e), same_new e, fun a h1 h2 => by
    by_cases z : a = p
    · subst z; exact e
    · rw [upd_ne z] at h1; exact absurd h2 h1⟩
theorem get_set {α : Type} {l : List α} {j i : Nat} {a b : α} (h : (l.set j a)[i]? = some b) : (j = i ∧ a = b ∧ j < l.length) ∨ (j ≠ i ∧ l[i]? = some b) := by
  by_cases z : j = i
  · subst z
    by_cases hj : j < l.length
    · rw [List.getElem?_set_self hj] at h; cases h; exact .inl ⟨rfl, rfl, hj⟩
    · rw [List.getElem?_eq_none (by simp; omega)] at h; cases h
  · rw [List.getElem?_set_ne z] at h; exact .inr ⟨z, h⟩
/-! ### objects of one's own: trees -/
inductive Ob where
  | lst | tup | dic (ks : List Key) | dit (ks : List (List Key)) | ins (C : Addr) (ns : List Str)
inductive O where
  | fr (d : D) | ow (k : Ob) (xs : List O)
def obD : Ob → List D → D
  | .lst, ds => .lst ds
  | .tup, ds => .tup ds
  | .dic ks, ds => .dic ks ds
  | .dit ks, ds => .dit ks ds
  | .ins C ns, ds => .ins C ns ds
mutual
def frz : O → D
  | .fr d => d
  | .ow k xs => obD k (frzs xs)
def frzs : List O → List D
  | [] => []
  | o :: os => frz o :: frzs os
end
theorem frzs_map : ∀ xs : List O, frzs xs = xs.map frz
  | [] => rfl
  | o :: os => by simp [frzs, frzs_map os]
theorem frzs_fr {α : Type} (e : α → D) (xs : List α) : frzs (xs.map fun a => O.fr (e a)) = xs.map e := by
  rw [frzs_map, List.map_map]
  apply List.map_congr_left
  intro a _
  simp [frz]
/-- what lies there -/
def ObIs : Ob → List V → HO → Prop
  | .lst, vs, u => u = .lst vs
  | .tup, vs, u => u = .tup vs
  | .dic ks, vs, u => ks.length = vs.length ∧ u = .dK (ks.zip vs)
  | .dit ks, vs, u => ks.length = vs.length ∧ u = .dT (ks.zip vs)
  | .ins C ns, vs, u => ns.length = vs.length ∧ ∃ dx, u = .ins C dx (ns.zip vs)
theorem rep_ob {K : PySem.W.Frag} {B : Hp} {k : Ob} {p : Addr} {u : HO} {vs : List V} {ds : List D} (hp : B p = some u) (hu : ObIs k vs u) (r : Reps K B ds vs) : Rep K B (obD k ds) (.ref p) := by
  have hl := r.len
  cases k with
  | lst => cases hu; unfold obD Rep; exact ⟨p, vs, rfl, .inl (.inl hp), r⟩
  | tup => cases hu; unfold obD Rep; exact ⟨p, vs, rfl, .inl (.inl hp), r⟩
  | dic ks => obtain ⟨l, rfl⟩ := hu; unfold obD Rep; exact ⟨p, vs, rfl, .inl hp, by omega, r⟩
  | dit ks => obtain ⟨l, rfl⟩ := hu; unfold obD Rep; exact ⟨p, vs, rfl, .inl hp, by omega, r⟩
  | ins C ns => obtain ⟨l, dx, rfl⟩ := hu; unfold obD Rep; exact ⟨p, dx, vs, rfl, hp, by omega, r⟩
abbrev Fp := Addr → Prop
mutual
def Own (K : PySem.W.Frag) (B F : Hp) : O → V → Fp → Prop
  | .fr d, x, P => Rep K B d x ∧ ∀ a, ¬ P a
  | .ow k xs, x, P => ∃ p u vs P', x = .ref p ∧ F p = some u ∧ ObIs k vs u ∧ Owns K B F xs vs P' ∧ ¬ P' p ∧ ∀ a, P a ↔ (a = p ∨ P' a)
def Owns (K : PySem.W.Frag) (B F : Hp) : List O → List V → Fp → Prop
  | [], vs, P => vs = [] ∧ ∀ a, ¬ P a
  | o :: os, vs, P => ∃ x ws P1 P2, vs = x :: ws ∧ Own K B F o x P1 ∧ Owns K B F os ws P2 ∧ (∀ a, P1 a → P2 a → False) ∧ ∀ a, P a ↔ (P1 a ∨ P2 a)
end
section
variable {K : PySem.W.Frag} {B B' F F' : Hp}
mutual
theorem Own.mono (hb : Same B B') : ∀ {o : O} {x : V} {P : Fp}, (∀ a, P a → F' a = F a) → Own K B F o x P → Own K B' F' o x P
  | .fr d, x, P, hf, h => by
    unfold Own at h ⊢
    exact ⟨h.1.mono hb, h.2⟩
  | .ow k xs, x, P, hf, h => by
    unfold Own at h ⊢
    obtain ⟨p, u, vs, P', h1, h2, h3, h4, h5, h6⟩ := h
    exact ⟨p, u, vs, P', h1, by rw [hf p ((h6 p).2 (.inl rfl))]; exact h2, h3, Owns.mono hb (fun a ha => hf a ((h6 a).2 (.inr ha))) h4, h5, h6⟩
theorem Owns.mono (hb : Same B B') : ∀ {os : List O} {vs : List V} {P : Fp}, (∀ a, P a → F' a = F a) → Owns K B F os vs P → Owns K B' F' os vs P
  | [], vs, P, hf, h => by
    unfold Owns at h ⊢
    exact h
  | o :: os, vs, P, hf, h => by
    unfold Owns at h ⊢
    obtain ⟨x, ws, P1, P2, h1, h2, h3, h4, h5⟩ := h
    exact ⟨x, ws, P1, P2, h1, Own.mono hb (fun a ha => hf a ((h5 a).2 (.inl ha))) h2, Owns.mono hb (fun a ha => hf a ((h5 a).2 (.inr ha))) h3, h4, h5⟩
end
mutual
theorem Own.has : ∀ {o : O} {x : V} {P : Fp}, Own K B F o x P → ∀ a, P a → F a ≠ none
  | .fr d, x, P, h, a, ha => by
    unfold Own at h
    exact absurd ha (h.2 a)
  | .ow k xs, x, P, h, a, ha => by
    unfold Own at h
    obtain ⟨p, u, vs, P', h1, h2, h3, h4, h5, h6⟩ := h
    rcases (h6 a).1 ha with rfl | ha
    · rw [h2]; simp
    · exact Owns.has h4 a ha
theorem Owns.has : ∀ {os : List O} {vs : List V} {P : Fp}, Owns K B F os vs P → ∀ a, P a → F a ≠ none
  | [], vs, P, h, a, ha => by
    unfold Owns at h
    exact absurd ha (h.2 a)
  | o :: os, vs, P, h, a, ha => by
    unfold Owns at h
    obtain ⟨x, ws, P1, P2, h1, h2, h3, h4, h5⟩ := h
    rcases (h5 a).1 ha with ha | ha
    · exact Own.has h2 a ha
    · exact Owns.has h3 a ha
end
mutual
/-- what is one's own is known to every base that holds it -/
theorem Own.rep (hb : Same B B') : ∀ {o : O} {x : V} {P : Fp}, (∀ a, P a → B' a = F a) → Own K B F o x P → Rep K B' (frz o) x
  | .fr d, x, P, hf, h => by
    unfold Own at h
    unfold frz
    exact h.1.mono hb
  | .ow k xs, x, P, hf, h => by
    unfold Own at h
    obtain ⟨p, u, vs, P', rfl, h2, h3, h4, h5, h6⟩ := h
    unfold frz
    exact rep_ob (by rw [hf p ((h6 p).2 (.inl rfl))]; exact h2) h3 (Owns.rep hb (fun a ha => hf a ((h6 a).2 (.inr ha))) h4)
theorem Owns.rep (hb : Same B B') : ∀ {os : List O} {vs : List V} {P : Fp}, (∀ a, P a → B' a = F a) → Owns K B F os vs P → Reps K B' (frzs os) vs
  | [], vs, P, hf, h => by
    unfold Owns at h
    unfold frzs
    rw [h.1]; exact Reps.nil
  | o :: os, vs, P, hf, h => by
    unfold Owns at h
    obtain ⟨x, ws, P1, P2, rfl, h2, h3, h4, h5⟩ := h
    unfold frzs
    exact Reps.cons (Own.rep hb (fun a ha => hf a ((h5 a).2 (.inl ha))) h2) (Owns.rep hb (fun a ha => hf a ((h5 a).2 (.inr ha))) h3)
end
theorem Owns.len : ∀ {os : List O} {vs : List V} {P : Fp}, Owns K B F os vs P → vs.length = os.length
  | [], vs, P, h => by unfold Owns at h; simp [h.1]
  | o :: os, vs, P, h => by
    unfold Owns at h
    obtain ⟨x, ws, P1, P2, rfl, h2, h3, h4, h5⟩ := h
    simp [Owns.len h3]
theorem own_fr {d : D} {x : V} (r : Rep K B d x) : Own K B F (.fr d) x (fun _ => False) := by
  unfold Own; exact ⟨r, fun _ h => h⟩
theorem owns_fr : ∀ {ds : List D} {vs : List V}, Reps K B ds vs → Owns K B F (ds.map O.fr) vs (fun _ => False)
  | [], vs, h => by unfold Reps at h; simp only [List.map_nil]; unfold Owns; exact ⟨h, fun _ h => h⟩
  | d :: ds, vs, h => by
    unfold Reps at h
    obtain ⟨x, ws, rfl, h2, h3⟩ := h
    simp only [List.map_cons]
    unfold Owns
    exact ⟨x, ws, _, _, rfl, own_fr h2, owns_fr h3, fun _ h => h.elim, fun a => by simp⟩
theorem Owns.frs : ∀ {ds : List D} {vs : List V} {P : Fp}, Owns K B F (ds.map O.fr) vs P → Reps K B ds vs ∧ ∀ a, ¬ P a
  | [], vs, P, h => by simp only [List.map_nil] at h; unfold Owns at h; rw [h.1]; exact ⟨Reps.nil, h.2⟩
  | d :: ds, vs, P, h => by
    simp only [List.map_cons] at h
    unfold Owns at h
    obtain ⟨x, ws, P1, P2, rfl, h2, h3, h4, h5⟩ := h
    unfold Own at h2
    obtain ⟨a1, a2⟩ := Owns.frs h3
    exact ⟨Reps.cons h2.1 a1, fun a ha => ((h5 a).1 ha).elim (h2.2 a) (a2 a)⟩
theorem Own.congr {o : O} {x : V} {P P' : Fp} (h : Own K B F o x P) (e : ∀ a, P' a ↔ P a) : Own K B F o x P' := by
  have : P' = P := funext fun a => propext (e a)
  rw [this]; exact h
theorem Owns.congr {o : List O} {x : List V} {P P' : Fp} (h : Owns K B F o x P) (e : ∀ a, P' a ↔ P a) : Owns K B F o x P' := by
  have : P' = P := funext fun a => propext (e a)
  rw [this]; exact h
end
open Classical in
/-- the base with what is one's own -/
noncomputable def gl (P : Fp) (F B : Hp) : Hp := fun a => if P a then F a else B a
section
variable {K : PySem.W.Frag} {B F : Hp} {P : Fp}
theorem gl_in {a : Addr} (h : P a) : gl P F B a = F a := by unfold gl; rw [if_pos h]
theorem gl_out {a : Addr} (h : ¬ P a) : gl P F B a = B a := by unfold gl; rw [if_neg h]
theorem gl_base (h : ∀ a, P a → B a = none) : Same B (gl P F B) := fun a o e => by
  by_cases z : P a
  · rw [h a z] at e; cases e
  · rw [gl_out z]; exact e
theorem gl_full (h : Same B F) : Same (gl P F B) F := fun a o e => by
  by_cases z : P a
  · rw [gl_in z] at e; exact e
  · rw [gl_out z] at e; exact h a o e
end
/-! ### slots -/
inductive Slot where
  | no | val (d : D) | own (o : O) | obj (x : V) (o : O)
def SlotOk (K : PySem.W.Frag) (B F : Hp) (v : Option (Option V)) : Option Slot → Fp → Prop
  | none, P => ∀ a, ¬ P a
  | some .no, P => ∀ a, ¬ P a
  | some (.val d), P => (∃ x, v = some (some x) ∧ Rep K B d x) ∧ ∀ a, ¬ P a
  | some (.own o), P => ∃ x, v = some (some x) ∧ Own K B F o x P
  | some (.obj x o), P => v = some (some x) ∧ Own K B F o x P
structure VsP (K : PySem.W.Frag) (B F : Hp) (σ : L2.St) (env : List Slot) (Ps : Nat → Fp) : Prop where
  len : σ.length = env.length
  ok : ∀ i, SlotOk K B F σ[i]? env[i]? (Ps i)
  dis : ∀ i j a, i ≠ j → Ps i a → Ps j a → False
  out : ∀ i a, Ps i a → B a = none
def Vs (K : PySem.W.Frag) (B F : Hp) (σ : L2.St) (env : List Slot) : Prop := ∃ Ps, VsP K B F σ env Ps
section
variable {K : PySem.W.Frag} {B F B' F' : Hp} {σ : L2.St} {env : List Slot} {Ps : Nat → Fp}
theorem SlotOk.mono {v : Option (Option V)} {s : Option Slot} {P : Fp} (hb : Same B B') (hf : ∀ a, P a → F' a = F a) (h : SlotOk K B F v s P) : SlotOk K B' F' v s P := by
  match s, h with
  | none, h => exact h
  | some .no, h => exact h
  | some (.val d), ⟨⟨x, h1, h2⟩, h3⟩ => exact ⟨⟨x, h1, h2.mono hb⟩, h3⟩
  | some (.own o), ⟨x, h1, h2⟩ => exact ⟨x, h1, h2.mono hb hf⟩
  | some (.obj x o), ⟨h1, h2⟩ => exact ⟨h1, h2.mono hb hf⟩
theorem SlotOk.has {v : Option (Option V)} {s : Option Slot} {P : Fp} (h : SlotOk K B F v s P) : ∀ a, P a → F a ≠ none := by
  match s, h with
  | none, h => exact fun a ha => absurd ha (h a)
  | some .no, h => exact fun a ha => absurd ha (h a)
  | some (.val d), ⟨_, h3⟩ => exact fun a ha => absurd ha (h3 a)
  | some (.own o), ⟨x, h1, h2⟩ => exact h2.has
  | some (.obj x o), ⟨h1, h2⟩ => exact h2.has
theorem Gr.out {a : Addr} (g : Gr B F B' F') (h : B a = none) (e : F a ≠ none) : B' a = none := by
  cases q : B' a with
  | none => rfl
  | some u => exact absurd (g.n a (by rw [q]; simp) h) e
theorem same_at {a : Addr} (s : Same F F') (h : F a ≠ none) : F' a = F a := by
  cases q : F a with
  | none => exact absurd q h
  | some u => exact s a u q
theorem VsP.grow (h : VsP K B F σ env Ps) (g : Gr B F B' F') : VsP K B' F' σ env Ps :=
  ⟨h.len, fun i => (h.ok i).mono g.b fun a ha => same_at g.s ((h.ok i).has a ha), h.dis, fun i a ha => g.out (h.out i a ha) ((h.ok i).has a ha)⟩
theorem Vs.grow (h : Vs K B F σ env) (g : Gr B F B' F') : Vs K B' F' σ env := let ⟨Ps, h⟩ := h; ⟨Ps, h.grow g⟩
theorem VsP.val (h : VsP K B F σ env Ps) (i : Nat) (d : D) (e : env[i]? = some (.val d)) : ∃ x, σ[i]? = some (some x) ∧ Rep K B d x := by
  have := h.ok i
  rw [e] at this
  exact this.1
theorem Vs.val (h : Vs K B F σ env) (i : Nat) (d : D) (e : env[i]? = some (.val d)) : ∃ x, σ[i]? = some (some x) ∧ Rep K B d x := let ⟨_, h⟩ := h; h.val i d e
theorem VsP.own (h : VsP K B F σ env Ps) (i : Nat) (o : O) (e : env[i]? = some (.own o)) : ∃ x, σ[i]? = some (some x) ∧ Own K B F o x (Ps i) := by
  have := h.ok i
  rw [e] at this
  exact this
theorem Vs.len (h : Vs K B F σ env) : σ.length = env.length := let ⟨_, h⟩ := h; h.len
/-- one slot is given anew -/
theorem VsP.put (h : VsP K B F σ env Ps) (j : Nat) (s : Slot) (v : Option V) (P : Fp) (hb : Same B B') (hf : ∀ i a, i ≠ j → Ps i a → F' a = F a)
    (hs : SlotOk K B' F' (some v) (some s) P) (hd : ∀ i a, i ≠ j → Ps i a → ¬ P a) (ho : ∀ i a, i ≠ j → Ps i a → B' a = none) (hp : ∀ a, P a → B' a = none) :
    VsP K B' F' (σ.set j v) (env.set j s) (fun i => if i = j then (if j < env.length then P else fun _ => False) else Ps i) := by
  refine ⟨by simp [h.len], fun i => ?_, fun i k a n h1 h2 => ?_, fun i a h1 => ?_⟩
  · by_cases z : i = j
    · subst z
      simp only [if_true]
      by_cases hl : i < env.length
      · rw [if_pos hl, List.getElem?_set_self hl, List.getElem?_set_self (by rw [h.len]; exact hl)]
        exact hs
      · rw [if_neg hl, List.getElem?_eq_none (l := env.set i s) (by simp; omega)]
        exact fun _ h => h
    · rw [if_neg z, List.getElem?_set_ne (Ne.symm z), List.getElem?_set_ne (Ne.symm z)]
      exact (h.ok i).mono hb (hf i · z)
  · by_cases z : i = j
    · subst z
      rw [if_neg (Ne.symm n)] at h2
      simp only [if_true] at h1
      split at h1
      · exact hd k a (Ne.symm n) h2 h1
      · exact h1
    · rw [if_neg z] at h1
      by_cases z2 : k = j
      · subst z2
        simp only [if_true] at h2
        split at h2
        · exact hd i a n h1 h2
        · exact h2
      · rw [if_neg z2] at h2
        exact h.dis i k a n h1 h2
  · by_cases z : i = j
    · subst z
      simp only [if_true] at h1
      split at h1
      · exact hp a h1
      · exact h1.elim
    · rw [if_neg z] at h1
      exact ho i a z h1
theorem VsP.set (h : VsP K B F σ env Ps) {j : Nat} {d : D} {x : V} (r : Rep K B d x) : VsP K B F (σ.set j (some x)) (env.set j (.val d)) (fun i => if i = j then (fun _ => False) else Ps i) := by
  have := h.put j (.val d) (some x) (fun _ => False) (Same.refl B) (F' := F) (fun _ _ _ _ => rfl) ⟨⟨x, rfl, r⟩, fun _ h => h⟩ (fun _ _ _ _ h => h) (fun i a _ ha => h.out i a ha) (fun _ h => h.elim)
  have e : (fun i => if i = j then (if j < env.length then (fun _ => False : Fp) else fun _ => False) else Ps i) = (fun i => if i = j then (fun _ => False) else Ps i) := by
    funext i
    split
    · split <;> rfl
    · rfl
  rw [e] at this
  exact this
theorem Vs.set (h : Vs K B F σ env) {j : Nat} {d : D} {x : V} (r : Rep K B d x) : Vs K B F (σ.set j (some x)) (env.set j (.val d)) := let ⟨_, h⟩ := h; ⟨_, h.set r⟩
theorem VsP.free {p : Addr} (h : VsP K B F σ env Ps) (e : F p = none) : ∀ i, ¬ Ps i p := fun i q => (h.ok i).has p q e
end

/-! ### evaluation -/
def EvE (K : PySem.W.Frag) (te : TE) (env : List Slot) (d : D) : Prop := ∀ B F σ, Same B F → Vs K B F σ env → ∀ Q : VK, (∀ B' F' x, Gr B F B' F' → Rep K B' d x → Q x F') → te σ F Q
def EvA (K : PySem.W.Frag) (ta : TA) (env : List Slot) (ds : List D) : Prop := ∀ B F σ, Same B F → Vs K B F σ env → ∀ Q : List V → Hp → Prop, (∀ B' F' xs, Gr B F B' F' → Reps K B' ds xs → Q xs F') → ta σ F Q
def EvT (K : PySem.W.Frag) (tt : TT) (env : List Slot) (b : Bool) : Prop := ∀ B F σ, Same B F → Vs K B F σ env → ∀ Q : Bool → Hp → Prop, (∀ B' F', Gr B F B' F' → Q b F') → tt σ F Q
def EvO (K : PySem.W.Frag) (to : TO) (env : List Slot) (o : Option Int) : Prop := ∀ B F σ, Same B F → Vs K B F σ env → ∀ Q : Option Int → Hp → Prop, (∀ B' F', Gr B F B' F' → Q o F') → to σ F Q
section
variable {K : PySem.W.Frag} {env : List Slot} {ta tb te tc : TE} {d d1 d2 : D}
theorem EvE.is {d' : D} (h : EvE K te env d) (e : d = d') : EvE K te env d' := e ▸ h
theorem EvT.is {tt : TT} {b b' : Bool} (h : EvT K tt env b) (e : b = b') : EvT K tt env b' := e ▸ h
theorem ee_var {i : Nat} (h : env[i]? = some (.val d)) : EvE K (tVar i) env d := fun B F σ hs vs Q q => by
  obtain ⟨x, h1, h2⟩ := vs.val i d h
  exact ⟨x, h1, q B F x (Gr.refl hs) h2⟩
theorem ee_c {x : V} (h : ∀ H, Rep K H d x) : EvE K (tC x) env d := fun B F σ hs vs Q q => q B F x (Gr.refl hs) (h B)
theorem ee_int {i : Int} : EvE K (tC (.int i)) env (.int i) := ee_c fun _ => by unfold Rep; rfl
theorem ee_str {i : Str} : EvE K (tC (.str i)) env (.str i) := ee_c fun _ => by unfold Rep; rfl
theorem ee_bl {i : Bool} : EvE K (tC (.bl i)) env (.bl i) := ee_c fun _ => by unfold Rep; rfl
theorem ee_non : EvE K (tC .non) env .non := ee_c fun _ => by unfold Rep; rfl
theorem ee_v {x : V} : EvE K (tC x) env (.v x) := ee_c fun _ => by unfold Rep; rfl
theorem ea_nil : EvA K tNil env [] := fun B F σ hs vs Q q => q B F [] (Gr.refl hs) Reps.nil
theorem ea_cons {tr : TA} {ds : List D} (h : EvE K ta env d) (t : EvA K tr env ds) : EvA K (tCons ta tr) env (d :: ds) := fun B F σ hs vs Q q =>
  h B F σ hs vs _ fun B1 F1 x g1 r1 => t B1 F1 σ g1.f (vs.grow g1) _ fun B2 F2 xs g2 r2 => q B2 F2 _ (g1.trans g2) (Reps.cons (r1.mono g2.b) r2)
/-- a two-place operation by values -/
theorem ee_op {r : R2} (h1 : EvE K ta env d1) (h2 : EvE K tb env d2)
    (hr : ∀ B F x y, Same B F → Rep K B d1 x → Rep K B d2 y → ∀ Q : VK, (∀ B' F' z, Gr B F B' F' → Rep K B' d z → Q z F') → r x y F Q) : EvE K (tOp r ta tb) env d := fun B F σ hs vs Q q =>
  h1 B F σ hs vs _ fun B1 F1 x g1 r1 => h2 B1 F1 σ g1.f (vs.grow g1) _ fun B2 F2 y g2 r2 => hr B2 F2 x y g2.f (r1.mono g2.b) r2 _ fun B3 F3 z g3 r3 => q B3 F3 z ((g1.trans g2).trans g3) r3
theorem ee_un {r : V → Hp → VK → Prop} (h1 : EvE K ta env d1) (hr : ∀ B F x, Same B F → Rep K B d1 x → ∀ Q : VK, (∀ B' F' z, Gr B F B' F' → Rep K B' d z → Q z F') → r x F Q) : EvE K (tUn r ta) env d := fun B F σ hs vs Q q =>
  h1 B F σ hs vs _ fun B1 F1 x g1 r1 => hr B1 F1 x g1.f r1 _ fun B2 F2 y g2 r2 => q B2 F2 y (g1.trans g2) r2
theorem ee_I0 {g : Int → Int → V} {i j : Int} {d : D} (h1 : EvE K ta env (.int i)) (h2 : EvE K tb env (.int j)) (hd : ∀ H, Rep K H d (g i j)) : EvE K (tOp (rI0 g) ta tb) env d :=
  ee_op h1 h2 fun B F x y hs r1 r2 Q q => by
    unfold Rep at r1 r2; subst r1 r2
    exact ⟨i, j, rfl, rfl, q B F _ (Gr.refl hs) (hd B)⟩
theorem ee_I {C : Int → Int → Prop} {g : Int → Int → V} {i j : Int} {d : D} (h1 : EvE K ta env (.int i)) (h2 : EvE K tb env (.int j)) (hc : C i j) (hd : ∀ H, Rep K H d (g i j)) : EvE K (tOp (rI C g) ta tb) env d :=
  ee_op h1 h2 fun B F x y hs r1 r2 Q q => by
    unfold Rep at r1 r2; subst r1 r2
    exact ⟨i, j, rfl, rfl, hc, q B F _ (Gr.refl hs) (hd B)⟩
theorem rp_int {i : Int} (H : Hp) : Rep K H (.int i) (.int i) := by unfold Rep; rfl
theorem rp_str {i : Str} (H : Hp) : Rep K H (.str i) (.str i) := by unfold Rep; rfl
theorem rp_bl {i : Bool} (H : Hp) : Rep K H (.bl i) (.bl i) := by unfold Rep; rfl
theorem rp_non (H : Hp) : Rep K H .non .non := by unfold Rep; rfl
variable {i j : Int}
theorem ee_add (h1 : EvE K ta env (.int i)) (h2 : EvE K tb env (.int j)) : EvE K (tOp (rI0 fun i j => .int (i + j)) ta tb) env (.int (i + j)) := ee_I0 h1 h2 rp_int
theorem ee_sub (h1 : EvE K ta env (.int i)) (h2 : EvE K tb env (.int j)) : EvE K (tOp (rI0 fun i j => .int (i - j)) ta tb) env (.int (i - j)) := ee_I0 h1 h2 rp_int
theorem ee_mul (h1 : EvE K ta env (.int i)) (h2 : EvE K tb env (.int j)) (hc : CMul i j) : EvE K (tOp (rI CMul fun i j => .int (i * j)) ta tb) env (.int (i * j)) := ee_I h1 h2 hc rp_int
theorem ee_div (h1 : EvE K ta env (.int i)) (h2 : EvE K tb env (.int j)) (hc : CDiv i j) : EvE K (tOp (rI CDiv fun i j => .int (i / j)) ta tb) env (.int (i / j)) := ee_I h1 h2 hc rp_int
theorem ee_mod (h1 : EvE K ta env (.int i)) (h2 : EvE K tb env (.int j)) (hc : 0 < j) : EvE K (tOp (rI (fun _ j => 0 < j) fun i j => .int (i % j)) ta tb) env (.int (i % j)) := ee_I h1 h2 hc rp_int
theorem ee_pow (h1 : EvE K ta env (.int i)) (h2 : EvE K tb env (.int j)) (hc : CPow i j) : EvE K (tOp (rI CPow fun i j => .int (i ^ j.toNat)) ta tb) env (.int (i ^ j.toNat)) := ee_I h1 h2 hc rp_int
theorem ee_powR {r : Int} (h1 : EvE K ta env (.int i)) (h2 : EvE K tb env (.int j)) (hc : CPow i j) (hr : i ^ j.toNat = r) : EvE K (tOp (rI CPow fun i j => .int (i ^ j.toNat)) ta tb) env (.int r) := hr ▸ ee_pow h1 h2 hc
theorem ee_neg (h1 : EvE K ta env (.int i)) : EvE K (tUn (rU fun i => .int (-i)) ta) env (.int (-i)) := ee_un h1 fun B F x hs r1 Q q => by
    unfold Rep at r1; subst r1
    exact ⟨i, rfl, q B F _ (Gr.refl hs) (rp_int B)⟩
theorem ee_lt (h1 : EvE K ta env (.int i)) (h2 : EvE K tb env (.int j)) : EvE K (tOp (rI0 fun i j => .bl (decide (i < j))) ta tb) env (.bl (decide (i < j))) := ee_I0 h1 h2 rp_bl
theorem ee_le (h1 : EvE K ta env (.int i)) (h2 : EvE K tb env (.int j)) : EvE K (tOp (rI0 fun i j => .bl (decide (i ≤ j))) ta tb) env (.bl (decide (i ≤ j))) := ee_I0 h1 h2 rp_bl
theorem ee_gt (h1 : EvE K ta env (.int i)) (h2 : EvE K tb env (.int j)) : EvE K (tOp (rI0 fun i j => .bl (decide (j < i))) ta tb) env (.bl (decide (j < i))) := ee_I0 h1 h2 rp_bl
theorem ee_ge (h1 : EvE K ta env (.int i)) (h2 : EvE K tb env (.int j)) : EvE K (tOp (rI0 fun i j => .bl (decide (j ≤ i))) ta tb) env (.bl (decide (j ≤ i))) := ee_I0 h1 h2 rp_bl
/-- scalars of data -/
def sV : D → Option V
  | .non => some .non | .bl b => some (.bl b) | .int i => some (.int i) | .str s => some (.str s) | _ => none
theorem Rep.sc {H : Hp} {x v : V} (h : Rep K H d x) (e : sV d = some v) : x = v := by
  cases d <;> unfold sV at e <;> (try cases e) <;> (unfold Rep at h; exact h)
theorem ee_eq {v w : V} (h1 : EvE K ta env d1) (h2 : EvE K tb env d2) (e1 : sV d1 = some v) (e2 : sV d2 = some w) (hs : scal v w = true) {b : Bool} (hb : decide (v = w) = b) : EvE K (tOp rEq ta tb) env (.bl b) :=
  ee_op h1 h2 fun B F x y hf r1 r2 Q q => by
    have := r1.sc e1; have := r2.sc e2; subst x y
    exact ⟨hs, by rw [hb]; exact q B F _ (Gr.refl hf) (rp_bl B)⟩
theorem ee_ne {v w : V} (h1 : EvE K ta env d1) (h2 : EvE K tb env d2) (e1 : sV d1 = some v) (e2 : sV d2 = some w) (hs : scal v w = true) {b : Bool} (hb : (!decide (v = w)) = b) : EvE K (tOp rNe ta tb) env (.bl b) :=
  ee_op h1 h2 fun B F x y hf r1 r2 Q q => by
    have := r1.sc e1; have := r2.sc e2; subst x y
    exact ⟨hs, by rw [hb]; exact q B F _ (Gr.refl hf) (rp_bl B)⟩
theorem dec_int {a b : Int} : decide (V.int a = V.int b) = decide (a = b) := by
  by_cases h : a = b
  · simp [h]
  · simp [h]
theorem dec_str {a b : Str} : decide (V.str a = V.str b) = decide (a = b) := by
  by_cases h : a = b
  · simp [h]
  · simp [h]
theorem dec_bl {a b : Bool} : decide (V.bl a = V.bl b) = decide (a = b) := by
  by_cases h : a = b
  · simp [h]
  · simp [h]
theorem ee_eqI (h1 : EvE K ta env (.int i)) (h2 : EvE K tb env (.int j)) : EvE K (tOp rEq ta tb) env (.bl (decide (i = j))) := ee_eq h1 h2 rfl rfl rfl dec_int
theorem ee_eqS {s t : Str} (h1 : EvE K ta env (.str s)) (h2 : EvE K tb env (.str t)) : EvE K (tOp rEq ta tb) env (.bl (decide (s = t))) := ee_eq h1 h2 rfl rfl rfl dec_str
theorem ee_eqB {s t : Bool} (h1 : EvE K ta env (.bl s)) (h2 : EvE K tb env (.bl t)) : EvE K (tOp rEq ta tb) env (.bl (decide (s = t))) := ee_eq h1 h2 rfl rfl rfl dec_bl
theorem ee_neI (h1 : EvE K ta env (.int i)) (h2 : EvE K tb env (.int j)) : EvE K (tOp rNe ta tb) env (.bl (!decide (i = j))) := ee_ne h1 h2 rfl rfl rfl (by rw [dec_int])
theorem ee_neS {s t : Str} (h1 : EvE K ta env (.str s)) (h2 : EvE K tb env (.str t)) : EvE K (tOp rNe ta tb) env (.bl (!decide (s = t))) := ee_ne h1 h2 rfl rfl rfl (by rw [dec_str])
theorem ee_catS {s t : Str} (h1 : EvE K ta env (.str s)) (h2 : EvE K tb env (.str t)) (hz : s.length + t.length ≤ sizeLine) : EvE K (tOp (fun x y H Q => ∃ i j, x = .str i ∧ y = .str j ∧ i.length + j.length ≤ sizeLine ∧ Q (.str (i ++ j)) H) ta tb) env (.str (s ++ t)) :=
  ee_op h1 h2 fun B F x y hf r1 r2 Q q => by
    unfold Rep at r1 r2; subst r1 r2
    exact ⟨s, t, rfl, rfl, hz, q B F _ (Gr.refl hf) (rp_str B)⟩
theorem ee_inS {c : Nat} {s : Str} (h1 : EvE K ta env (.str ⟨#[c]⟩)) (h2 : EvE K tb env (.str s)) : EvE K (tOp (fun x y H Q => ∃ (c : Nat) (z : Str), x = .str ⟨#[c]⟩ ∧ y = .str z ∧ Q (.bl (decide (c ∈ z.cps.toList))) H) ta tb) env (.bl (decide (c ∈ s.cps.toList))) :=
  ee_op h1 h2 fun B F x y hf r1 r2 Q q => by
    unfold Rep at r1 r2; subst r1 r2
    exact ⟨c, s, rfl, rfl, q B F _ (Gr.refl hf) (rp_bl B)⟩
theorem ee_ninS {c : Nat} {s : Str} (h1 : EvE K ta env (.str ⟨#[c]⟩)) (h2 : EvE K tb env (.str s)) : EvE K (tOp (fun x y H Q => ∃ (c : Nat) (z : Str), x = .str ⟨#[c]⟩ ∧ y = .str z ∧ Q (.bl (!decide (c ∈ z.cps.toList))) H) ta tb) env (.bl (!decide (c ∈ s.cps.toList))) :=
  ee_op h1 h2 fun B F x y hf r1 r2 Q q => by
    unfold Rep at r1 r2; subst r1 r2
    exact ⟨c, s, rfl, rfl, q B F _ (Gr.refl hf) (rp_bl B)⟩
/-! tests -/
theorem et_B {b : Bool} (h : EvE K te env (.bl b)) : EvT K (tB te) env b := fun B F σ hs vs Q q => h B F σ hs vs _ fun B1 F1 x g r => by
  unfold Rep at r; exact ⟨b, r, q B1 F1 g⟩
theorem et_test {b : Bool} (h : EvE K te env (.bl b)) : EvT K (tTest te) env b := fun B F σ hs vs Q q => h B F σ hs vs _ fun B1 F1 x g r => by
  unfold Rep at r; exact ⟨b, r, q B1 F1 g⟩
theorem et_not {t : TT} {b : Bool} (h : EvT K t env b) : EvT K (tNot t) env (!b) := fun B F σ hs vs Q q => h B F σ hs vs _ fun B1 F1 g => q B1 F1 g
theorem et_and {t u : TT} {a b : Bool} (h : EvT K t env a) (h2 : a = true → EvT K u env b) : EvT K (tAnd t u) env (a && b) := fun B F σ hs vs Q q => h B F σ hs vs _ fun B1 F1 g => by
  cases a with
  | true => exact h2 rfl B1 F1 σ g.f (vs.grow g) _ fun B2 F2 g2 => q B2 F2 (g.trans g2)
  | false => exact q B1 F1 g
theorem et_or {t u : TT} {a b : Bool} (h : EvT K t env a) (h2 : a = false → EvT K u env b) : EvT K (tOr t u) env (a || b) := fun B F σ hs vs Q q => h B F σ hs vs _ fun B1 F1 g => by
  cases a with
  | true => exact q B1 F1 g
  | false => exact h2 rfl B1 F1 σ g.f (vs.grow g) _ fun B2 F2 g2 => q B2 F2 (g.trans g2)
theorem ee_andV {a b : Bool} (h : EvE K ta env (.bl a)) (h2 : a = true → EvE K tb env (.bl b)) : EvE K (tAndV ta tb) env (.bl (a && b)) := fun B F σ hs vs Q q => h B F σ hs vs _ fun B1 F1 x g r => by
  unfold Rep at r
  refine ⟨a, r, ?_⟩
  cases a with
  | true => exact h2 rfl B1 F1 σ g.f (vs.grow g) _ fun B2 F2 x g2 r2 => q B2 F2 x (g.trans g2) r2
  | false => exact q B1 F1 _ g (rp_bl B1)
theorem ee_orV {a b : Bool} (h : EvE K ta env (.bl a)) (h2 : a = false → EvE K tb env (.bl b)) : EvE K (tOrV ta tb) env (.bl (a || b)) := fun B F σ hs vs Q q => h B F σ hs vs _ fun B1 F1 x g r => by
  unfold Rep at r
  refine ⟨a, r, ?_⟩
  cases a with
  | false => exact h2 rfl B1 F1 σ g.f (vs.grow g) _ fun B2 F2 x g2 r2 => q B2 F2 x (g.trans g2) r2
  | true => exact q B1 F1 _ g (rp_bl B1)
theorem ee_notV {a : Bool} (h : EvE K ta env (.bl a)) : EvE K (tNotV ta) env (.bl (!a)) := fun B F σ hs vs Q q => h B F σ hs vs _ fun B1 F1 x g r => by
  unfold Rep at r
  exact ⟨a, r, q B1 F1 _ g (rp_bl B1)⟩
theorem ee_if {t : TT} {b : Bool} (h : EvT K t env b) (h1 : b = true → EvE K ta env d1) (h2 : b = false → EvE K tb env d2) : EvE K (tIf t ta tb) env (if b = true then d1 else d2) := fun B F σ hs vs Q q => h B F σ hs vs _ fun B1 F1 g => by
  cases b with
  | true => exact h1 rfl B1 F1 σ g.f (vs.grow g) _ fun B2 F2 x g2 r2 => q B2 F2 x (g.trans g2) (by simpa using r2)
  | false => exact h2 rfl B1 F1 σ g.f (vs.grow g) _ fun B2 F2 x g2 r2 => q B2 F2 x (g.trans g2) (by simpa using r2)
/-- both ways give d -/
theorem ee_ifE {t : TT} {b : Bool} (h : EvT K t env b) (h1 : b = true → EvE K ta env d) (h2 : b = false → EvE K tb env d) : EvE K (tIf t ta tb) env d := fun B F σ hs vs Q q => h B F σ hs vs _ fun B1 F1 g => by
  cases b with
  | true => exact h1 rfl B1 F1 σ g.f (vs.grow g) _ fun B2 F2 x g2 r2 => q B2 F2 x (g.trans g2) r2
  | false => exact h2 rfl B1 F1 σ g.f (vs.grow g) _ fun B2 F2 x g2 r2 => q B2 F2 x (g.trans g2) r2
/-- a < b <= c of ints (any two comparisons of ints) -/
theorem ee_chain {r r' : R2} {a b : Bool} (h1 : EvE K ta env d) (h2 : EvE K tb env d1)
    (hr : ∀ B F x y, Same B F → Rep K B d x → Rep K B d1 y → ∀ Q : VK, (∀ B' F' z, Gr B F B' F' → Rep K B' (.bl a) z → Q z F') → r x y F Q)
    (h3 : a = true → EvE K tc env d2) (hr' : a = true → ∀ B F x y, Same B F → Rep K B d1 x → Rep K B d2 y → ∀ Q : VK, (∀ B' F' z, Gr B F B' F' → Rep K B' (.bl b) z → Q z F') → r' x y F Q) : EvE K (tChain r r' ta tb tc) env (.bl (a && b)) := fun B F σ hs vs Q q =>
  h1 B F σ hs vs _ fun B1 F1 x g1 r1 => h2 B1 F1 σ g1.f (vs.grow g1) _ fun B2 F2 y g2 r2 => hr B2 F2 x y g2.f (r1.mono g2.b) r2 _ fun B3 F3 z g3 r3 => by
    unfold Rep at r3
    refine ⟨a, r3, ?_⟩
    have g := (g1.trans g2).trans g3
    cases a with
    | true =>
      exact h3 rfl B3 F3 σ g.f (vs.grow g) _ fun B4 F4 w g4 r4 => hr' rfl B4 F4 y w g4.f (r2.mono (g3.trans g4).b) r4 _ fun B5 F5 z5 g5 r5 => q B5 F5 z5 ((g.trans g4).trans g5) r5
    | false => exact q B3 F3 _ g (rp_bl B3)
theorem cmp_I0 {g : Int → Int → V} {i j : Int} {b : Bool} (hd : g i j = .bl b) : ∀ B F x y, Same B F → Rep K B (.int i) x → Rep K B (.int j) y → ∀ Q : VK, (∀ B' F' z, Gr B F B' F' → Rep K B' (.bl b) z → Q z F') → rI0 g x y F Q := fun B F x y hf r1 r2 Q q => by
    unfold Rep at r1 r2; subst r1 r2
    exact ⟨i, j, rfl, rfl, q B F _ (Gr.refl hf) (by rw [hd]; exact rp_bl B)⟩
/-! displays -/
theorem rep_new_lst {B : Hp} {p : Addr} {ds : List D} {vs : List V} (e : B p = none) (h : Reps K B ds vs) : Rep K (upd B p (.lst vs)) (.lst ds) (.ref p) := by
  unfold Rep
  exact ⟨p, vs, rfl, .inl (.inl upd_same), h.mono (same_new e)⟩
theorem rep_new_tup {B : Hp} {p : Addr} {ds : List D} {vs : List V} (e : B p = none) (h : Reps K B ds vs) : Rep K (upd B p (.tup vs)) (.tup ds) (.ref p) := by
  unfold Rep
  exact ⟨p, vs, rfl, .inl (.inl upd_same), h.mono (same_new e)⟩
theorem ee_tup {t : TA} {ds : List D} (h : EvA K t env ds) (hz : ds.length ≤ 100000) : EvE K (tTup t) env (.tup ds) := fun B F σ hs vs Q q => h B F σ hs vs _ fun B1 F1 xs g r =>
  ⟨by rw [r.len]; exact Nat.le_of_lt (smallZ hz), fun p hp => q _ _ _ (g.trans (Gr.new g.f hp)) (rep_new_tup (g.f.free hp) r)⟩
theorem ee_lst {t : TA} {ds : List D} (h : EvA K t env ds) (hz : ds.length ≤ 100000) : EvE K (tLst t) env (.lst ds) := fun B F σ hs vs Q q => h B F σ hs vs _ fun B1 F1 xs g r =>
  ⟨by rw [r.len]; exact Nat.le_of_lt (smallZ hz), fun p hp => q _ _ _ (g.trans (Gr.new g.f hp)) (rep_new_lst (g.f.free hp) r)⟩
/-! calls of built-ins by values -/
theorem ee_cb {r : List V → Hp → VK → Prop} {t : TA} {ds : List D} (h : EvA K t env ds) (hr : ∀ B F xs, Same B F → Reps K B ds xs → ∀ Q : VK, (∀ B' F' z, Gr B F B' F' → Rep K B' d z → Q z F') → r xs F Q) : EvE K (tCB r t) env d := fun B F σ hs vs Q q =>
  h B F σ hs vs _ fun B1 F1 xs g1 r1 => hr B1 F1 xs g1.f r1 _ fun B2 F2 y g2 r2 => q B2 F2 y (g1.trans g2) r2
theorem reps1 {H : Hp} {xs : List V} (h : Reps K H [d] xs) : ∃ x, xs = [x] ∧ Rep K H d x := by
  unfold Reps at h
  obtain ⟨x, ws, rfl, h2, h3⟩ := h
  unfold Reps at h3; subst h3
  exact ⟨x, rfl, h2⟩
theorem reps2 {H : Hp} {xs : List V} (h : Reps K H [d, d1] xs) : ∃ x y, xs = [x, y] ∧ Rep K H d x ∧ Rep K H d1 y := by
  unfold Reps at h
  obtain ⟨x, ws, rfl, h2, h3⟩ := h
  obtain ⟨y, rfl, h4⟩ := reps1 h3
  exact ⟨x, y, rfl, h2, h4⟩
abbrev rLen1 (K : PySem.W.Frag) : List V → Hp → VK → Prop := fun xs H Q => ∃ x n, xs = [x] ∧ LenV K x H n ∧ Q (.int n) H
theorem ee_lenL {ds : List D} (h : EvE K te env (.lst ds)) : EvE K (tCB (rLen1 K) (tCons te tNil)) env (.int ds.length) := ee_cb (ea_cons h ea_nil) fun B F xs hs r Q q => by
  obtain ⟨x, rfl, r1⟩ := reps1 r
  unfold Rep at r1
  obtain ⟨a, vs, rfl, h1, h2⟩ := r1
  refine ⟨_, vs.length, rfl, .inl ⟨vs, hs.seq h1, rfl⟩, q B F _ (Gr.refl hs) ?_⟩
  rw [h2.len]; exact rp_int B
theorem ee_lenT {ds : List D} (h : EvE K te env (.tup ds)) : EvE K (tCB (rLen1 K) (tCons te tNil)) env (.int ds.length) := ee_cb (ea_cons h ea_nil) fun B F xs hs r Q q => by
  obtain ⟨x, rfl, r1⟩ := reps1 r
  unfold Rep at r1
  obtain ⟨a, vs, rfl, h1, h2⟩ := r1
  refine ⟨_, vs.length, rfl, .inr ⟨vs, sqt_mono hs h1, rfl⟩, q B F _ (Gr.refl hs) ?_⟩
  rw [h2.len]; exact rp_int B
theorem ee_lenS {s : Str} (h : EvE K te env (.str s)) (hz : s.length ≤ sizeLine) : EvE K (tCB (rLen1 K) (tCons te tNil)) env (.int s.length) := ee_cb (ea_cons h ea_nil) fun B F xs hs r Q q => by
  obtain ⟨x, rfl, r1⟩ := reps1 r
  unfold Rep at r1; subst r1
  exact ⟨_, s.length, rfl, ⟨hz, rfl⟩, q B F _ (Gr.refl hs) (rp_int B)⟩
abbrev rInt1 : List V → Hp → VK → Prop := fun xs H Q => (∃ i, xs = [.int i] ∧ Q (.int i) H) ∨ ∃ k, xs = [.bl k] ∧ Q (.int (if k then 1 else 0)) H
theorem ee_intI (h : EvE K te env (.int i)) : EvE K (tCB rInt1 (tCons te tNil)) env (.int i) := ee_cb (ea_cons h ea_nil) fun B F xs hs r Q q => by
  obtain ⟨x, rfl, r1⟩ := reps1 r
  unfold Rep at r1; subst r1
  exact .inl ⟨i, rfl, q B F _ (Gr.refl hs) (rp_int B)⟩
theorem ee_intB {b : Bool} (h : EvE K te env (.bl b)) : EvE K (tCB rInt1 (tCons te tNil)) env (.int (if b then 1 else 0)) := ee_cb (ea_cons h ea_nil) fun B F xs hs r Q q => by
  obtain ⟨x, rfl, r1⟩ := reps1 r
  unfold Rep at r1; subst r1
  exact .inr ⟨b, rfl, q B F _ (Gr.refl hs) (rp_int B)⟩
theorem ee_max2 (h1 : EvE K ta env (.int i)) (h2 : EvE K tb env (.int j)) : EvE K (tCB (fun xs H Q => ∃ i j, xs = [.int i, .int j] ∧ Q (.int (if j > i then j else i)) H) (tCons ta (tCons tb tNil))) env (.int (max i j)) := ee_cb (ea_cons h1 (ea_cons h2 ea_nil)) fun B F xs hs r Q q => by
  obtain ⟨x, y, rfl, r1, r2⟩ := reps2 r
  unfold Rep at r1 r2; subst r1 r2
  refine ⟨i, j, rfl, q B F _ (Gr.refl hs) ?_⟩
  have : (if j > i then j else i) = max i j := by split <;> omega
  rw [this]; exact rp_int B
theorem ee_min2 (h1 : EvE K ta env (.int i)) (h2 : EvE K tb env (.int j)) : EvE K (tCB (fun xs H Q => ∃ i j, xs = [.int i, .int j] ∧ Q (.int (if j < i then j else i)) H) (tCons ta (tCons tb tNil))) env (.int (min i j)) := ee_cb (ea_cons h1 (ea_cons h2 ea_nil)) fun B F xs hs r Q q => by
  obtain ⟨x, y, rfl, r1, r2⟩ := reps2 r
  unfold Rep at r1 r2; subst r1 r2
  refine ⟨i, j, rfl, q B F _ (Gr.refl hs) ?_⟩
  have : (if j < i then j else i) = min i j := by split <;> omega
  rw [this]; exact rp_int B
theorem ee_all {bs : List Bool} (h : EvE K te env (.lst (bs.map .bl))) : EvE K (tCB (rAll K) (tCons te tNil)) env (.bl (bs.all id)) := ee_cb (ea_cons h ea_nil) fun B F xs hs r Q q => by
  obtain ⟨x, rfl, r1⟩ := reps1 r
  unfold Rep at r1
  obtain ⟨a, vs, rfl, h1, h2⟩ := r1
  have := h2.bls; subst this
  exact ⟨a, bs, rfl, hs.seq h1, q B F _ (Gr.refl hs) (rp_bl B)⟩
theorem ee_any {bs : List Bool} (h : EvE K te env (.lst (bs.map .bl))) : EvE K (tCB (rAny K) (tCons te tNil)) env (.bl (bs.any id)) := ee_cb (ea_cons h ea_nil) fun B F xs hs r Q q => by
  obtain ⟨x, rfl, r1⟩ := reps1 r
  unfold Rep at r1
  obtain ⟨a, vs, rfl, h1, h2⟩ := r1
  have := h2.bls; subst this
  exact ⟨a, bs, rfl, hs.seq h1, q B F _ (Gr.refl hs) (rp_bl B)⟩
theorem ee_sum {ns : List Int} (h : EvE K te env (.lst (ns.map .int))) : EvE K (tCB (rSum K) (tCons te tNil)) env (.int ns.sum) := ee_cb (ea_cons h ea_nil) fun B F xs hs r Q q => by
  obtain ⟨x, rfl, r1⟩ := reps1 r
  unfold Rep at r1
  obtain ⟨a, vs, rfl, h1, h2⟩ := r1
  have := h2.ints; subst this
  exact ⟨a, ns, rfl, hs.seq h1, q B F _ (Gr.refl hs) (rp_int B)⟩
abbrev rListOf (K : PySem.W.Frag) : List V → Hp → VK → Prop := fun xs H Q => ∃ p ys, xs = [.ref p] ∧ (SqL K H p ys ∨ SqT K H p ys) ∧ ∀ l, H l = none → Q (.ref l) (upd H l (.lst ys))
theorem ee_listL {ds : List D} (h : EvE K te env (.lst ds)) : EvE K (tCB (rListOf K) (tCons te tNil)) env (.lst ds) := ee_cb (ea_cons h ea_nil) fun B F xs hs r Q q => by
  obtain ⟨x, rfl, r1⟩ := reps1 r
  unfold Rep at r1
  obtain ⟨a, vs, rfl, h1, h2⟩ := r1
  exact ⟨a, vs, rfl, .inl (hs.seq h1), fun l hl => q _ _ _ (Gr.new hs hl) (rep_new_lst (hs.free hl) h2)⟩
theorem ee_listT {ds : List D} (h : EvE K te env (.tup ds)) : EvE K (tCB (rListOf K) (tCons te tNil)) env (.lst ds) := ee_cb (ea_cons h ea_nil) fun B F xs hs r Q q => by
  obtain ⟨x, rfl, r1⟩ := reps1 r
  unfold Rep at r1
  obtain ⟨a, vs, rfl, h1, h2⟩ := r1
  exact ⟨a, vs, rfl, .inr (sqt_mono hs h1), fun l hl => q _ _ _ (Gr.new hs hl) (rep_new_lst (hs.free hl) h2)⟩
abbrev rTupOf (K : PySem.W.Frag) : List V → Hp → VK → Prop := fun xs H Q => ∃ p ys, xs = [.ref p] ∧ ((SqL K H p ys ∧ ∀ l, H l = none → Q (.ref l) (upd H l (.tup ys))) ∨ (SqT K H p ys ∧ Q (.ref p) H))
theorem ee_tupL {ds : List D} (h : EvE K te env (.lst ds)) : EvE K (tCB (rTupOf K) (tCons te tNil)) env (.tup ds) := ee_cb (ea_cons h ea_nil) fun B F xs hs r Q q => by
  obtain ⟨x, rfl, r1⟩ := reps1 r
  unfold Rep at r1
  obtain ⟨a, vs, rfl, h1, h2⟩ := r1
  exact ⟨a, vs, rfl, .inl ⟨hs.seq h1, fun l hl => q _ _ _ (Gr.new hs hl) (rep_new_tup (hs.free hl) h2)⟩⟩
theorem ee_tupT {ds : List D} (h : EvE K te env (.tup ds)) : EvE K (tCB (rTupOf K) (tCons te tNil)) env (.tup ds) := ee_cb (ea_cons h ea_nil) fun B F xs hs r Q q => by
  obtain ⟨x, rfl, r1⟩ := reps1 r
  unfold Rep at r1
  obtain ⟨a, vs, rfl, h1, h2⟩ := r1
  refine ⟨a, vs, rfl, .inr ⟨sqt_mono hs h1, q B F _ (Gr.refl hs) ?_⟩⟩
  unfold Rep
  exact ⟨a, vs, rfl, h1, h2⟩
/-! subscripts -/
theorem atI_len {α β : Type} {xs : List α} {ys : List β} (h : xs.length = ys.length) {k : Int} {y : β} (e : atI ys k = some y) : ∃ m : Nat, ys[m]? = some y ∧ ∀ x, xs[m]? = some x → atI xs k = some x := by
  unfold atI at e ⊢
  rw [h]
  cases q : ixN ys.length k with
  | none => rw [q] at e; cases e
  | some m =>
    rw [q] at e
    exact ⟨m, e, fun x hx => hx⟩
theorem ee_ixL {ds : List D} {k : Int} (h1 : EvE K ta env (.lst ds)) (h2 : EvE K tb env (.int k)) (ha : atI ds k = some d) : EvE K (tOp (rIxL K) ta tb) env d :=
  ee_op h1 h2 fun B F x y hf r1 r2 Q q => by
    unfold Rep at r1 r2; subst r2
    obtain ⟨a, vs, rfl, h1, h2⟩ := r1
    obtain ⟨m, e1, e2⟩ := atI_len (xs := vs) h2.len ha
    obtain ⟨z, e3, r3⟩ := h2.get e1
    exact ⟨a, vs, k, z, rfl, rfl, hf.seq h1, e2 z e3, q B F _ (Gr.refl hf) r3⟩
theorem ee_ixT {ds : List D} {k : Int} (h1 : EvE K ta env (.tup ds)) (h2 : EvE K tb env (.int k)) (ha : atI ds k = some d) : EvE K (tOp (rIxT K) ta tb) env d :=
  ee_op h1 h2 fun B F x y hf r1 r2 Q q => by
    unfold Rep at r1 r2; subst r2
    obtain ⟨a, vs, rfl, h1, h2⟩ := r1
    obtain ⟨m, e1, e2⟩ := atI_len (xs := vs) h2.len ha
    obtain ⟨z, e3, r3⟩ := h2.get e1
    exact ⟨a, vs, k, z, rfl, rfl, sqt_mono hf h1, e2 z e3, q B F _ (Gr.refl hf) r3⟩
theorem ee_ixS {s : Str} {k : Int} {c : Nat} (h1 : EvE K ta env (.str s)) (h2 : EvE K tb env (.int k)) (hz : s.length ≤ sizeLine) (ha : atI s.cps.toList k = some c) : EvE K (tOp rIxS ta tb) env (.str ⟨#[c]⟩) :=
  ee_op h1 h2 fun B F x y hf r1 r2 Q q => by
    unfold Rep at r1 r2; subst r1 r2
    exact ⟨s, k, c, rfl, rfl, hz, ha, q B F _ (Gr.refl hf) (rp_str B)⟩
theorem eo_none : EvO K tNoPart env none := fun B F σ hs vs Q q => q B F (Gr.refl hs)
theorem eo_some (h : EvE K te env (.int i)) : EvO K (tPart te) env (some i) := fun B F σ hs vs Q q => h B F σ hs vs _ fun B1 F1 x g r => by
  unfold Rep at r; exact ⟨i, r, q B1 F1 g⟩
/-- a slice, as of V -/
def cutD {α : Type} (xs : List α) (lo hi : Option Int) : List α := (xs.drop (HT.sIx xs.length 0 lo)).take (HT.sIx xs.length xs.length hi - HT.sIx xs.length 0 lo)
theorem cut_reps {H : Hp} {ds : List D} {vs : List V} (h : Reps K H ds vs) (lo hi : Option Int) : Reps K H (cutD ds lo hi) (cutV vs lo hi) := by
  unfold cutD cutV
  rw [h.len]
  exact (h.drop _).take _
theorem cutD_map {α β : Type} (f : α → β) (xs : List α) (lo hi : Option Int) : cutD (xs.map f) lo hi = (cutD xs lo hi).map f := by
  unfold cutD
  simp [List.map_take, List.map_drop]
theorem ee_slL {tl th : TO} {ds : List D} {lo hi : Option Int} (h : EvE K te env (.lst ds)) (h1 : EvO K tl env lo) (h2 : EvO K th env hi) : EvE K (tSl (rSlL K) te tl th) env (.lst (cutD ds lo hi)) := fun B F σ hs vs Q q =>
  h B F σ hs vs _ fun B1 F1 x g1 r1 => h1 B1 F1 σ g1.f (vs.grow g1) _ fun B2 F2 g2 => h2 B2 F2 σ g2.f (vs.grow (g1.trans g2)) _ fun B3 F3 g3 => by
    have r3 := r1.mono (g2.trans g3).b
    unfold Rep at r3
    obtain ⟨a, ws, rfl, e1, e2⟩ := r3
    exact ⟨a, ws, rfl, g3.f.seq e1, fun p hp => q _ _ _ (((g1.trans g2).trans g3).trans (Gr.new g3.f hp)) (rep_new_lst (g3.f.free hp) (cut_reps e2 lo hi))⟩
theorem ee_slS {tl th : TO} {s : Str} {lo hi : Option Int} (h : EvE K te env (.str s)) (h1 : EvO K tl env lo) (h2 : EvO K th env hi) (hz : s.length ≤ sizeLine) : EvE K (tSl rSlS te tl th) env (.str (cutS s lo hi)) := fun B F σ hs vs Q q =>
  h B F σ hs vs _ fun B1 F1 x g1 r1 => h1 B1 F1 σ g1.f (vs.grow g1) _ fun B2 F2 g2 => h2 B2 F2 σ g2.f (vs.grow (g1.trans g2)) _ fun B3 F3 g3 => by
    unfold Rep at r1; subst r1
    exact ⟨s, rfl, hz, q _ _ _ ((g1.trans g2).trans g3) (rp_str B3)⟩
/-! methods of texts -/
theorem ee_m1 {r : V → List V → Hp → VK → Prop} {s : Str} (h1 : EvE K ta env (.str s)) (h2 : EvE K tb env d1)
    (hr : ∀ B F y, Same B F → Rep K B d1 y → ∀ Q : VK, (∀ B' F' z, Gr B F B' F' → Rep K B' d z → Q z F') → r (.str s) [y] F Q) : EvE K (tM1 r ta tb) env d := fun B F σ hs vs Q q =>
  h1 B F σ hs vs _ fun B1 F1 x g1 r1 => by
    unfold Rep at r1; subst r1
    exact ⟨⟨s, rfl⟩, h2 B1 F1 σ g1.f (vs.grow g1) _ fun B2 F2 y g2 r2 => hr B2 F2 y g2.f r2 _ fun B3 F3 z g3 r3 => q B3 F3 z ((g1.trans g2).trans g3) r3⟩
theorem ee_split {s t : Str} (h1 : EvE K ta env (.str s)) (h2 : EvE K tb env (.str t)) (ht : (t.length == 0) = false) (hz : s.length + 2 ≤ sizeLine) :
    EvE K (tM1 (fun x xs H Q => ∃ a b, x = .str a ∧ xs = [.str b] ∧ (b.length == 0) = false ∧ a.length + 2 ≤ sizeLine ∧ rNewStrs (Txt.split a b) H Q) ta tb) env (.lst ((Txt.split s t).map .str)) :=
  ee_m1 h1 h2 fun B F y hs r Q q => by
    unfold Rep at r; subst r
    exact ⟨s, t, rfl, rfl, ht, hz, fun p hp => q _ _ _ (Gr.new hs hp) (rep_new_lst (hs.free hp) (reps_strs _))⟩
theorem ee_join {s : Str} {ys : List Str} (h1 : EvE K ta env (.str s)) (h2 : EvE K tb env (.lst (ys.map .str))) (hz : (ys.map (·.length)).sum + ys.length * s.length ≤ 16777216) :
    EvE K (tM1 (fun x xs H Q => ∃ a p, ∃ ys : List Str, x = .str a ∧ xs = [.ref p] ∧ (SqL K H p (ys.map V.str) ∨ SqT K H p (ys.map V.str)) ∧ (ys.map (·.length)).sum + ys.length * a.length ≤ 16777216 ∧ Q (.str (Txt.join a ys)) H) ta tb) env (.str (Txt.join s ys)) :=
  ee_m1 h1 h2 fun B F y hs r Q q => by
    unfold Rep at r
    obtain ⟨a, vs, rfl, e1, e2⟩ := r
    have := e2.strs; subst this
    exact ⟨s, a, ys, rfl, rfl, .inl (hs.seq e1), hz, q _ _ _ (Gr.refl hs) (rp_str B)⟩
theorem ee_startswith {s t : Str} (h1 : EvE K ta env (.str s)) (h2 : EvE K tb env (.str t)) : EvE K (tM1 (fun x xs H Q => ∃ a b, x = .str a ∧ xs = [.str b] ∧ Q (.bl (Txt.startswith a b)) H) ta tb) env (.bl (Txt.startswith s t)) :=
  ee_m1 h1 h2 fun B F y hs r Q q => by
    unfold Rep at r; subst r
    exact ⟨s, t, rfl, rfl, q _ _ _ (Gr.refl hs) (rp_bl B)⟩
end
end Y

namespace Y
open PySem PySem.Spec PyProof.Rows L2
/-! ### targets -/
def setsV (σ : L2.St) : List Nat → List V → L2.St
  | j :: js, x :: xs => setsV (σ.set j (some x)) js xs
  | _, _ => σ
def sets (env : List Slot) : List (Nat × D) → List Slot
  | [] => env
  | (j, d) :: us => sets (env.set j (.val d)) us
def EvG (K : PySem.W.Frag) (g : TG) (d : D) (us : List (Nat × D)) : Prop :=
  ∀ B F σ x, Same B F → Rep K B d x → ∀ Q : L2.St → Hp → Prop, (∀ xs : List V, Reps K B (us.map (·.2)) xs → Q (setsV σ (us.map (·.1)) xs) F) → g x σ F Q
def EvGs (K : PySem.W.Frag) (g : TGs) (ds : List D) (us : List (Nat × D)) : Prop :=
  ∀ B F σ xs, Same B F → Reps K B ds xs → ∀ Q : L2.St → Hp → Prop, (∀ ys : List V, Reps K B (us.map (·.2)) ys → Q (setsV σ (us.map (·.1)) ys) F) → g xs σ F Q
section
variable {K : PySem.W.Frag} {B F : Hp}
theorem Vs.sets {σ : L2.St} : ∀ {us : List (Nat × D)} {env : List Slot} {xs : List V} {σ : L2.St}, Vs K B F σ env → Reps K B (us.map (·.2)) xs → Vs K B F (setsV σ (us.map (·.1)) xs) (sets env us)
  | [], env, xs, σ, h, r => by
    simp only [List.map_nil] at r
    unfold Reps at r; subst r
    simpa [setsV, Y.sets] using h
  | (j, d) :: us, env, xs, σ, h, r => by
    simp only [List.map_cons] at r
    unfold Reps at r
    obtain ⟨x, ws, rfl, h2, h3⟩ := r
    show Vs K B F (setsV (σ.set j (some x)) (us.map (·.1)) ws) (Y.sets (env.set j (.val d)) us)
    exact Vs.sets (σ := σ) (h.set h2) h3
theorem eg_name {j : Nat} {d : D} : EvG K (gName j) d [(j, d)] := fun B F σ x hs r Q q => q [x] (Reps.cons r Reps.nil)
theorem egs_nil : EvGs K gNil [] [] := fun B F σ xs hs r Q q => by
  unfold Reps at r; subst r
  exact ⟨rfl, q [] Reps.nil⟩
theorem egs_cons {j : Nat} {d : D} {ds : List D} {us : List (Nat × D)} {t : TGs} (h : EvGs K t ds us) : EvGs K (gCons (gName j) t) (d :: ds) ((j, d) :: us) := fun B F σ xs hs r Q q => by
  unfold Reps at r
  obtain ⟨x, ws, rfl, h2, h3⟩ := r
  refine ⟨x, ws, rfl, h B F _ ws hs h3 Q fun ys hy => ?_⟩
  exact q (x :: ys) (Reps.cons h2 hy)
theorem eg_tup {n : Nat} {t : TGs} {ds : List D} {us : List (Nat × D)} (h : EvGs K t ds us) (hn : ds.length = n) : EvG K (gTup K n t) (.tup ds) us := fun B F σ x hs r Q q => by
  unfold Rep at r
  obtain ⟨a, vs, rfl, e1, e2⟩ := r
  exact ⟨a, vs, rfl, sqt_mono hs e1, by rw [e2.len, hn], h B F σ vs hs e2 Q q⟩
theorem eg_lst {n : Nat} {t : TGs} {ds : List D} {us : List (Nat × D)} (h : EvGs K t ds us) (hn : ds.length = n) : EvG K (gUnl K n t) (.lst ds) us := fun B F σ x hs r Q q => by
  unfold Rep at r
  obtain ⟨a, vs, rfl, e1, e2⟩ := r
  exact ⟨a, vs, rfl, hs.seq e1, by rw [e2.len, hn], h B F σ vs hs e2 Q q⟩
end
/-! ### what is walked -/
structure Wk (K : PySem.W.Frag) (J : It) (B : Hp) (ds : List D) : Prop where
  w : ∃ (G : Hp → Prop) (Y : Nat → Hp → V → Hp → Prop), Walk J ds.length G Y ∧ (∀ F, Same B F → G F) ∧
    ∀ i B1 F1 x F2, Same B B1 → Same B1 F1 → Y i F1 x F2 → ∃ B2 d, Gr B1 F1 B2 F2 ∧ ds[i]? = some d ∧ Rep K B2 d x
def EvI (K : PySem.W.Frag) (wi : TI) (env : List Slot) (ds : List D) : Prop := ∀ B F σ, Same B F → Vs K B F σ env → ∀ R : It → Hp → Prop, (∀ B' F' J, Gr B F B' F' → Wk K J B' ds → R J F') → wi σ F R
section
variable {K : PySem.W.Frag} {env : List Slot} {ta tb te tc : TE} {d d1 d2 : D}
theorem ei_list {ds : List D} (h : EvE K te env (.lst ds)) : EvI K (iList K te) env ds := fun B F σ hs vs R q => h B F σ hs vs _ fun B1 F1 x g r => by
  unfold Rep at r
  obtain ⟨a, ws, rfl, e1, e2⟩ := r
  refine ⟨a, rfl, ⟨ws, g.f.seq e1⟩, q B1 F1 _ g ⟨fun F => SqL K F a ws, YAt ws, ?_, fun F hF => hF.seq e1, fun i B2 F2 x F3 s1 s2 y => ?_⟩⟩
  · rw [← e2.len]; exact walk_list
  · obtain ⟨rfl, ey⟩ := y
    have hi : i < ds.length := by rw [← e2.len]; exact (List.getElem?_eq_some_iff.mp ey).1
    obtain ⟨z, e3, e4⟩ := e2.get (List.getElem?_eq_getElem hi)
    rw [ey] at e3; cases e3
    exact ⟨B2, ds[i], Gr.refl s2, List.getElem?_eq_getElem hi, e4.mono s1⟩
theorem ei_tup {ds : List D} (h : EvE K te env (.tup ds)) : EvI K (iTup K te) env ds := fun B F σ hs vs R q => h B F σ hs vs _ fun B1 F1 x g r => by
  unfold Rep at r
  obtain ⟨a, ws, rfl, e1, e2⟩ := r
  refine ⟨a, rfl, ⟨ws, sqt_mono g.f e1⟩, q B1 F1 _ g ⟨fun F => SqT K F a ws, YAt ws, ?_, fun F hF => sqt_mono hF e1, fun i B2 F2 x F3 s1 s2 y => ?_⟩⟩
  · rw [← e2.len]; exact walk_tup
  · obtain ⟨rfl, ey⟩ := y
    have hi : i < ds.length := by rw [← e2.len]; exact (List.getElem?_eq_some_iff.mp ey).1
    obtain ⟨z, e3, e4⟩ := e2.get (List.getElem?_eq_getElem hi)
    rw [ey] at e3; cases e3
    exact ⟨B2, ds[i], Gr.refl s2, List.getElem?_eq_getElem hi, e4.mono s1⟩
def rng (lo : Int) (n : Nat) : List D := (List.range n).map fun (i : Nat) => D.int (lo + (i : Int))
theorem rng_len (lo : Int) (n : Nat) : (rng lo n).length = n := by simp [rng]
theorem wk_range {lo : Int} {n : Nat} {B : Hp} : Wk K (Itr lo n) B (rng lo n) := by
  refine ⟨fun _ => True, fun i H x H' => i < n ∧ H' = H ∧ x = .int (lo + i), ?_, fun _ _ => True.intro, fun i B2 F2 x F3 s1 s2 y => ?_⟩
  · rw [rng_len]; exact walk_range.mono (fun _ h => h) fun i H x H' hi _ y => ⟨hi, y⟩
  · obtain ⟨hi, rfl, rfl⟩ := y
    exact ⟨B2, .int (lo + i), Gr.refl s2, by simp [rng, hi], rp_int B2⟩
theorem ei_rng1 {n : Int} (h : EvE K te env (.int n)) (hn : -(2 ^ 62) ≤ n ∧ n < 2 ^ 62) : EvI K (iRng1 (tCons te tNil)) env (rng 0 n.toNat) := fun B F σ hs vs R q => (ea_cons h ea_nil) B F σ hs vs _ fun B1 F1 xs g r => by
  obtain ⟨x, rfl, r1⟩ := reps1 r
  unfold Rep at r1; subst r1
  exact ⟨n, rfl, hn.1, hn.2, q B1 F1 _ g wk_range⟩
theorem ei_rng2 {m n : Int} (h : EvE K ta env (.int m)) (h2 : EvE K tb env (.int n)) (hm : -(2 ^ 62) ≤ m ∧ m < 2 ^ 62) (hn : -(2 ^ 62) ≤ n ∧ n < 2 ^ 62) : EvI K (iRng2 (tCons ta (tCons tb tNil))) env (rng m (n - m).toNat) := fun B F σ hs vs R q => (ea_cons h (ea_cons h2 ea_nil)) B F σ hs vs _ fun B1 F1 xs g r => by
  obtain ⟨x, y, rfl, r1, r2⟩ := reps2 r
  unfold Rep at r1 r2; subst r1 r2
  exact ⟨m, n, rfl, ⟨hm.1, hm.2, hn.1, hn.2⟩, q B1 F1 _ g wk_range⟩
def chs (s : Str) : List D := s.cps.toList.map fun c => D.str ⟨#[c]⟩
theorem ei_str {s : Str} (h : EvE K te env (.str s)) : EvI K (iStr te) env (chs s) := fun B F σ hs vs R q => h B F σ hs vs _ fun B1 F1 x g r => by
  unfold Rep at r; subst r
  refine ⟨s, rfl, q B1 F1 _ g ⟨fun _ => True, fun i H v H' => H' = H ∧ ∃ c, s.cps[i]? = some c ∧ v = .str ⟨#[c]⟩, ?_, fun _ _ => True.intro, fun i B2 F2 x F3 s1 s2 y => ?_⟩⟩
  · have : (chs s).length = s.cps.size := by simp [chs]
    rw [this]; exact walk_str
  · obtain ⟨rfl, c, e, rfl⟩ := y
    refine ⟨B2, .str ⟨#[c]⟩, Gr.refl s2, ?_, rp_str B2⟩
    simp [chs, e]
def enum (ds : List D) : List D := (List.range ds.length).map fun i => D.tup [.int (i : Nat), ds.getD i .non]
theorem ei_enum {ds : List D} (h : EvE K te env (.lst ds)) : EvI K (iEnum K (tCons te tNil)) env (enum ds) := fun B F σ hs vs R q => (ea_cons h ea_nil) B F σ hs vs _ fun B1 F1 xs g r => by
  obtain ⟨x, rfl, r1⟩ := reps1 r
  unfold Rep at r1
  obtain ⟨a, ws, rfl, e1, e2⟩ := r1
  refine ⟨a, ws, rfl, g.f.seq e1, q B1 F1 _ g ⟨fun F => SqL K F a ws, fun i H x H' => i < ds.length ∧ YPair (fun i => some (.int (i : Nat))) (fun i => ws[i]?) i H x H', ?_, fun F hF => hF.seq e1, fun i B2 F2 x F3 s1 s2 y => ?_⟩⟩
  · have : (enum ds).length = ws.length := by simp [enum, e2.len]
    rw [this]
    exact walk_enum.mono (fun _ h => h) fun i H x H' hi _ y => ⟨by rw [← e2.len]; exact hi, y⟩
  · obtain ⟨hi, T, x1, y1, rfl, hT, rfl, h1, h2⟩ := y
    cases h1
    have h2 : ws[i]? = some y1 := h2
    obtain ⟨z, e3, e4⟩ := e2.get (List.getElem?_eq_getElem hi)
    rw [h2] at e3; cases e3
    refine ⟨_, .tup [.int (i : Nat), ds[i]], Gr.new s2 hT, ?_, rep_new_tup (s2.free hT) (Reps.cons (rp_int _) (Reps.cons (e4.mono s1) Reps.nil))⟩
    simp [enum, hi, List.getD_eq_getElem?_getD]
end
/-! ### comprehensions -/
theorem sub_wipe {σ : L2.St} {vs : List Nat} : ∀ i : Nat, (wipe σ vs)[i]? = if i ∈ vs ∧ i < σ.length then some none else σ[i]? := by
  intro i
  induction vs with
  | nil => simp [wipe]
  | cons v vs ih =>
    unfold wipe
    by_cases h : v = i
    · subst h
      by_cases hl : v < σ.length
      · rw [List.getElem?_set_self (by rw [wipe_length]; exact hl)]
        simp [hl]
      · rw [List.getElem?_eq_none (by simp [wipe_length]; omega)]
        simp [hl]
    · rw [List.getElem?_set_ne h, ih]
      have : (i ∈ v :: vs ↔ i ∈ vs) := by simp [Ne.symm h]
      simp [this]
theorem wipe_setsV {vs : List Nat} : ∀ {js : List Nat} {xs : List V} {σ : L2.St}, (∀ j ∈ js, j ∈ vs) → wipe (setsV σ js xs) vs = wipe σ vs
  | [], _, σ, _ => by simp [setsV]
  | j :: js, [], σ, _ => by simp [setsV]
  | j :: js, x :: xs, σ, h => by
    show wipe (setsV (σ.set j (some x)) js xs) vs = wipe σ vs
    rw [wipe_setsV fun k hk => h k (List.mem_cons_of_mem _ hk)]
    apply List.ext_getElem?
    intro i
    rw [sub_wipe, sub_wipe]
    have hj := h j List.mem_cons_self
    by_cases z : j = i
    · subst z
      by_cases hl : j < σ.length
      · simp [hj, hl]
      · simp [hl]
    · simp [List.getElem?_set_ne z]
theorem wipe_wipe {vs : List Nat} {σ : L2.St} : wipe (wipe σ vs) vs = wipe σ vs := by
  apply List.ext_getElem?
  intro i
  rw [sub_wipe, sub_wipe, wipe_length]
  split <;> rfl
def wipeE (env : List Slot) : List Nat → List Slot
  | [] => env
  | v :: vs => (wipeE env vs).set v .no
theorem wipeE_len (env : List Slot) : ∀ vs, (wipeE env vs).length = env.length
  | [] => rfl
  | v :: vs => by unfold wipeE; rw [List.length_set, wipeE_len env vs]
theorem wipeE_get {env : List Slot} {s : Slot} (hs : s ≠ .no) : ∀ {vs : List Nat} {i : Nat}, (wipeE env vs)[i]? = some s → env[i]? = some s ∧ i ∉ vs
  | [], i, h => ⟨h, by simp⟩
  | v :: vs, i, h => by
    unfold wipeE at h
    rcases get_set h with ⟨_, e, _⟩ | ⟨n, h⟩
    · exact absurd e.symm hs
    · obtain ⟨h1, h2⟩ := wipeE_get hs h
      exact ⟨h1, by simp [Ne.symm n, h2]⟩
theorem Vs.wiped {K : PySem.W.Frag} {B F : Hp} {σ : L2.St} {env : List Slot} : ∀ {vs : List Nat}, Vs K B F σ env → Vs K B F (wipe σ vs) (wipeE env vs)
  | [], h => h
  | v :: vs, h => by
    obtain ⟨Ps, h'⟩ := Vs.wiped (vs := vs) h
    unfold wipe wipeE
    exact ⟨_, h'.put v .no none (fun _ => False) (Same.refl B) (F' := F) (fun _ _ _ _ => rfl) (fun _ h => h) (fun _ _ _ _ h => h) (fun i a _ ha => h'.out i a ha) (fun _ h => h.elim)⟩
/-! ### new things of one's own -/
def EvX (K : PySem.W.Frag) (te : TE) (env : List Slot) (o : O) : Prop := ∀ B F σ, Same B F → Vs K B F σ env → ∀ Q : VK, (∀ B' F' x P, Gr B F B' F' → Own K B' F' o x P → (∀ a, P a → F a = none ∧ B' a = none) → Q x F') → te σ F Q
def EvXs (K : PySem.W.Frag) (ta : TA) (env : List Slot) (os : List O) : Prop := ∀ B F σ, Same B F → Vs K B F σ env → ∀ Q : List V → Hp → Prop, (∀ B' F' xs P, Gr B F B' F' → Owns K B' F' os xs P → (∀ a, P a → F a = none ∧ B' a = none) → Q xs F') → ta σ F Q
section
variable {K : PySem.W.Frag} {env : List Slot} {ta tb te tc : TE} {d d1 d2 : D} {o : O} {os : List O}
theorem EvE.x (h : EvE K te env d) : EvX K te env (.fr d) := fun B F σ hs vs Q q => h B F σ hs vs Q fun B' F' x g r => q B' F' x _ g (own_fr r) (fun _ h => h.elim)
theorem EvX.ef (h : EvX K te env (.fr d)) : EvE K te env d := fun B F σ hs vs Q q => h B F σ hs vs Q fun B' F' x P g w hp => by
  unfold Own at w
  exact q B' F' x g w.1
theorem gr_freeze {B F B' F' : Hp} {P : Fp} (g : Gr B F B' F') (hp : ∀ a, P a → F a = none ∧ B' a = none) : Gr B F (gl P F' B') F' :=
  ⟨g.b.trans (gl_base fun a ha => (hp a ha).2), gl_full g.f, g.s, fun a h1 h2 => by
    by_cases z : P a
    · exact (hp a z).1
    · rw [gl_out z] at h1; exact g.n a h1 h2⟩
theorem EvX.e (h : EvX K te env o) : EvE K te env (frz o) := fun B F σ hs vs Q q => h B F σ hs vs Q fun B' F' x P g w hp =>
  q _ F' x (gr_freeze g hp) (w.rep (gl_base fun a ha => (hp a ha).2) (fun a ha => gl_in ha))
theorem EvX.is {o' : O} (h : EvX K te env o) (e : o = o') : EvX K te env o' := e ▸ h
theorem exs_nil : EvXs K tNil env [] := fun B F σ hs vs Q q => q B F [] (fun _ => False) (Gr.refl hs) (by unfold Owns; exact ⟨rfl, fun _ h => h⟩) (fun _ h => h.elim)
theorem exs_cons {tr : TA} (h : EvX K ta env o) (t : EvXs K tr env os) : EvXs K (tCons ta tr) env (o :: os) := fun B F σ hs vs Q q =>
  h B F σ hs vs _ fun B1 F1 x P1 g1 w1 p1 => t B1 F1 σ g1.f (vs.grow g1) _ fun B2 F2 xs P2 g2 w2 p2 => q B2 F2 (x :: xs) (fun a => P1 a ∨ P2 a) (g1.trans g2)
    (by
      unfold Owns
      exact ⟨x, xs, P1, P2, rfl, w1.mono g2.b (fun a ha => same_at g2.s (w1.has a ha)), w2, fun a h1 h2 => w1.has a h1 (p2 a h2).1, fun a => Iff.rfl⟩)
    (fun a ha => by
      rcases ha with ha | ha
      · exact ⟨(p1 a ha).1, g2.out (p1 a ha).2 (w1.has a ha)⟩
      · exact ⟨g1.s.free (p2 a ha).1, (p2 a ha).2⟩)
theorem exs_a {ts : TA} {ds : List D} (h : EvA K ts env ds) : EvXs K ts env (ds.map .fr) := fun B F σ hs vs Q q => h B F σ hs vs _ fun B1 F1 xs g r => q B1 F1 xs _ g (owns_fr r) (fun _ h => h.elim)
theorem own_new {B F : Hp} {k : Ob} {p : Addr} {u : HO} {vs : List V} {P : Fp} (hF : F p = none) (hu : ObIs k vs u) (w : Owns K B F os vs P) : Own K B (upd F p u) (.ow k os) (.ref p) (fun a => a = p ∨ P a) := by
  have np : ¬ P p := fun h => w.has p h hF
  unfold Own
  exact ⟨p, u, vs, P, rfl, upd_same, hu, w.mono (Same.refl B) (fun a ha => upd_ne (fun e => np (e ▸ ha))), np, fun a => Iff.rfl⟩
theorem gr_new {B F B1 F1 : Hp} {p : Addr} {u : HO} (g : Gr B F B1 F1) (hp : F1 p = none) : Gr B F B1 (upd F1 p u) := ⟨g.b, same_out g.f (g.f.free hp), g.s.trans (same_new hp), g.n⟩
theorem fp_new {B F B1 F1 : Hp} {p : Addr} {P : Fp} (g : Gr B F B1 F1) (hp : F1 p = none) (h : ∀ a, P a → F a = none ∧ B1 a = none) : ∀ a, (a = p ∨ P a) → F a = none ∧ B1 a = none := fun a ha => by
  rcases ha with rfl | ha
  · exact ⟨g.s.free hp, g.f.free hp⟩
  · exact h a ha
theorem ex_lst {t : TA} (h : EvXs K t env os) (hz : os.length ≤ 100000) : EvX K (tLst t) env (.ow .lst os) := fun B F σ hs vs Q q => h B F σ hs vs _ fun B1 F1 xs P g w hp =>
  ⟨by rw [w.len]; exact Nat.le_of_lt (smallZ hz), fun p np => q B1 _ _ _ (gr_new g np) (own_new (k := .lst) np rfl w) (fp_new g np hp)⟩
theorem ex_tup {t : TA} (h : EvXs K t env os) (hz : os.length ≤ 100000) : EvX K (tTup t) env (.ow .tup os) := fun B F σ hs vs Q q => h B F σ hs vs _ fun B1 F1 xs P g w hp =>
  ⟨by rw [w.len]; exact Nat.le_of_lt (smallZ hz), fun p np => q B1 _ _ _ (gr_new g np) (own_new (k := .tup) np rfl w) (fp_new g np hp)⟩
/-- a new list of what is known -/
abbrev EvN (K : PySem.W.Frag) (te : TE) (env : List Slot) (ds : List D) : Prop := EvX K te env (.ow .lst (ds.map .fr))
theorem EvN.ee {ds : List D} (h : EvN K te env ds) : EvE K te env (.lst ds) := by
  have := EvX.e h
  unfold frz at this
  rw [frzs_map, List.map_map] at this
  have e : List.map (frz ∘ O.fr) ds = ds := by
    conv => rhs; rw [← List.map_id ds]
    apply List.map_congr_left
    intro a _
    simp [frz]
  rw [e] at this
  exact this
theorem en_lst {t : TA} {ds : List D} (h : EvA K t env ds) (hz : ds.length ≤ 100000) : EvN K (tLst t) env ds := ex_lst (exs_a h) (by simpa using hz)
theorem en_new {B F B1 F1 : Hp} {p : Addr} {vs : List V} {ds : List D} {Q : VK} (g : Gr B F B1 F1) (hp : F1 p = none) (r : Reps K B1 ds vs)
    (q : ∀ B' F' x P, Gr B F B' F' → Own K B' F' (.ow .lst (ds.map .fr)) x P → (∀ a, P a → F a = none ∧ B' a = none) → Q x F') : Q (.ref p) (upd F1 p (.lst vs)) :=
  q B1 _ _ _ (gr_new g hp) (own_new (k := .lst) hp rfl (owns_fr r)) (fp_new g hp fun _ h => h.elim)
theorem en_listL {ds : List D} (h : EvE K te env (.lst ds)) : EvN K (tCB (rListOf K) (tCons te tNil)) env ds := fun B F σ hs vs Q q => (ea_cons h ea_nil) B F σ hs vs _ fun B1 F1 xs g r => by
  obtain ⟨x, rfl, r1⟩ := reps1 r
  unfold Rep at r1
  obtain ⟨a, vs, rfl, h1, h2⟩ := r1
  exact ⟨a, vs, rfl, .inl (g.f.seq h1), fun p hp => en_new g hp h2 q⟩
theorem en_listT {ds : List D} (h : EvE K te env (.tup ds)) : EvN K (tCB (rListOf K) (tCons te tNil)) env ds := fun B F σ hs vs Q q => (ea_cons h ea_nil) B F σ hs vs _ fun B1 F1 xs g r => by
  obtain ⟨x, rfl, r1⟩ := reps1 r
  unfold Rep at r1
  obtain ⟨a, vs, rfl, h1, h2⟩ := r1
  exact ⟨a, vs, rfl, .inr (sqt_mono g.f h1), fun p hp => en_new g hp h2 q⟩
theorem en_slL {tl th : TO} {ds : List D} {lo hi : Option Int} (h : EvE K te env (.lst ds)) (h1 : EvO K tl env lo) (h2 : EvO K th env hi) : EvN K (tSl (rSlL K) te tl th) env (cutD ds lo hi) := fun B F σ hs vs Q q =>
  h B F σ hs vs _ fun B1 F1 x g1 r1 => h1 B1 F1 σ g1.f (vs.grow g1) _ fun B2 F2 g2 => h2 B2 F2 σ g2.f (vs.grow (g1.trans g2)) _ fun B3 F3 g3 => by
    have r3 := r1.mono (g2.trans g3).b
    have g := (g1.trans g2).trans g3
    unfold Rep at r3
    obtain ⟨a, ws, rfl, e1, e2⟩ := r3
    exact ⟨a, ws, rfl, g3.f.seq e1, fun p hp => en_new g hp (cut_reps e2 lo hi) q⟩
/-! list comprehensions over anything walked -/
def picked {α : Type} (f : Nat → Bool) (v : Nat → α) : Nat → List α
  | 0 => []
  | n + 1 => picked f v n ++ (if f n = true then [v n] else [])
theorem picked_len {α : Type} (f : Nat → Bool) (v : Nat → α) : ∀ n, (picked f v n).length ≤ n
  | 0 => Nat.le_refl _
  | n + 1 => by
    unfold picked
    have := picked_len f v n
    rw [List.length_append]
    split <;> simp <;> omega
theorem Owns.snoc {B F : Hp} {o : O} {x : V} {P2 : Fp} : ∀ {os : List O} {vs : List V} {P1 : Fp}, Owns K B F os vs P1 → Own K B F o x P2 → (∀ a, P1 a → P2 a → False) → Owns K B F (os ++ [o]) (vs ++ [x]) (fun a => P1 a ∨ P2 a)
  | [], vs, P1, h, w, hd => by
    unfold Owns at h
    rw [h.1]
    show Owns K B F [o] [x] _
    unfold Owns
    refine ⟨x, [], P2, fun _ => False, rfl, w, by unfold Owns; exact ⟨rfl, fun _ h => h⟩, fun _ _ h => h, fun a => ?_⟩
    have := h.2 a
    simp [this]
  | o1 :: os, vs, P1, h, w, hd => by
    unfold Owns at h
    obtain ⟨y, ws, Q1, Q2, rfl, h2, h3, h4, h5⟩ := h
    show Owns K B F (o1 :: (os ++ [o])) (y :: (ws ++ [x])) _
    unfold Owns
    refine ⟨y, ws ++ [x], Q1, _, rfl, h2, Owns.snoc h3 w (fun a h1 h2 => hd a ((h5 a).2 (.inr h1)) h2), fun a h1 h2 => ?_, fun a => ?_⟩
    · rcases h2 with h2 | h2
      · exact h4 a h1 h2
      · exact hd a ((h5 a).2 (.inl h1)) h2
    · show (P1 a ∨ P2 a) ↔ _
      rw [h5 a]; exact or_assoc
theorem ex_lcI {wi : TI} {g : TG} {tt : TT} {vs : List Nat} {ds : List D} (us : Nat → List (Nat × D)) (f : Nat → Bool) (v : Nat → O) (hi : EvI K wi env ds) (hz : ds.length ≤ 100000)
    (hg : ∀ i d, ds[i]? = some d → EvG K g d (us i)) (hj : ∀ i, i < ds.length → ∀ j ∈ (us i).map (·.1), j ∈ vs)
    (ht : ∀ i, i < ds.length → EvT K tt (sets (wipeE env vs) (us i)) (f i)) (he : ∀ i, i < ds.length → f i = true → EvX K te (sets (wipeE env vs) (us i)) (v i)) : EvX K (tLc wi g tt te vs) env (.ow .lst (picked f v ds.length)) := fun B F σ hs vS Q q =>
  hi B F σ hs vS _ fun B1 F1 J g1 w L hL => by
    obtain ⟨G, Y, wk, hG, hY⟩ := w.w
    have bL := g1.f.free hL
    have vW : ∀ B' F', Gr B F B' F' → Vs K B' F' (wipe σ vs) (wipeE env vs) := fun B' F' g => (vS.grow g).wiped
    refine lc_it wk (fun i F' => ∃ B' ws P, Gr B1 F1 B' F' ∧ B' L = none ∧ F' L = some (.lst ws) ∧ Owns K B' F' (picked f v i) ws P ∧ (∀ a, P a → F1 a = none ∧ B' a = none) ∧ ¬ P L) ?_ ?_ ?_ ?_
    · exact ⟨B1, [], fun _ => False, ⟨Same.refl _, same_out g1.f bL, same_new hL, fun a h1 h2 => absurd h2 h1⟩, bL, upd_same, by unfold picked Owns; exact ⟨rfl, fun _ h => h⟩, fun _ h => h.elim, fun h => h⟩
    · rintro i F' _ ⟨B', ws, P, g2, _⟩
      exact hG F' (g2.b.trans g2.f)
    · rintro i x F2 F3 hi ⟨B2, ws, P, g2, b2, e2, r2, p2, n2⟩ hy
      obtain ⟨B3, d, g3, ed, rx⟩ := hY i B2 F2 x F3 g2.b g2.f hy
      refine hg i d ed B3 F3 _ x g3.f rx _ fun xs rxs => ?_
      refine ⟨(wipe_setsV (hj i hi)).trans wipe_wipe, ?_⟩
      have vs3 := (vW B3 F3 ((g1.trans g2).trans g3)).sets (σ := σ) rxs
      refine ht i hi B3 F3 _ g3.f vs3 _ fun B4 F4 g4 => ?_
      have g24 := g3.trans g4
      cases hf : f i with
      | true =>
        show te _ F4 _
        refine he i hi hf B4 F4 _ g4.f (vs3.grow g4) _ fun B5 F5 y P5 g5 r5 p5 => ?_
        have g25 := g24.trans g5
        have nL : F4 L ≠ none := by rw [g24.s _ _ e2]; simp
        have nP5 : ¬ P5 L := fun h => nL (p5 L h).1
        refine ⟨ws, g25.s _ _ e2, ?_, B5, ws ++ [y], fun a => P a ∨ P5 a, ⟨(g2.trans g25).b, same_out g5.f (g25.out b2 (by rw [e2]; simp)), same_out ((g2.trans g25).s) hL, (g2.trans g25).n⟩, g25.out b2 (by rw [e2]; simp), upd_same, ?_, ?_, ?_⟩
        · rw [r2.len]
          exact Nat.lt_of_le_of_lt (Nat.le_trans (picked_len f v i) (Nat.le_of_lt hi)) (smallZ hz)
        · unfold picked
          simp only [hf, if_pos]
          have w2 : Owns K B5 (upd F5 L (.lst (ws ++ [y]))) (picked f v i) ws P := r2.mono g25.b fun a ha => by
            have na : a ≠ L := fun e => n2 (by rw [← e]; exact ha)
            rw [upd_ne na, same_at g25.s (r2.has a ha)]
          have w5 : Own K B5 (upd F5 L (.lst (ws ++ [y]))) (v i) y P5 := r5.mono (Same.refl _) fun a ha => upd_ne (fun e => nP5 (by rw [← e]; exact ha))
          exact w2.snoc w5 fun a h1 h2 => by
            have := (p5 a h2).1
            exact r2.has a h1 (g24.s.free this)
        · rintro a (ha | ha)
          · exact ⟨(p2 a ha).1, g25.out (p2 a ha).2 (r2.has a ha)⟩
          · exact ⟨(g2.trans g24).s.free (p5 a ha).1, (p5 a ha).2⟩
        · rintro (h | h)
          · exact n2 h
          · exact nP5 h
      | false =>
        show ∃ B' ws, _
        refine ⟨B4, ws, P, g2.trans g24, g24.out b2 (by rw [e2]; simp), g24.s _ _ e2, ?_, fun a ha => ⟨(p2 a ha).1, g24.out (p2 a ha).2 (r2.has a ha)⟩, n2⟩
        unfold picked
        simp only [hf]
        simpa using r2.mono g24.b fun a ha => same_at g24.s (r2.has a ha)
    · rintro F2 ⟨B2, ws, P, g2, b2, e2, r2, p2, n2⟩
      refine q B2 F2 (.ref L) (fun a => a = L ∨ P a) (g1.trans g2) ?_ fun a ha => ?_
      · unfold Own
        exact ⟨L, _, ws, P, rfl, e2, rfl, r2, n2, fun _ => Iff.rfl⟩
      · rcases ha with rfl | ha
        · exact ⟨g1.s.free hL, b2⟩
        · exact ⟨g1.s.free (p2 a ha).1, (p2 a ha).2⟩
theorem et_yes : EvT K tYes env true := fun B F σ hs vs Q q => q B F (Gr.refl hs)
theorem picked_take {α β : Type} (xs : List α) (f : α → Bool) (w : α → β) (z : β) : ∀ n, n ≤ xs.length → picked (fun i => (xs[i]?.map f).getD false) (fun i => (xs[i]?.map w).getD z) n = ((xs.take n).filter f).map w
  | 0, _ => by simp [picked]
  | n + 1, hn => by
    have hl : n < xs.length := by omega
    unfold picked
    rw [picked_take xs f w z n (by omega), List.take_add_one, List.filter_append, List.map_append, List.getElem?_eq_getElem hl]
    congr 1
    show (if f xs[n] = true then [w xs[n]] else []) = List.map w (List.filter f [xs[n]])
    by_cases h : f xs[n] = true <;> simp [h]
/-- the typed form -/
theorem ex_lcF {α : Type} {wi : TI} {g : TG} {tt : TT} {vs : List Nat} {rep : α → D} {xs : List α} (us : α → List (Nat × D)) (f : α → Bool) (w : α → O) (hi : EvI K wi env (xs.map rep)) (hz : xs.length ≤ 100000)
    (hg : ∀ x ∈ xs, EvG K g (rep x) (us x)) (hj : ∀ x ∈ xs, ∀ j ∈ (us x).map (·.1), j ∈ vs)
    (ht : ∀ x ∈ xs, EvT K tt (sets (wipeE env vs) (us x)) (f x)) (he : ∀ x ∈ xs, f x = true → EvX K te (sets (wipeE env vs) (us x)) (w x)) : EvX K (tLc wi g tt te vs) env (.ow .lst ((xs.filter f).map w)) := by
  have key := ex_lcI (K := K) (te := te) (tt := tt) (g := g) (vs := vs) (fun i => (xs[i]?.map us).getD []) (fun i => (xs[i]?.map f).getD false) (fun i => (xs[i]?.map w).getD (.fr .non)) hi (by simpa using hz)
    (fun i d h => by
      rw [List.getElem?_map] at h
      cases e : xs[i]? with
      | none => rw [e] at h; cases h
      | some x => rw [e] at h; cases h; exact hg x (List.mem_of_getElem? e))
    (fun i h => by
      have h : i < xs.length := by simpa using h
      simp only [List.getElem?_eq_getElem h]
      exact hj _ (List.getElem_mem h))
    (fun i h => by
      have h : i < xs.length := by simpa using h
      simp only [List.getElem?_eq_getElem h]
      exact ht _ (List.getElem_mem h))
    (fun i h hf => by
      have h : i < xs.length := by simpa using h
      simp only [List.getElem?_eq_getElem h] at hf ⊢
      exact he _ (List.getElem_mem h) hf)
  rw [List.length_map, picked_take xs f w _ xs.length (Nat.le_refl _), List.take_length] at key
  exact key
end
end Y

/-! Y3: what is one's own, read in passing and changed in place. -/
namespace Y
open PySem PySem.Spec PyProof.Rows L2
/-! ### places in a tree -/
def kids : HO → List V
  | .lst vs => vs
  | .tup vs => vs
  | .dK kvs => kvs.map (·.2)
  | .dT kvs => kvs.map (·.2)
  | .ins _ _ fs => fs.map (·.2)
  | _ => []
theorem zip_snd {α β : Type} : ∀ {ks : List α} {vs : List β}, ks.length = vs.length → (ks.zip vs).map (·.2) = vs
  | [], [], _ => rfl
  | k :: ks, v :: vs, h => by simp [zip_snd (ks := ks) (vs := vs) (by simpa using h)]
  | [], _ :: _, h => by simp at h
  | _ :: _, [], h => by simp at h
theorem kids_is {k : Ob} {vs : List V} {u : HO} (h : ObIs k vs u) : kids u = vs := by
  cases k with
  | lst => cases h; rfl
  | tup => cases h; rfl
  | dic ks => obtain ⟨l, rfl⟩ := h; exact zip_snd l
  | dit ks => obtain ⟨l, rfl⟩ := h; exact zip_snd l
  | ins C ns => obtain ⟨l, dx, rfl⟩ := h; exact zip_snd l
def Reach (F : Hp) : V → List Nat → V → Prop
  | x, [], y => x = y
  | x, j :: js, y => ∃ p u z, x = .ref p ∧ F p = some u ∧ (kids u)[j]? = some z ∧ Reach F z js y
theorem Reach.mono {F F' : Hp} (s : Same F F') : ∀ {js : List Nat} {x y : V}, Reach F x js y → Reach F' x js y
  | [], x, y, h => h
  | j :: js, x, y, ⟨p, u, z, h1, h2, h3, h4⟩ => ⟨p, u, z, h1, s _ _ h2, h3, Reach.mono s h4⟩
theorem Reach.snoc {F : Hp} {p : Addr} {u : HO} {j : Nat} {z : V} : ∀ {js : List Nat} {x : V}, Reach F x js (.ref p) → F p = some u → (kids u)[j]? = some z → Reach F x (js ++ [j]) z
  | [], x, h, h2, h3 => ⟨p, u, z, h, h2, h3, rfl⟩
  | i :: js, x, ⟨p', u', z', h1, h2', h3', h4⟩, h2, h3 => ⟨p', u', z', h1, h2', h3', Reach.snoc h4 h2 h3⟩
def nodeAt : O → List Nat → Option O
  | o, [] => some o
  | .fr _, _ :: _ => none
  | .ow _ xs, j :: js => match xs[j]? with
    | none => none
    | some o => nodeAt o js
def setAt : O → List Nat → O → O
  | _, [], o' => o'
  | .fr d, _ :: _, _ => .fr d
  | .ow k xs, j :: js, o' => match xs[j]? with
    | none => .ow k xs
    | some o => .ow k (xs.set j (setAt o js o'))
section
variable {K : PySem.W.Frag} {B F : Hp}
theorem owns_at : ∀ {os : List O} {vs : List V} {P : Fp} {j : Nat} {o : O}, Owns K B F os vs P → os[j]? = some o → ∃ x Pj, vs[j]? = some x ∧ Own K B F o x Pj ∧ (∀ a, Pj a → P a) ∧
    ∀ (B' F' : Hp) (o' : O) (P' : Fp), Same B B' → (∀ a, P a → ¬ Pj a → F' a = F a) → Own K B' F' o' x P' → (∀ a, P' a → Pj a ∨ ¬ P a) → ∃ PP, Owns K B' F' (os.set j o') vs PP ∧ ∀ a, PP a → P a ∨ P' a
  | [], vs, P, j, o, h, e => by simp at e
  | o1 :: os, vs, P, 0, o, h, e => by
    unfold Owns at h
    obtain ⟨x, ws, P1, P2, rfl, h2, h3, h4, h5⟩ := h
    simp at e; subst e
    refine ⟨x, P1, rfl, h2, fun a ha => (h5 a).2 (.inl ha), fun B' F' o' P' sb hf w hp => ⟨fun a => P' a ∨ P2 a, ?_, fun a ha => ?_⟩⟩
    · show Owns K B' F' (o' :: os) (x :: ws) _
      unfold Owns
      refine ⟨x, ws, P', P2, rfl, w, h3.mono sb fun a ha => hf a ((h5 a).2 (.inr ha)) (fun z => h4 a z ha), fun a q1 q2 => ?_, fun _ => Iff.rfl⟩
      rcases hp a q1 with z | z
      · exact h4 a z q2
      · exact z ((h5 a).2 (.inr q2))
    · rcases ha with ha | ha
      · exact .inr ha
      · exact .inl ((h5 a).2 (.inr ha))
  | o1 :: os, vs, P, j + 1, o, h, e => by
    unfold Owns at h
    obtain ⟨x, ws, P1, P2, rfl, h2, h3, h4, h5⟩ := h
    simp at e
    obtain ⟨y, Pj, a1, a2, a3, a4⟩ := owns_at h3 e
    refine ⟨y, Pj, by simpa using a1, a2, fun a ha => (h5 a).2 (.inr (a3 a ha)), fun B' F' o' P' sb hf w hp => ?_⟩
    obtain ⟨PP, b1, b2⟩ := a4 B' F' o' P' sb (fun a ha hn => hf a ((h5 a).2 (.inr ha)) hn) w (fun a ha => (hp a ha).imp id fun z q => z ((h5 a).2 (.inr q)))
    refine ⟨fun a => P1 a ∨ PP a, ?_, fun a ha => ?_⟩
    · show Owns K B' F' (o1 :: os.set j o') (x :: ws) _
      unfold Owns
      refine ⟨x, ws, P1, PP, rfl, h2.mono sb fun a ha => hf a ((h5 a).2 (.inl ha)) (fun z => h4 a ha (a3 a z)), b1, fun a q1 q2 => ?_, fun _ => Iff.rfl⟩
      rcases b2 a q2 with z | z
      · exact h4 a q1 z
      · rcases hp a z with z | z
        · exact h4 a q1 (a3 a z)
        · exact z ((h5 a).2 (.inl q1))
    · rcases ha with ha | ha
      · exact .inl ((h5 a).2 (.inl ha))
      · exact (b2 a ha).imp (fun z => (h5 a).2 (.inr z)) id
theorem own_upd : ∀ {js : List Nat} {o : O} {x : V} {P : Fp}, Own K B F o x P → ∀ {k : Ob} {xs : List O}, nodeAt o js = some (.ow k xs) → ∀ {y : V}, Reach F x js y →
    ∃ p u vs Po, y = .ref p ∧ F p = some u ∧ ObIs k vs u ∧ Owns K B F xs vs Po ∧ P p ∧ ¬ Po p ∧ (∀ a, Po a → P a) ∧
      ∀ (B' F' : Hp) (k' : Ob) (xs' : List O) (u' : HO) (vs' : List V) (Pn : Fp), Same B B' → (∀ a, P a → a ≠ p → ¬ Po a → F' a = F a) → F' p = some u' → ObIs k' vs' u' → Owns K B' F' xs' vs' Pn → ¬ Pn p →
        (∀ a, Pn a → Po a ∨ ¬ P a) → ∃ P', Own K B' F' (setAt o js (.ow k' xs')) x P' ∧ ∀ a, P' a → P a ∨ Pn a
  | [], o, x, P, h, k, xs, e, y, r => by
    simp [nodeAt] at e; subst e
    have r : x = y := r
    subst r
    unfold Own at h
    obtain ⟨p, u, vs, P', rfl, h2, h3, h4, h5, h6⟩ := h
    refine ⟨p, u, vs, P', rfl, h2, h3, h4, (h6 p).2 (.inl rfl), h5, fun a ha => (h6 a).2 (.inr ha), fun B' F' k' xs' u' vs' Pn sb hf hp hu w nP hn => ⟨fun a => a = p ∨ Pn a, ?_, fun a ha => ?_⟩⟩
    · unfold setAt Own
      exact ⟨p, u', vs', Pn, rfl, hp, hu, w, nP, fun _ => Iff.rfl⟩
    · rcases ha with rfl | ha
      · exact .inl ((h6 a).2 (.inl rfl))
      · exact .inr ha
  | j :: js, .fr d, x, P, h, k, xs, e, y, r => by simp [nodeAt] at e
  | j :: js, .ow k0 xs0, x, P, h, k, xs, e, y, r => by
    unfold nodeAt at e
    cases ej : xs0[j]? with
    | none => rw [ej] at e; cases e
    | some oj =>
      rw [ej] at e
      unfold Own at h
      obtain ⟨p0, u0, vs0, P0, rfl, h2, h3, h4, h5, h6⟩ := h
      obtain ⟨p1, u1, z, r1, r2, r3, r4⟩ := r
      cases r1
      rw [h2] at r2; cases r2
      rw [kids_is h3] at r3
      obtain ⟨z', Pj, a1, a2, a3, a4⟩ := owns_at h4 ej
      rw [r3] at a1; cases a1
      obtain ⟨p, u, vs, Po, b1, b2, b3, b4, b5, b6, b7, b8⟩ := own_upd a2 e r4
      have pP0 : P0 p := a3 p b5
      have ne0 : p0 ≠ p := fun z => h5 (z ▸ pP0)
      refine ⟨p, u, vs, Po, b1, b2, b3, b4, (h6 p).2 (.inr pP0), b6, fun a ha => (h6 a).2 (.inr (a3 a (b7 a ha))), fun B' F' k' xs' u' vs' Pn sb hf hp hu w nP hn => ?_⟩
      obtain ⟨P', c1, c2⟩ := b8 B' F' k' xs' u' vs' Pn sb (fun a ha q1 q2 => hf a ((h6 a).2 (.inr (a3 a ha))) q1 q2) hp hu w nP (fun a ha => (hn a ha).imp id fun z q => z ((h6 a).2 (.inr (a3 a q))))
      obtain ⟨PP, d1, d2⟩ := a4 B' F' (setAt oj js (.ow k' xs')) P' sb (fun a ha q => hf a ((h6 a).2 (.inr ha)) (fun z => q (z ▸ b5)) (fun z => q (b7 a z))) c1 (fun a ha => by
        rcases c2 a ha with z | z
        · exact .inl z
        · rcases hn a z with z | z
          · exact .inl (b7 a z)
          · exact .inr fun q => z ((h6 a).2 (.inr q)))
      have all : ∀ a, PP a → P0 a ∨ Pn a := fun a ha => by
        rcases d2 a ha with z | z
        · exact .inl z
        · exact (c2 a z).imp (a3 a) id
      refine ⟨fun a => a = p0 ∨ PP a, ?_, fun a ha => ?_⟩
      · unfold setAt
        rw [ej]
        show Own K B' F' (.ow k0 (xs0.set j _)) _ _
        unfold Own
        refine ⟨p0, u0, vs0, PP, rfl, ?_, h3, d1, fun z => ?_, fun _ => Iff.rfl⟩
        · rw [hf p0 ((h6 p0).2 (.inl rfl)) ne0 (fun z => h5 (a3 _ (b7 _ z)))]; exact h2
        · rcases all p0 z with q | q
          · exact h5 q
          · rcases hn p0 q with q | q
            · exact h5 (a3 _ (b7 _ q))
            · exact q ((h6 p0).2 (.inl rfl))
      · rcases ha with rfl | ha
        · exact .inl ((h6 a).2 (.inl rfl))
        · exact (all a ha).imp (fun z => (h6 a).2 (.inr z)) id
end
/-! ### passing looks -/
mutual
/-- no lists, dicts, instances: scalars and tuples -/
def Ind : D → Prop
  | .lst _ => False | .ins _ _ _ => False | .dic _ _ => False | .dit _ _ => False | .tt _ => False | .xc _ _ _ _ => False | .dicz _ _ => False | .ditz _ _ => False
  | .tup xs => Inds xs
  | _ => True
def Inds : List D → Prop
  | [] => True
  | d :: ds => Ind d ∧ Inds ds
end
mutual
def IndO : O → Prop
  | .fr d => Ind d
  | .ow _ xs => IndOs xs
def IndOs : List O → Prop
  | [] => True
  | o :: os => IndO o ∧ IndOs os
end
theorem indOs_map {α : Type} {e : α → O} (h : ∀ a, IndO (e a)) : ∀ xs : List α, IndOs (xs.map e)
  | [] => trivial
  | x :: xs => ⟨h x, indOs_map h xs⟩
mutual
/-- no tuples among what is one's own -/
def NoTup : O → Prop
  | .fr _ => True
  | .ow k xs => k ≠ .tup ∧ NoTups xs
def NoTups : List O → Prop
  | [] => True
  | o :: os => NoTup o ∧ NoTups os
end
theorem noTups_map {α : Type} {e : α → O} (h : ∀ a, NoTup (e a)) : ∀ xs : List α, NoTups (xs.map e)
  | [] => trivial
  | x :: xs => ⟨h x, noTups_map h xs⟩
def nt (u : HO) : Prop := (∀ vs, u ≠ .tup vs) ∧ ∀ o vs, u ≠ .frz o (.tup vs)
theorem nt_is {k : Ob} {vs : List V} {u : HO} (hk : k ≠ .tup) (h : ObIs k vs u) : nt u := by
  cases k with
  | lst => cases h; exact ⟨fun _ z => (by cases z), fun _ _ z => (by cases z)⟩
  | tup => exact absurd rfl hk
  | dic ks => obtain ⟨l, rfl⟩ := h; exact ⟨fun _ z => (by cases z), fun _ _ z => (by cases z)⟩
  | dit ks => obtain ⟨l, rfl⟩ := h; exact ⟨fun _ z => (by cases z), fun _ _ z => (by cases z)⟩
  | ins C ns => obtain ⟨l, dx, rfl⟩ := h; exact ⟨fun _ z => (by cases z), fun _ _ z => (by cases z)⟩
section
variable {K : PySem.W.Frag} {B F B' F' : Hp}
mutual
theorem Own.noTup : ∀ {o : O} {x : V} {P : Fp}, Own K B F o x P → NoTup o → ∀ a, P a → ∃ u, F a = some u ∧ nt u
  | .fr d, x, P, h, n, a, ha => by unfold Own at h; exact absurd ha (h.2 a)
  | .ow k xs, x, P, h, n, a, ha => by
    unfold Own at h
    unfold NoTup at n
    obtain ⟨p, u, vs, P', h1, h2, h3, h4, h5, h6⟩ := h
    rcases (h6 a).1 ha with rfl | ha
    · exact ⟨u, h2, nt_is n.1 h3⟩
    · exact Owns.noTup h4 n.2 a ha
theorem Owns.noTup : ∀ {os : List O} {vs : List V} {P : Fp}, Owns K B F os vs P → NoTups os → ∀ a, P a → ∃ u, F a = some u ∧ nt u
  | [], vs, P, h, n, a, ha => by unfold Owns at h; exact absurd ha (h.2 a)
  | o :: os, vs, P, h, n, a, ha => by
    unfold Owns at h
    unfold NoTups at n
    obtain ⟨x, ws, P1, P2, h1, h2, h3, h4, h5⟩ := h
    rcases (h5 a).1 ha with ha | ha
    · exact Own.noTup h2 n.1 a ha
    · exact Owns.noTup h3 n.2 a ha
end
theorem sqt_less {a : Addr} {xs : List V} (k : ∀ u, B a = some u → ¬ nt u → B' a = some u) (h : SqT K B a xs) : SqT K B' a xs := by
  rcases h with (h | ⟨o, h⟩) | h
  · exact .inl (.inl (k _ h fun n => n.1 xs rfl))
  · exact .inl (.inr ⟨o, k _ h fun n => n.2 o xs rfl⟩)
  · exact .inr h
mutual
theorem Rep.less (k : ∀ a u, B a = some u → ¬ nt u → B' a = some u) : ∀ {d : D} {x : V}, Ind d → Rep K B d x → Rep K B' d x
  | .non, _, _, h => by simpa [Rep] using h
  | .bl _, _, _, h => by simpa [Rep] using h
  | .int _, _, _, h => by simpa [Rep] using h
  | .str _, _, _, h => by simpa [Rep] using h
  | .v _, _, _, h => by simpa [Rep] using h
  | .lst ds, _, i, h => by unfold Ind at i; exact i.elim
  | .ins _ _ ds, _, i, h => by unfold Ind at i; exact i.elim
  | .dic _ ds, _, i, h => by unfold Ind at i; exact i.elim
  | .dit _ ds, _, i, h => by unfold Ind at i; exact i.elim
  | .xc _ _ _ _, _, i, h => by unfold Ind at i; exact i.elim
  | .dicz _ _, _, i, h => by unfold Ind at i; exact i.elim
  | .ditz _ _, _, i, h => by unfold Ind at i; exact i.elim
  | .tt _, _, i, h => by unfold Ind at i; exact i.elim
  | .tup ds, _, i, h => by
    unfold Ind at i
    unfold Rep at h ⊢
    obtain ⟨a, vs, h1, h2, h3⟩ := h
    exact ⟨a, vs, h1, sqt_less (k a) h2, Reps.less k i h3⟩
theorem Reps.less (k : ∀ a u, B a = some u → ¬ nt u → B' a = some u) : ∀ {ds : List D} {vs : List V}, Inds ds → Reps K B ds vs → Reps K B' ds vs
  | [], _, _, h => by simpa [Reps] using h
  | d :: ds, _, i, h => by
    unfold Inds at i
    unfold Reps at h ⊢
    obtain ⟨x, ws, h1, h2, h3⟩ := h
    exact ⟨x, ws, h1, Rep.less k i.1 h2, Reps.less k i.2 h3⟩
end
mutual
theorem Own.less (k : ∀ a u, B a = some u → ¬ nt u → B' a = some u) : ∀ {o : O} {x : V} {P : Fp}, IndO o → Own K B F o x P → Own K B' F o x P
  | .fr d, x, P, i, h => by
    unfold IndO at i
    unfold Own at h ⊢
    exact ⟨h.1.less k i, h.2⟩
  | .ow _ xs, x, P, i, h => by
    unfold IndO at i
    unfold Own at h ⊢
    obtain ⟨p, u, vs, P', h1, h2, h3, h4, h5, h6⟩ := h
    exact ⟨p, u, vs, P', h1, h2, h3, Owns.less k i h4, h5, h6⟩
theorem Owns.less (k : ∀ a u, B a = some u → ¬ nt u → B' a = some u) : ∀ {os : List O} {vs : List V} {P : Fp}, IndOs os → Owns K B F os vs P → Owns K B' F os vs P
  | [], vs, P, i, h => by unfold Owns at h ⊢; exact h
  | o :: os, vs, P, i, h => by
    unfold IndOs at i
    unfold Owns at h ⊢
    obtain ⟨x, ws, P1, P2, h1, h2, h3, h4, h5⟩ := h
    exact ⟨x, ws, P1, P2, h1, Own.less k i.1 h2, Owns.less k i.2 h3, h4, h5⟩
end
end
open Classical in
/-- the base less what is one's own -/
noncomputable def less (P : Fp) (B : Hp) : Hp := fun a => if P a then none else B a
theorem less_in {P : Fp} {B : Hp} {a : Addr} (h : P a) : less P B a = none := by unfold less; rw [if_pos h]
theorem less_out {P : Fp} {B : Hp} {a : Addr} (h : ¬ P a) : less P B a = B a := by unfold less; rw [if_neg h]
section
variable {K : PySem.W.Frag} {env : List Slot} {ta tb te tc : TE} {d d1 d2 : D} {o o2 : O} {os : List O}
/-- the state with slot i frozen -/
theorem peek_in {B F : Hp} {σ : L2.St} {Ps : Nat → Fp} {i : Nat} (vs : VsP K B F σ env Ps) (hs : Same B F) (e : env[i]? = some (.own o)) :
    Same (gl (Ps i) F B) F ∧ VsP K (gl (Ps i) F B) F σ (env.set i (.val (frz o))) (fun j => if j = i then (fun _ => False) else Ps j) := by
  obtain ⟨x, h1, h2⟩ := vs.own i o e
  have sb : Same B (gl (Ps i) F B) := gl_base (vs.out i)
  refine ⟨gl_full hs, ?_⟩
  have hi : i < env.length := (List.getElem?_eq_some_iff.mp e).1
  have := vs.put i (.val (frz o)) (some x) (fun _ => False) sb (F' := F) (fun _ _ _ _ => rfl) ⟨⟨x, rfl, h2.rep sb fun a ha => gl_in ha⟩, fun _ h => h⟩ (fun _ _ _ _ h => h)
    (fun j a n ha => by rw [gl_out (fun z => vs.dis j i a n ha z)]; exact vs.out j a ha) (fun _ h => h.elim)
  have e1 : σ.set i (some x) = σ := by
    apply List.ext_getElem?
    intro j
    by_cases z : i = j
    · subst z
      rw [List.getElem?_set_self (by rw [vs.len]; exact hi), h1]
    · rw [List.getElem?_set_ne z]
  rw [e1] at this
  have e2 : (fun j => if j = i then (if i < env.length then (fun _ => False : Fp) else fun _ => False) else Ps j) = (fun j => if j = i then (fun _ => False) else Ps j) := by
    funext j
    by_cases z : j = i
    · subst z; simp [hi]
    · simp [z]
  rw [e2] at this
  exact this
theorem peek_out {B F B' F' : Hp} {P : Fp} (hs : Same B F) (hp : ∀ a, P a → B a = none) (g : Gr (gl P F B) F B' F') : Gr B F (less P B') F' :=
  ⟨fun a u h => by
    have n : ¬ P a := fun z => by rw [hp a z] at h; cases h
    rw [less_out n]
    exact g.b a u (by rw [gl_out n]; exact h), fun a u h => by
    by_cases z : P a
    · rw [less_in z] at h; cases h
    · rw [less_out z] at h; exact g.f a u h, g.s, fun a h1 h2 => by
    by_cases z : P a
    · rw [less_in z] at h1; exact absurd rfl h1
    · rw [less_out z] at h1
      exact g.n a h1 (by rw [gl_out z]; exact h2)⟩
/-- something of one's own in slot i is looked at; what comes out does not hold it -/
theorem ex_peek (i : Nat) (e : env[i]? = some (.own o)) (hn : NoTup o) (h : EvX K te (env.set i (.val (frz o))) o2) (hi : IndO o2) : EvX K te env o2 := fun B F σ hs ⟨Ps, vs⟩ Q q => by
  obtain ⟨sF, vs'⟩ := peek_in vs hs e
  obtain ⟨x, h1, h2⟩ := vs.own i o e
  refine h _ F σ sF ⟨_, vs'⟩ Q fun B' F' y P2 g w2 p2 => ?_
  refine q (less (Ps i) B') F' y P2 (peek_out hs (vs.out i) g) (w2.less (fun a u e1 n => ?_) hi) fun a ha => ⟨(p2 a ha).1, ?_⟩
  · have z : ¬ Ps i a := fun z => by
      obtain ⟨u', e2, n2⟩ := h2.noTup hn a z
      have : B' a = some u' := g.b a u' (by rw [gl_in z]; exact e2)
      rw [e1] at this; cases this
      exact n n2
    rw [less_out z]; exact e1
  · have z : ¬ Ps i a := fun z => h2.has a z (p2 a ha).1
    rw [less_out z]; exact (p2 a ha).2
theorem ee_peek (i : Nat) (e : env[i]? = some (.own o)) (hn : NoTup o) (h : EvE K te (env.set i (.val (frz o))) d) (hi : Ind d) : EvE K te env d := (ex_peek i e hn h.x (by unfold IndO; exact hi)).ef
/-- a scalar comes out -/
def Scal : D → Prop
  | .non => True | .bl _ => True | .int _ => True | .str _ => True | .v _ => True | _ => False
theorem ee_peekS (i : Nat) (e : env[i]? = some (.own o)) (h : EvE K te (env.set i (.val (frz o))) d) (hi : Scal d) : EvE K te env d := fun B F σ hs ⟨Ps, vs⟩ Q q => by
  obtain ⟨sF, vs'⟩ := peek_in vs hs e
  refine h _ F σ sF ⟨_, vs'⟩ Q fun B' F' y g r => ?_
  refine q (less (Ps i) B') F' y (peek_out hs (vs.out i) g) ?_
  cases d <;> first | (unfold Rep at r ⊢; exact r) | exact hi.elim
theorem et_peek (i : Nat) {tt : TT} {b : Bool} (e : env[i]? = some (.own o)) (h : EvT K tt (env.set i (.val (frz o))) b) : EvT K tt env b := fun B F σ hs ⟨Ps, vs⟩ Q q => by
  obtain ⟨sF, vs'⟩ := peek_in vs hs e
  exact h _ F σ sF ⟨_, vs'⟩ Q fun B' F' g => q (less (Ps i) B') F' (peek_out hs (vs.out i) g)
/-! ### the place to change -/
def EvL (K : PySem.W.Frag) (te : TE) (env : List Slot) (i : Nat) (js : List Nat) : Prop := ∀ B F σ, Same B F → Vs K B F σ env → ∀ Q : VK, (∀ B' F' x0 x, Gr B F B' F' → σ[i]? = some (some x0) → Reach F' x0 js x → Q x F') → te σ F Q
theorem el_var {i : Nat} (e : env[i]? = some (.own o)) : EvL K (tVar i) env i [] := fun B F σ hs ⟨Ps, vs⟩ Q q => by
  obtain ⟨x, h1, h2⟩ := vs.own i o e
  exact ⟨x, h1, q B F x x (Gr.refl hs) h1 rfl⟩
theorem el_ix {i : Nat} {js : List Nat} {k : Int} {j : Nat} {xs : List O} (e : env[i]? = some (.own o)) (h : EvL K te env i js) (h2 : EvE K tb env (.int k)) (hn : nodeAt o js = some (.ow .lst xs)) (hk : ixN xs.length k = some j) (hj : j < xs.length) : EvL K (tOp (rIxL K) te tb) env i (js ++ [j]) := fun B F σ hs ⟨Ps, vs⟩ Q q => by
  refine h B F σ hs ⟨Ps, vs⟩ _ fun B1 F1 x0 x g1 e0 r1 => h2 B1 F1 σ g1.f ⟨Ps, vs.grow g1⟩ _ fun B2 F2 y g2 r2 => ?_
  unfold Rep at r2; subst r2
  have vs2 := (vs.grow g1).grow g2
  obtain ⟨x0', a1, a2⟩ := vs2.own i o e
  rw [e0] at a1; cases a1
  obtain ⟨p, u, ws, Po, rfl, b2, b3, b4, _⟩ := own_upd a2 hn (r1.mono g2.s)
  have b3 : u = .lst ws := b3
  subst b3
  have hl := b4.len
  have hj' : j < ws.length := by omega
  refine ⟨p, ws, k, ws[j], rfl, rfl, .inl (.inl b2), ?_, q B2 F2 x0 _ (g1.trans g2) e0 ((r1.mono g2.s).snoc b2 (by show ws[j]? = _; exact List.getElem?_eq_getElem hj'))⟩
  unfold atI
  rw [hl, hk]
  exact List.getElem?_eq_getElem hj'
end
end Y

/-! Y4: statements. -/
namespace Y
open PySem PySem.Spec PyProof.Rows L2
structure State (K : PySem.W.Frag) (H0 H1 B F : Hp) (σ : L2.St) (env : List Slot) : Prop where
  gr : Gr H0 H1 B F
  ex : ∃ Ps, VsP K B F σ env Ps ∧ ∀ i a, Ps i a → H1 a = none
def Nx (K : PySem.W.Frag) (H0 H1 : Hp) (n : L2.St → Hp → Prop) (env : List Slot) : Prop := ∀ B F σ, State K H0 H1 B F σ env → n σ F
def Go (K : PySem.W.Frag) (H0 H1 : Hp) (t : TS) (E : Ends) (env : List Slot) : Prop := Nx K H0 H1 (t E) env
theorem set_same {α : Type} {l : List α} {i : Nat} {a : α} (h : l[i]? = some a) : l.set i a = l := by
  apply List.ext_getElem?
  intro j
  by_cases z : i = j
  · subst z
    rw [List.getElem?_set_self (List.getElem?_eq_some_iff.mp h).1, h]
  · rw [List.getElem?_set_ne z]
section
variable {K : PySem.W.Frag} {H0 H1 : Hp} {env : List Slot} {ta tb te tc : TE} {d d1 d2 : D} {E : Ends} {t u : TS} {o : O} {os : List O}
theorem State.vs {B F : Hp} {σ : L2.St} (h : State K H0 H1 B F σ env) : Vs K B F σ env := let ⟨Ps, h, _⟩ := h.ex; ⟨Ps, h⟩
theorem State.grow {B F B' F' : Hp} {σ : L2.St} (h : State K H0 H1 B F σ env) (g : Gr B F B' F') : State K H0 H1 B' F' σ env :=
  ⟨h.gr.trans g, let ⟨Ps, h1, h2⟩ := h.ex; ⟨Ps, h1.grow g, h2⟩⟩
theorem State.set {B F : Hp} {σ : L2.St} (h : State K H0 H1 B F σ env) {j : Nat} {x : V} (r : Rep K B d x) : State K H0 H1 B F (σ.set j (some x)) (env.set j (.val d)) :=
  ⟨h.gr, let ⟨Ps, h1, h2⟩ := h.ex; ⟨_, h1.set r, fun i a ha => by
    by_cases z : i = j
    · rw [if_pos z] at ha; exact ha.elim
    · rw [if_neg z] at ha; exact h2 i a ha⟩⟩
theorem State.sets : ∀ {us : List (Nat × D)} {env : List Slot} {xs : List V} {B F : Hp} {σ : L2.St}, State K H0 H1 B F σ env → Reps K B (us.map (·.2)) xs → State K H0 H1 B F (setsV σ (us.map (·.1)) xs) (Y.sets env us)
  | [], env, xs, B, F, σ, h, r => by
    simp only [List.map_nil] at r
    unfold Reps at r; subst r
    simpa [setsV, Y.sets] using h
  | (j, d) :: us, env, xs, B, F, σ, h, r => by
    simp only [List.map_cons] at r
    unfold Reps at r
    obtain ⟨x, ws, rfl, h2, h3⟩ := r
    show State K H0 H1 B F (setsV (σ.set j (some x)) (us.map (·.1)) ws) (Y.sets (env.set j (.val d)) us)
    exact State.sets (h.set h2) h3
theorem State.setO {B F B' F' : Hp} {σ : L2.St} (h : State K H0 H1 B F σ env) (g : Gr B F B' F') {j : Nat} {x : V} {P : Fp} (w : Own K B' F' o x P) (hp : ∀ a, P a → F a = none ∧ B' a = none) : State K H0 H1 B' F' (σ.set j (some x)) (env.set j (.own o)) := by
  obtain ⟨Ps, h1, h2⟩ := h.ex
  have h3 := h1.grow g
  refine ⟨h.gr.trans g, _, h3.put j (.own o) (some x) P (Same.refl _) (fun _ _ _ _ => rfl) ⟨x, rfl, w⟩ (fun i a n ha z => (h1.ok i).has a ha (hp a z).1) (fun i a _ ha => h3.out i a ha) (fun a ha => (hp a ha).2), fun i a ha => ?_⟩
  by_cases z : i = j
  · rw [if_pos z] at ha
    split at ha
    · exact h.gr.s.free (hp a ha).1
    · exact ha.elim
  · rw [if_neg z] at ha; exact h2 i a ha
theorem State.freeze {B F : Hp} {σ : L2.St} {i : Nat} (h : State K H0 H1 B F σ env) (e : env[i]? = some (.own o)) : ∃ B', State K H0 H1 B' F σ (env.set i (.val (frz o))) := by
  obtain ⟨Ps, h1, h2⟩ := h.ex
  obtain ⟨sF, vs'⟩ := peek_in h1 h.gr.f e
  refine ⟨_, ⟨h.gr.b.trans (gl_base (h1.out i)), sF, h.gr.s, fun a q1 q2 => ?_⟩, _, vs', fun j a ha => ?_⟩
  · by_cases z : Ps i a
    · exact h2 i a z
    · rw [gl_out z] at q1; exact h.gr.n a q1 q2
  · by_cases z : j = i
    · rw [if_pos z] at ha; exact ha.elim
    · rw [if_neg z] at ha; exact h2 j a ha
/-- env' says less than env -/
def Sub (env env' : List Slot) : Prop := env.length = env'.length ∧ ∀ (i : Nat) (s : Slot), env'[i]? = some s → s = .no ∨ env[i]? = some s
theorem Sub.refl (env : List Slot) : Sub env env := ⟨rfl, fun _ _ h => .inr h⟩
theorem sub_nil : Sub [] [] := Sub.refl []
theorem sub_cons {s : Slot} {a b : List Slot} (h : Sub a b) : Sub (s :: a) (s :: b) := ⟨by simp [h.1], fun i x e => by
  cases i with
  | zero => simp at e; right; simp [e]
  | succ i => simp at e; have := h.2 i x e; simpa using this⟩
theorem sub_no {s : Slot} {a b : List Slot} (h : Sub a b) : Sub (s :: a) (.no :: b) := ⟨by simp [h.1], fun i x e => by
  cases i with
  | zero => simp at e; left; exact e.symm
  | succ i => simp at e; have := h.2 i x e; simpa using this⟩
theorem VsP.sub {B F : Hp} {σ : L2.St} {env' : List Slot} {Ps : Nat → Fp} (h : VsP K B F σ env Ps) (s : Sub env env') : VsP K B F σ env' (fun i a => env'[i]? = env[i]? ∧ Ps i a) := by
  refine ⟨h.len.trans s.1, fun i => ?_, fun i j a n h1 h2 => h.dis i j a n h1.2 h2.2, fun i a h1 => h.out i a h1.2⟩
  have hi := h.ok i
  cases e : env'[i]? with
  | none =>
    have : env[i]? = none := by
      have := List.getElem?_eq_none_iff.mp e
      exact List.getElem?_eq_none_iff.mpr (by rw [s.1]; exact this)
    rw [this] at hi
    exact fun a ha => hi a ha.2
  | some sl =>
    rcases s.2 i sl e with rfl | e2
    · intro a ha
      rw [← ha.1] at hi
      exact hi a ha.2
    · rw [e2] at hi ⊢
      have : (fun a => some sl = some sl ∧ Ps i a) = Ps i := by funext a; simp
      rw [this]; exact hi
theorem State.sub {B F : Hp} {σ : L2.St} {env' : List Slot} (h : State K H0 H1 B F σ env) (s : Sub env env') : State K H0 H1 B F σ env' :=
  ⟨h.gr, let ⟨Ps, h1, h2⟩ := h.ex; ⟨_, h1.sub s, fun i a ha => h2 i a ha.2⟩⟩
theorem nx_sub {n : L2.St → Hp → Prop} {env' : List Slot} (s : Sub env env') (h : Nx K H0 H1 n env') : Nx K H0 H1 n env := fun B F σ st => h B F σ (st.sub s)
theorem nx_freeze {n : L2.St → Hp → Prop} (i : Nat) (e : env[i]? = some (.own o)) (h : Nx K H0 H1 n (env.set i (.val (frz o)))) : Nx K H0 H1 n env := fun B F σ st => by
  obtain ⟨B', st'⟩ := st.freeze e
  exact h B' F σ st'
/-- an object of one's own is changed at its place -/
theorem State.chg {B F B1 F1 : Hp} {σ : L2.St} {i : Nat} {js : List Nat} {k : Ob} {xs : List O} {x0 y : V} (h : State K H0 H1 B F σ env) (g : Gr B F B1 F1) (e : env[i]? = some (.own o)) (hn : nodeAt o js = some (.ow k xs)) (h0 : σ[i]? = some (some x0)) (r : Reach F1 x0 js y) :
    ∃ p u vs Po, y = .ref p ∧ F1 p = some u ∧ ObIs k vs u ∧ Owns K B1 F1 xs vs Po ∧ F p ≠ none ∧ (∀ a, Po a → F a ≠ none) ∧ ∀ (k' : Ob) (xs' : List O) (u' : HO) (vs' : List V) (Pn : Fp), ObIs k' vs' u' → Owns K B1 F1 xs' vs' Pn → (∀ a, Pn a → Po a ∨ (F a = none ∧ B1 a = none)) →
      State K H0 H1 B1 (upd F1 p u') σ (env.set i (.own (setAt o js (.ow k' xs')))) := by
  obtain ⟨Ps, h1, h2⟩ := h.ex
  have h3 := h1.grow g
  obtain ⟨x, a1, a2⟩ := h3.own i o e
  rw [h0] at a1; cases a1
  obtain ⟨p, u, vs, Po, b1, b2, b3, b4, b5, b6, b7, b8⟩ := own_upd a2 hn r
  have hF : F p ≠ none := (h1.ok i).has p b5
  refine ⟨p, u, vs, Po, b1, b2, b3, b4, hF, fun a ha => (h1.ok i).has a (b7 a ha), fun k' xs' u' vs' Pn hu w hp => ?_⟩
  have nP : ¬ Pn p := fun z => by
    rcases hp p z with z | z
    · exact b6 z
    · exact hF z.1
  obtain ⟨P', c1, c2⟩ := b8 B1 (upd F1 p u') k' xs' u' vs' Pn (Same.refl _) (fun a _ n _ => upd_ne n) upd_same hu (w.mono (Same.refl _) fun a ha => upd_ne fun z => nP (by rw [← z]; exact ha)) nP (fun a ha => (hp a ha).imp id fun z q => (h1.ok i).has a q z.1)
  have key : ∀ a, P' a → Ps i a ∨ (F a = none ∧ B1 a = none) := fun a ha => by
    rcases c2 a ha with z | z
    · exact .inl z
    · exact (hp a z).imp (b7 a) id
  have hi : i < env.length := (List.getElem?_eq_some_iff.mp e).1
  have hb1 : B1 p = none := h3.out i p b5
  have st := h3.put i (.own (setAt o js (.ow k' xs'))) (some x0) P' (Same.refl _) (F' := upd F1 p u') (fun j a n ha => upd_ne fun z => h3.dis j i p n (by rw [← z]; exact ha) b5) ⟨x0, rfl, c1⟩
    (fun j a n ha z => by
      rcases key a z with q | q
      · exact h3.dis j i a n ha q
      · exact (h1.ok j).has a ha q.1)
    (fun j a _ ha => h3.out j a ha) (fun a ha => by
      rcases key a ha with q | q
      · exact h3.out i a q
      · exact q.2)
  rw [set_same h0] at st
  have gg := h.gr.trans g
  refine ⟨⟨gg.b, same_out gg.f hb1, same_out gg.s (h2 i p b5), gg.n⟩, _, st, fun j a ha => ?_⟩
  by_cases z : j = i
  · rw [if_pos z, if_pos hi] at ha
    rcases key a ha with q | q
    · exact h2 i a q
    · exact h.gr.s.free q.1
  · rw [if_neg z] at ha; exact h2 j a ha
/-! ### the rules -/
theorem go_next (h : Nx K H0 H1 E.nx env) : Go K H0 H1 tNext E env := h
theorem go_break (h : Nx K H0 H1 E.bk env) : Go K H0 H1 tBreak E env := h
theorem go_cont (h : Nx K H0 H1 E.ct env) : Go K H0 H1 tCont E env := h
theorem go_asg {i : Nat} (h : EvE K te env d) (k : Nx K H0 H1 E.nx (env.set i (.val d))) : Go K H0 H1 (tAsg te (gName i)) E env := fun B F σ st =>
  h B F σ st.gr.f st.vs _ fun B' F' x g r => k B' F' _ ((st.grow g).set r)
theorem go_asgG {g : TG} {us : List (Nat × D)} (h : EvE K te env d) (hg : EvG K g d us) (k : Nx K H0 H1 E.nx (sets env us)) : Go K H0 H1 (tAsg te g) E env := fun B F σ st =>
  h B F σ st.gr.f st.vs _ fun B' F' x gg r => hg B' F' σ x gg.f r _ fun xs rx => k B' F' _ ((st.grow gg).sets rx)
theorem go_own {i : Nat} (h : EvX K te env o) (k : Nx K H0 H1 E.nx (env.set i (.own o))) : Go K H0 H1 (tAsg te (gName i)) E env := fun B F σ st =>
  h B F σ st.gr.f st.vs _ fun B' F' x P g w hp => k B' F' _ (st.setO g w hp)
theorem go_drop (h : EvE K te env d) (k : Nx K H0 H1 E.nx env) : Go K H0 H1 (tDrop te) E env := fun B F σ st => h B F σ st.gr.f st.vs _ fun B' F' x g r => k B' F' σ (st.grow g)
theorem go_par {i j : Nat} {t : TA} (h : EvA K t env [d1, d2]) (k : Nx K H0 H1 E.nx ((env.set i (.val d1)).set j (.val d2))) : Go K H0 H1 (tPar i j t) E env := fun B F σ st => h B F σ st.gr.f st.vs _ fun B' F' xs g r => by
  obtain ⟨x, y, rfl, r1, r2⟩ := reps2 r
  exact ⟨x, y, rfl, k B' F' _ (((st.grow g).set r1).set r2)⟩
theorem go_aug {i : Nat} {ti : TIp} (hv : env[i]? = some (.val d1)) (h : EvE K te env d2)
    (hr : ∀ B F x y, Same B F → Rep K B d1 x → Rep K B d2 y → ∀ Q : VK, (∀ B' F' z, Gr B F B' F' → Rep K B' d z → Q z F') → ti x y F Q) (k : Nx K H0 H1 E.nx (env.set i (.val d))) : Go K H0 H1 (tAug i te ti) E env := fun B F σ st => by
  obtain ⟨x, e1, r1⟩ := st.vs.val i d1 hv
  exact ⟨x, e1, h B F σ st.gr.f st.vs _ fun B1 F1 y g r2 => hr B1 F1 x y g.f (r1.mono g.b) r2 _ fun B2 F2 z g2 r3 => k B2 F2 _ ((st.grow (g.trans g2)).set r3)⟩
/-- xs.append(e) -/
theorem go_app {to : TE} {i : Nat} {js : List Nat} {xs : List O} {o2 : O} (e : env[i]? = some (.own o)) (hl : EvL K to env i js) (hn : nodeAt o js = some (.ow .lst xs)) (h : EvX K te env o2) (hz : xs.length ≤ 100000)
    (k : Nx K H0 H1 E.nx (env.set i (.own (setAt o js (.ow .lst (xs ++ [o2])))))) : Go K H0 H1 (tDrop (tBM K "list" rAppend to (tCons te tNil))) E env := fun B F σ st => by
  refine hl B F σ st.gr.f st.vs _ fun B1 F1 x0 y g1 h0 r1 => ?_
  have st1 := st.grow g1
  obtain ⟨p, u, vs, Po, rfl, a2, a3, a4, a5, _, _⟩ := st1.chg (Gr.refl st1.gr.f) e hn h0 r1
  have a3 : u = .lst vs := a3
  subst a3
  refine ⟨.inl ⟨rfl, vs, .inl (.inl a2)⟩, h B1 F1 σ st1.gr.f st1.vs _ fun B2 F2 x P g2 w hp => ?_⟩
  obtain ⟨p', u', vs', Po', b1, b2, b3, b4, b5, b5', b6⟩ := st1.chg g2 e hn h0 (r1.mono g2.s)
  cases b1
  have b3 : u' = .lst vs' := b3
  subst b3
  refine ⟨p, vs', x, rfl, rfl, b2, by rw [b4.len]; exact smallZ hz, ?_⟩
  refine k B2 _ σ (b6 .lst (xs ++ [o2]) _ (vs' ++ [x]) (fun a => Po' a ∨ P a) rfl (b4.snoc w fun a q1 q2 => b5' a q1 (hp a q2).1) fun a ha => ?_)
  rcases ha with ha | ha
  · exact .inl ha
  · exact .inr ⟨(hp a ha).1, (hp a ha).2⟩
/-- xs[k] = e -/
theorem Owns.setAt {B F : Hp} {o : O} {x : V} {P2 : Fp} : ∀ {os : List O} {vs : List V} {P1 : Fp} (n : Nat), Owns K B F os vs P1 → Own K B F o x P2 → (∀ a, P1 a → P2 a → False) → ∃ P, Owns K B F (os.set n o) (vs.set n x) P ∧ ∀ a, P a → P1 a ∨ P2 a
  | [], vs, P1, n, h, w, hd => by
    have h' := h
    unfold Owns at h'
    rw [h'.1]
    exact ⟨P1, by rw [h'.1] at h; simpa using h, fun a ha => .inl ha⟩
  | o1 :: os, vs, P1, 0, h, w, hd => by
    unfold Owns at h
    obtain ⟨y, ws, Q1, Q2, rfl, h2, h3, h4, h5⟩ := h
    refine ⟨fun a => P2 a ∨ Q2 a, ?_, fun a ha => ?_⟩
    · show Owns K B F (o :: os) (x :: ws) _
      unfold Owns
      exact ⟨x, ws, P2, Q2, rfl, w, h3, fun a q1 q2 => hd a ((h5 a).2 (.inr q2)) q1, fun _ => Iff.rfl⟩
    · rcases ha with ha | ha
      · exact .inr ha
      · exact .inl ((h5 a).2 (.inr ha))
  | o1 :: os, vs, P1, n + 1, h, w, hd => by
    unfold Owns at h
    obtain ⟨y, ws, Q1, Q2, rfl, h2, h3, h4, h5⟩ := h
    obtain ⟨P, c1, c2⟩ := Owns.setAt n h3 w (fun a q1 q2 => hd a ((h5 a).2 (.inr q1)) q2)
    refine ⟨fun a => Q1 a ∨ P a, ?_, fun a ha => ?_⟩
    · show Owns K B F (o1 :: os.set n o) (y :: ws.set n x) _
      unfold Owns
      refine ⟨y, _, Q1, P, rfl, h2, c1, fun a q1 q2 => ?_, fun _ => Iff.rfl⟩
      rcases c2 a q2 with z | z
      · exact h4 a q1 z
      · exact hd a ((h5 a).2 (.inl q1)) z
    · rcases ha with ha | ha
      · exact .inl ((h5 a).2 (.inl ha))
      · exact (c2 a ha).imp (fun z => (h5 a).2 (.inr z)) id
theorem go_setL {to tk : TE} {i : Nat} {js : List Nat} {xs : List O} {o2 : O} {k : Int} {j : Nat} (e : env[i]? = some (.own o)) (hl : EvL K to env i js) (hn : nodeAt o js = some (.ow .lst xs)) (h : EvX K te env o2) (hk : EvE K tk env (.int k)) (hj : ixN xs.length k = some j)
    (q : Nx K H0 H1 E.nx (env.set i (.own (setAt o js (.ow .lst (xs.set j o2)))))) : Go K H0 H1 (tAsg te (gSub to tk rSetL)) E env := fun B F σ st => by
  refine h B F σ st.gr.f st.vs _ fun B1 F1 x P g1 w hp => ?_
  have st1 := st.grow g1
  refine hl B1 F1 σ st1.gr.f st1.vs _ fun B2 F2 x0 y g2 h0 r2 => ?_
  have st2 := st1.grow g2
  refine hk B2 F2 σ st2.gr.f st2.vs _ fun B3 F3 z g3 r3 => ?_
  unfold Rep at r3; subst r3
  have g := (g1.trans g2).trans g3
  obtain ⟨p, u, vs, Po, rfl, b2, b3, b4, b5, b5', b6⟩ := st.chg g e hn h0 (r2.mono g3.s)
  have b3 : u = .lst vs := b3
  subst b3
  have g23 := g2.trans g3
  have w3 : Own K B3 F3 o2 x P := w.mono g23.b fun a ha => same_at g23.s (w.has a ha)
  have f3 : ∀ a, P a → F a = none ∧ B3 a = none := fun a ha => ⟨(hp a ha).1, g23.out (hp a ha).2 (w.has a ha)⟩
  obtain ⟨Pn, c1, c2⟩ := b4.setAt j w3 fun a q1 q2 => b5' a q1 (hp a q2).1
  refine ⟨p, vs, k, j, rfl, rfl, b2, by rw [b4.len]; exact hj, ?_⟩
  exact q B3 _ σ (b6 .lst (xs.set j o2) _ (vs.set j x) Pn rfl c1 fun a ha => (c2 a ha).imp id fun z => f3 a z)
end
end Y

/-! Y5: ways, loops, returns, dicts of one's own, defs. -/
namespace Y
open PySem PySem.Spec PyProof.Rows L2
section
variable {K : PySem.W.Frag} {H0 H1 : Hp} {env : List Slot} {ta tb td ty te tc : TE} {d d1 d2 : D} {E : Ends} {t u : TS} {o : O} {os : List O}
theorem go_if {tt : TT} {b : Bool} (h : EvT K tt env b) (h1 : b = true → Go K H0 H1 t E env) (h2 : b = false → Go K H0 H1 u E env) : Go K H0 H1 (tIfS tt t u) E env := fun B F σ st => h B F σ st.gr.f st.vs _ fun B' F' g => by
  cases b with
  | true => exact h1 rfl B' F' σ (st.grow g)
  | false => exact h2 rfl B' F' σ (st.grow g)
theorem Gr.rebase {H0 H1 B1 F1 B F : Hp} (g : Gr H0 H1 B1 F1) (h : Gr B1 H1 B F) : Gr H0 H1 B F :=
  ⟨g.b.trans h.b, h.f, h.s, fun a h1 h2 => by
    by_cases z : B1 a = none
    · exact h.n a h1 z
    · exact g.n a z h2⟩
/-- what is returned -/
def RtX (K : PySem.W.Frag) (H0 H1 : Hp) (rt : VK) (o : O) : Prop := ∀ B F x P, Gr H0 H1 B F → Own K B F o x P → (∀ a, P a → H1 a = none ∧ B a = none) → rt x F
theorem go_ret (h : EvX K te env o) (k : RtX K H0 H1 E.rt o) : Go K H0 H1 (tRet te) E env := fun B F σ st => h B F σ st.gr.f st.vs _ fun B' F' x P g w p => k B' F' x P (st.gr.trans g) w fun a ha => ⟨st.gr.s.free (p a ha).1, (p a ha).2⟩
/-- what moves out of slots -/
def EvM (K : PySem.W.Frag) (te : TE) (env : List Slot) (o : O) (C : List Nat) : Prop := ∀ B F σ Ps, Same B F → VsP K B F σ env Ps → ∀ Q : VK, (∀ B' F' x P, Gr B F B' F' → Own K B' F' o x P → (∀ a, P a → B' a = none ∧ (F a = none ∨ ∃ i ∈ C, Ps i a)) → Q x F') → te σ F Q
def EvMs (K : PySem.W.Frag) (ta : TA) (env : List Slot) (os : List O) (C : List Nat) : Prop := ∀ B F σ Ps, Same B F → VsP K B F σ env Ps → ∀ Q : List V → Hp → Prop, (∀ B' F' xs P, Gr B F B' F' → Owns K B' F' os xs P → (∀ a, P a → B' a = none ∧ (F a = none ∨ ∃ i ∈ C, Ps i a)) → Q xs F') → ta σ F Q
theorem em_x (h : EvX K te env o) : EvM K te env o [] := fun B F σ Ps hs vs Q q => h B F σ hs ⟨Ps, vs⟩ Q fun B' F' x P g w p => q B' F' x P g w fun a ha => ⟨(p a ha).2, .inl (p a ha).1⟩
theorem em_var {i : Nat} (e : env[i]? = some (.own o)) : EvM K (tVar i) env o [i] := fun B F σ Ps hs vs Q q => by
  obtain ⟨x, h1, h2⟩ := vs.own i o e
  exact ⟨x, h1, q B F x (Ps i) (Gr.refl hs) h2 fun a ha => ⟨vs.out i a ha, .inr ⟨i, by simp, ha⟩⟩⟩
theorem ems_nil : EvMs K tNil env [] [] := fun B F σ Ps hs vs Q q => q B F [] (fun _ => False) (Gr.refl hs) (by unfold Owns; exact ⟨rfl, fun _ h => h⟩) (fun _ h => h.elim)
theorem ems_cons {tr : TA} {C C' : List Nat} (h : EvM K ta env o C) (t : EvMs K tr env os C') (hc : ∀ i ∈ C, ∀ j ∈ C', i ≠ j) : EvMs K (tCons ta tr) env (o :: os) (C ++ C') := fun B F σ Ps hs vs Q q =>
  h B F σ Ps hs vs _ fun B1 F1 x P1 g1 w1 p1 => t B1 F1 σ Ps g1.f (vs.grow g1) _ fun B2 F2 xs P2 g2 w2 p2 => by
    have vs2 := (vs.grow g1).grow g2
    refine q B2 F2 (x :: xs) (fun a => P1 a ∨ P2 a) (g1.trans g2) ?_ fun a ha => ?_
    · unfold Owns
      refine ⟨x, xs, P1, P2, rfl, w1.mono g2.b (fun a ha => same_at g2.s (w1.has a ha)), w2, fun a q1 q2 => ?_, fun a => Iff.rfl⟩
      have hF1 := w1.has a q1
      rcases (p2 a q2).2 with z | ⟨j, hj, z⟩
      · exact hF1 z
      · rcases (p1 a q1).2 with y | ⟨i, hi, y⟩
        · exact (vs.ok j).has a z y
        · exact vs.dis i j a (hc i hi j hj) y z
    · rcases ha with ha | ha
      · refine ⟨g2.out (p1 a ha).1 (w1.has a ha), (p1 a ha).2.imp id fun ⟨i, hi, z⟩ => ⟨i, List.mem_append_left _ hi, z⟩⟩
      · refine ⟨(p2 a ha).1, (p2 a ha).2.imp g1.s.free fun ⟨i, hi, z⟩ => ⟨i, List.mem_append_right _ hi, z⟩⟩
theorem em_tup {t : TA} {C : List Nat} (h : EvMs K t env os C) (hz : os.length ≤ 100000) : EvM K (tTup t) env (.ow .tup os) C := fun B F σ Ps hs vs Q q => h B F σ Ps hs vs _ fun B1 F1 xs P g w hp =>
  ⟨by rw [w.len]; exact Nat.le_of_lt (smallZ hz), fun p np => q B1 _ _ _ (gr_new g np) (own_new (k := .tup) np rfl w) fun a ha => by
    rcases ha with rfl | ha
    · exact ⟨g.f.free np, .inl (g.s.free np)⟩
    · exact hp a ha⟩
theorem em_lst {t : TA} {C : List Nat} (h : EvMs K t env os C) (hz : os.length ≤ 100000) : EvM K (tLst t) env (.ow .lst os) C := fun B F σ Ps hs vs Q q => h B F σ Ps hs vs _ fun B1 F1 xs P g w hp =>
  ⟨by rw [w.len]; exact Nat.le_of_lt (smallZ hz), fun p np => q B1 _ _ _ (gr_new g np) (own_new (k := .lst) np rfl w) fun a ha => by
    rcases ha with rfl | ha
    · exact ⟨g.f.free np, .inl (g.s.free np)⟩
    · exact hp a ha⟩
theorem go_retM {C : List Nat} (h : EvM K te env o C) (k : RtX K H0 H1 E.rt o) : Go K H0 H1 (tRet te) E env := fun B F σ st => by
  obtain ⟨Ps, h1, h2⟩ := st.ex
  refine h B F σ Ps st.gr.f h1 _ fun B' F' x P g w p => k B' F' x P (st.gr.trans g) w fun a ha => ⟨?_, (p a ha).1⟩
  rcases (p a ha).2 with z | ⟨i, _, z⟩
  · exact st.gr.s.free z
  · exact h2 i a z
theorem go_retN (k : RtX K H0 H1 E.rt (.fr .non)) : Go K H0 H1 (tRet (tC .non)) E env := go_ret (ee_non.x) k
/-- the end of a def without a return -/
theorem nx_none {rt : VK} (k : RtX K H0 H1 rt (.fr .non)) : Nx K H0 H1 (fun _ H' => rt .non H') env := fun B F σ st => k B F .non _ st.gr (own_fr (rp_non B)) (fun _ h => h.elim)
/-! loops -/
theorem go_forP {wi : TI} {g : TG} {ds : List D} (Pn : Nat → Prop) (en : Nat → List Slot) (us : Nat → List (Nat × D)) (hi : EvI K wi env ds) (p0 : Pn 0) (h0 : Sub env (en 0)) (hg : ∀ i d, ds[i]? = some d → EvG K g d (us i))
    (hs : ∀ i, i < ds.length → Pn i → ∀ (G0 : Hp) (E' : Ends), E'.nx = E'.ct → (∀ r, RtX K H0 H1 E.rt r → RtX K G0 H1 E'.rt r) → (∀ ev, Nx K H0 H1 E.nx ev → Nx K G0 H1 E'.bk ev) →
      (Pn (i + 1) → Nx K G0 H1 E'.nx (en (i + 1))) → (Pn (i + 1) → Nx K G0 H1 E'.ct (en (i + 1))) → Go K G0 H1 t E' (sets (en i) (us i))) (hd : Pn ds.length → Nx K H0 H1 E.nx (en ds.length)) : Go K H0 H1 (tFor wi g t) E env := fun B F σ st =>
  hi B F σ st.gr.f st.vs _ fun B1 F1 J g1 w => by
    obtain ⟨G, Y, wk, hG, hY⟩ := w.w
    have st1 := st.grow g1
    have sta : State K B1 H1 B1 F1 σ (en 0) := (⟨⟨Same.refl _, st1.gr.f, st1.gr.s, fun a h1 h2 => absurd h2 h1⟩, st1.ex⟩ : State K B1 H1 B1 F1 σ env).sub h0
    refine for_it wk (fun i σ' F' => Pn i ∧ ∃ B', State K B1 H1 B' F' σ' (en i)) ⟨p0, B1, sta⟩ ?_ ?_ ?_
    · rintro i σ' F' _ ⟨_, B', st'⟩
      exact hG F' (st'.gr.b.trans st'.gr.f)
    · rintro i x σ' F2 F3 hl ⟨pi, B2, st2⟩ hy
      obtain ⟨B3, d, g3, ed, rx⟩ := hY i B2 F2 x F3 st2.gr.b st2.gr.f hy
      refine hg i d ed B3 F3 _ x g3.f rx _ fun xs rxs => ?_
      have st3 := (st2.grow g3).sets rxs
      exact hs i hl pi B1 { E with nx := fun σ' F' => Pn (i + 1) ∧ ∃ B', State K B1 H1 B' F' σ' (en (i + 1)), ct := fun σ' F' => Pn (i + 1) ∧ ∃ B', State K B1 H1 B' F' σ' (en (i + 1)), bk := E.nx } rfl (fun r hr B F x P g => hr B F x P (st1.gr.rebase g)) (fun ev hn B F σ s => hn B F σ ⟨st1.gr.rebase s.gr, s.ex⟩)
        (fun pn B F σ s => ⟨pn, B, s⟩) (fun pn B F σ s => ⟨pn, B, s⟩) B3 F3 _ st3
    · rintro σ' F2 ⟨pn, B2, st2⟩
      exact hd pn B2 F2 σ' ⟨st1.gr.rebase st2.gr, st2.ex⟩
theorem go_whileP {α : Type} {c : TT} (en : α → List Slot) (μ : α → Nat) (P : α → Prop) (s0 : α) (p0 : P s0) (h0 : Sub env (en s0))
    (hs : ∀ s, P s → ∃ b, EvT K c (en s) b ∧ (b = true → ∀ (E' : Ends), E'.nx = E'.ct → E'.rt = E.rt → E'.bk = E.nx → (∀ s', P s' → μ s' < μ s → Nx K H0 H1 E'.nx (en s')) → (∀ s', P s' → μ s' < μ s → Nx K H0 H1 E'.ct (en s')) → Go K H0 H1 t E' (en s)) ∧
      (b = false → Nx K H0 H1 E.nx (en s))) : Go K H0 H1 (tWhile c t) E env := fun B F σ st => by
  refine ⟨fun m σ' F' => ∃ s B', P s ∧ μ s = m ∧ State K H0 H1 B' F' σ' (en s), ⟨μ s0, s0, B, p0, rfl, st.sub h0⟩, ?_⟩
  rintro m σ' F' ⟨s, B', ps, rfl, st'⟩
  obtain ⟨b, hb, h1, h2⟩ := hs s ps
  refine hb B' F' σ' st'.gr.f st'.vs _ fun B2 F2 g2 => ?_
  have st2 := st'.grow g2
  cases b with
  | true =>
    rw [if_pos rfl]
    refine ⟨fun σ'' F'' => ∃ s' B'', P s' ∧ μ s' < μ s ∧ State K H0 H1 B'' F'' σ'' (en s'), fun σ'' F'' ⟨s', B'', a, b, c⟩ => ⟨μ s', b, s', B'', a, rfl, c⟩, ?_⟩
    exact h1 rfl { E with nx := fun σ'' F'' => ∃ s' B'', P s' ∧ μ s' < μ s ∧ State K H0 H1 B'' F'' σ'' (en s'), ct := fun σ'' F'' => ∃ s' B'', P s' ∧ μ s' < μ s ∧ State K H0 H1 B'' F'' σ'' (en s'), bk := E.nx } rfl rfl rfl (fun s' a b B F σ st => ⟨s', B, a, b, st⟩) (fun s' a b B F σ st => ⟨s', B, a, b, st⟩) B2 F2 σ' st2
  | false =>
    rw [if_neg (by decide)]
    exact h2 rfl B2 F2 σ' st2
/-! dicts -/
def kD : Key → D
  | .inl i => .int i
  | .inr x => .str x
theorem rep_key {H : Hp} {k : Key} {x : V} (r : Rep K H (kD k) x) : x = kV k := by
  cases k <;> (unfold kD Rep at r; exact r)
section
variable {κ : Type} [DecidableEq κ]
def hasK (ks : List κ) (k : κ) : Bool := ks.any fun x => decide (x = k)
def dataV {α : Type} (ks : List κ) (ds : List α) (k : κ) : Option α := ((ks.zip ds).find? fun kv => decide (kv.1 = k)).map (·.2)
def putKs (ks : List κ) (k : κ) : List κ := if hasK ks k = true then ks else ks ++ [k]
def putDs {α : Type} (ks : List κ) (ds : List α) (k : κ) (d : α) : List α := if hasK ks k = true then (ks.zip ds).map (fun p => if p.1 = k then d else p.2) else ds ++ [d]
theorem zip_any {α : Type} {k : κ} : ∀ {ks : List κ} {vs : List α}, ks.length = vs.length → ((ks.zip vs).any fun kv => decide (kv.1 = k)) = hasK ks k
  | [], [], _ => rfl
  | n :: ks, v :: vs, h => by
    have ih := zip_any (k := k) (ks := ks) (vs := vs) (by simpa using h)
    unfold hasK at ih ⊢
    rw [List.zip_cons_cons, List.any_cons, List.any_cons, ih]
  | [], _ :: _, h => by simp at h
  | _ :: _, [], h => by simp at h
theorem zip_map_if {α : Type} {k : κ} {y : α} : ∀ {ks : List κ} {vs : List α}, ks.length = vs.length → (ks.zip vs).map (fun p => if p.1 = k then (p.1, y) else p) = ks.zip ((ks.zip vs).map fun p => if p.1 = k then y else p.2)
  | [], [], _ => rfl
  | n :: ks, v :: vs, h => by
    simp only [List.zip_cons_cons, List.map_cons]
    rw [zip_map_if (ks := ks) (vs := vs) (by simpa using h)]
    by_cases z : n = k
    · subst z; simp
    · simp [z]
  | [], _ :: _, h => by simp at h
  | _ :: _, [], h => by simp at h
theorem putK_zip {k : κ} {y : V} {ks : List κ} {vs : List V} (h : ks.length = vs.length) : putK (ks.zip vs) k y = (putKs ks k).zip (putDs ks vs k y) := by
  unfold putK putKs putDs
  rw [zip_any h]
  by_cases z : hasK ks k = true
  · rw [if_pos z, if_pos z, if_pos z, zip_map_if h]
  · rw [if_neg z, if_neg z, if_neg z, List.zip_append h]; rfl
theorem putDs_len {α : Type} {k : κ} {y : α} {ks : List κ} {vs : List α} (h : ks.length = vs.length) : (putKs ks k).length = (putDs ks vs k y).length := by
  unfold putKs putDs
  split
  · simp; omega
  · simp [h]
theorem reps_zip_if {H : Hp} {k : κ} {d : D} {x : V} (rx : Rep K H d x) : ∀ {ks : List κ} {ds : List D} {vs : List V}, Reps K H ds vs → Reps K H ((ks.zip ds).map fun p => if p.1 = k then d else p.2) ((ks.zip vs).map fun p => if p.1 = k then x else p.2)
  | [], ds, vs, r => by simp; exact Reps.nil
  | n :: ks, [], vs, r => by unfold Reps at r; subst r; simp; exact Reps.nil
  | n :: ks, e :: ds, vs, r => by
    unfold Reps at r
    obtain ⟨y, ws, rfl, h1, h2⟩ := r
    simp only [List.zip_cons_cons, List.map_cons]
    refine Reps.cons ?_ (reps_zip_if rx h2)
    by_cases z : n = k
    · simp [z]; exact rx
    · simp [z]; exact h1
theorem reps_putDs {H : Hp} {k : κ} {d : D} {x : V} (rx : Rep K H d x) {ks : List κ} {ds : List D} {vs : List V} (r : Reps K H ds vs) : Reps K H (putDs ks ds k d) (putDs ks vs k x) := by
  unfold putDs
  split
  · exact reps_zip_if rx r
  · exact r.append (Reps.cons rx Reps.nil)
theorem owns_zip_if {B F : Hp} {k : κ} {d : D} {x : V} (rx : Rep K B d x) : ∀ {ks : List κ} {xs : List O} {vs : List V} {P : Fp}, Owns K B F xs vs P → ∃ P', Owns K B F ((ks.zip xs).map fun p => if p.1 = k then O.fr d else p.2) ((ks.zip vs).map fun p => if p.1 = k then x else p.2) P' ∧ ∀ a, P' a → P a
  | [], xs, vs, P, r => ⟨fun _ => False, by simp; unfold Owns; exact ⟨rfl, fun _ h => h⟩, fun _ h => h.elim⟩
  | n :: ks, [], vs, P, r => by unfold Owns at r; rw [r.1]; exact ⟨fun _ => False, by simp; unfold Owns; exact ⟨rfl, fun _ h => h⟩, fun _ h => h.elim⟩
  | n :: ks, e :: xs, vs, P, r => by
    unfold Owns at r
    obtain ⟨y, ws, P1, P2, rfl, h1, h2, h3, h4⟩ := r
    obtain ⟨P', c1, c2⟩ := owns_zip_if (k := k) rx (ks := ks) h2
    by_cases z : n = k
    · refine ⟨P', ?_, fun a ha => (h4 a).2 (.inr (c2 a ha))⟩
      simp only [List.zip_cons_cons, List.map_cons, z, if_true]
      unfold Owns
      exact ⟨x, _, fun _ => False, P', rfl, own_fr rx, c1, fun _ h => h.elim, fun a => by simp⟩
    · refine ⟨fun a => P1 a ∨ P' a, ?_, fun a ha => (h4 a).2 (ha.imp id (c2 a))⟩
      simp only [List.zip_cons_cons, List.map_cons, z, if_false]
      unfold Owns
      exact ⟨y, _, P1, P', rfl, h1, c1, fun a q1 q2 => h3 a q1 (c2 a q2), fun a => Iff.rfl⟩
theorem owns_putDs {B F : Hp} {k : κ} {d : D} {x : V} (rx : Rep K B d x) {ks : List κ} {xs : List O} {vs : List V} {P : Fp} (r : Owns K B F xs vs P) : ∃ P', Owns K B F (putDs ks xs k (.fr d)) (putDs ks vs k x) P' ∧ ∀ a, P' a → P a := by
  unfold putDs
  split
  · exact owns_zip_if rx r
  · exact ⟨_, r.snoc (own_fr rx) (fun _ _ h => h), fun a ha => ha.elim id False.elim⟩
theorem dataV_rep {H : Hp} {k : κ} : ∀ {ks : List κ} {ds : List D} {vs : List V} {d : D}, Reps K H ds vs → dataV ks ds k = some d → ∃ v, valV (ks.zip vs) k = some v ∧ Rep K H d v
  | [], ds, vs, d, r, h => by simp [dataV] at h
  | n :: ks, [], vs, d, r, h => by simp [dataV] at h
  | n :: ks, e :: ds, vs, d, r, h => by
    unfold Reps at r
    obtain ⟨x, ws, rfl, h1, h2⟩ := r
    unfold dataV at h
    unfold valV
    rw [List.zip_cons_cons, List.find?_cons] at h ⊢
    by_cases hb : n = k
    · simp only [hb, decide_true, Option.map_some, Option.some.injEq] at h ⊢
      subst h
      exact ⟨x, rfl, h1⟩
    · simp only [hb, decide_false] at h ⊢
      exact dataV_rep h2 h
theorem valV_has {k : κ} : ∀ {ks : List κ} {vs : List L2.V}, ks.length = vs.length → (valV (ks.zip vs) k).isSome = hasK ks k
  | [], [], _ => rfl
  | n :: ks, v :: vs, h => by
    have ih := valV_has (k := k) (ks := ks) (vs := vs) (by simpa using h)
    unfold valV at ih ⊢
    unfold hasK at ih ⊢
    rw [List.zip_cons_cons, List.find?_cons, List.any_cons, ← ih]
    by_cases hb : n = k
    · simp [hb]
    · simp [hb]
  | [], _ :: _, h => by simp at h
  | _ :: _, [], h => by simp at h
end
/-- d[k] = e -/
theorem go_putD {to tk : TE} {i : Nat} {js : List Nat} {ks : List Key} {xs : List O} {k : Key} (e : env[i]? = some (.own o)) (hl : EvL K to env i js) (hn : nodeAt o js = some (.ow (.dic ks) xs)) (h : EvE K te env d) (hk : EvE K tk env (kD k)) (hz : ks.length ≤ 100000)
    (q : Nx K H0 H1 E.nx (env.set i (.own (setAt o js (.ow (.dic (putKs ks k)) (putDs ks xs k (.fr d))))))) : Go K H0 H1 (tAsg te (gSub to tk rSetD)) E env := fun B F σ st => by
  refine h B F σ st.gr.f st.vs _ fun B1 F1 x g1 rx => ?_
  have st1 := st.grow g1
  refine hl B1 F1 σ st1.gr.f st1.vs _ fun B2 F2 x0 y g2 h0 r2 => ?_
  have st2 := st1.grow g2
  refine hk B2 F2 σ st2.gr.f st2.vs _ fun B3 F3 z g3 r3 => ?_
  have := rep_key r3
  subst this
  have g := (g1.trans g2).trans g3
  obtain ⟨p, u, vs, Po, rfl, b2, b3, b4, b5, b5', b6⟩ := st.chg g e hn h0 (r2.mono g3.s)
  obtain ⟨l, rfl⟩ : ks.length = vs.length ∧ u = .dK (ks.zip vs) := b3
  have rx3 := rx.mono (g2.trans g3).b
  obtain ⟨Pn, c1, c2⟩ := owns_putDs (ks := ks) (k := k) rx3 b4
  refine ⟨p, _, rfl, DPut.k b2 ?_, ?_⟩
  · rw [List.length_zip]
    exact Nat.lt_of_le_of_lt (Nat.min_le_left _ _) (smallZ hz)
  · rw [putK_zip l]
    exact q B3 _ σ (b6 (.dic (putKs ks k)) _ _ (putDs ks vs k x) Pn ⟨putDs_len l, rfl⟩ c1 fun a ha => .inl (c2 a ha))
/-! reading a dict: one's own or a frozen one -/
def EvDic (K : PySem.W.Frag) (td : TE) (env : List Slot) (ks : List Key) (ds : List D) : Prop := ∀ B F σ, Same B F → Vs K B F σ env → ∀ Q : VK, (∀ B' F' a vs, Gr B F B' F' → Rd F' a (.dK (ks.zip vs)) → ks.length = vs.length → Reps K B' ds vs → Q (.ref a) F') → td σ F Q
theorem ed_val {ks : List Key} {ds : List D} (h : EvE K td env (.dic ks ds)) : EvDic K td env ks ds := fun B F σ hs vs Q q => h B F σ hs vs _ fun B1 F1 x g r => by
  unfold Rep at r
  obtain ⟨a, ws, rfl, e1, e2, e3⟩ := r
  exact q B1 F1 a ws g (rd_mono g.f e1) (by rw [e2, e3.len]) e3
theorem ed_own {i : Nat} {ks : List Key} {ds : List D} (e : env[i]? = some (.own (.ow (.dic ks) (ds.map .fr)))) : EvDic K (tVar i) env ks ds := fun B F σ hs ⟨Ps, vs⟩ Q q => by
  obtain ⟨x, h1, h2⟩ := vs.own i _ e
  unfold Own at h2
  obtain ⟨p, u, ws, P', rfl, a2, ⟨l, rfl⟩, a4, a5, a6⟩ := h2
  exact ⟨_, h1, q B F p ws (Gr.refl hs) (.inl a2) l a4.frs.1⟩
theorem ee_dget {ks : List Key} {ds : List D} {k : Key} (h : EvDic K td env ks ds) (hk : EvE K ty env (kD k)) (hv : dataV ks ds k = some d) : EvE K (tDGet td ty) env d := fun B F σ hs vs Q q => h B F σ hs vs _ fun B1 F1 a ws g hr hl r => hk B1 F1 σ g.f (vs.grow g) _ fun B2 F2 y g2 r2 => by
  have := rep_key r2
  subst this
  obtain ⟨v, hv1, hv2⟩ := dataV_rep r hv
  exact ⟨a, v, rfl, .inl ⟨_, k, rd_mono g2.s hr, rfl, hv1.symm⟩, q B2 F2 v (g.trans g2) (hv2.mono g2.b)⟩
theorem ee_din {ks : List Key} {ds : List D} {k : Key} (hk : EvE K ty env (kD k)) (h : EvDic K td env ks ds) : EvE K (tDIn ty td) env (.bl (hasK ks k)) := fun B F σ hs vs Q q => hk B F σ hs vs _ fun B1 F1 y g r2 => h B1 F1 σ g.f (vs.grow g) _ fun B2 F2 a ws g2 hr hl r => by
  have := rep_key r2
  subst this
  refine ⟨a, _, rfl, .inl ⟨_, k, hr, rfl, rfl⟩, ?_⟩
  rw [valV_has hl]
  exact q B2 F2 _ (g.trans g2) (rp_bl B2)
theorem ee_dnin {ks : List Key} {ds : List D} {k : Key} (hk : EvE K ty env (kD k)) (h : EvDic K td env ks ds) : EvE K (tDNotIn ty td) env (.bl (!hasK ks k)) := fun B F σ hs vs Q q => hk B F σ hs vs _ fun B1 F1 y g r2 => h B1 F1 σ g.f (vs.grow g) _ fun B2 F2 a ws g2 hr hl r => by
  have := rep_key r2
  subst this
  refine ⟨a, _, rfl, .inl ⟨_, k, hr, rfl, rfl⟩, ?_⟩
  rw [valV_has hl]
  exact q B2 F2 _ (g.trans g2) (rp_bl B2)
theorem ex_dnew : EvX K tDNewK env (.ow (.dic []) []) := fun B F σ hs vs Q q => fun p hp => q B _ _ _ (gr_new (Gr.refl hs) hp) (own_new (k := .dic []) (vs := []) (P := fun _ => False) hp ⟨rfl, rfl⟩ (by unfold Owns; exact ⟨rfl, fun _ h => h⟩)) (fp_new (Gr.refl hs) hp fun _ h => h.elim)
/-! xs[i], one's own -/
theorem ee_ixO {i : Nat} {ds : List D} {k : Int} (e : env[i]? = some (.own (.ow .lst (ds.map .fr)))) (h2 : EvE K tb env (.int k)) (ha : atI ds k = some d) : EvE K (tOp (rIxL K) (tVar i) tb) env d := fun B F σ hs ⟨Ps, vs⟩ Q q => by
  obtain ⟨x, h1, h3⟩ := vs.own i _ e
  unfold Own at h3
  obtain ⟨p, u, ws, P', rfl, a2, a3, a4, a5, a6⟩ := h3
  have a3 : u = .lst ws := a3
  subst a3
  refine ⟨_, h1, h2 B F σ hs ⟨Ps, vs⟩ _ fun B1 F1 y g1 r1 => ?_⟩
  unfold Rep at r1; subst r1
  have r := a4.frs.1
  obtain ⟨m, z1, z2⟩ := atI_len (xs := ws) r.len ha
  obtain ⟨z, z3, z4⟩ := r.get z1
  exact ⟨p, ws, k, z, rfl, rfl, .inl (.inl (g1.s _ _ a2)), z2 z z3, q B1 F1 _ g1 (z4.mono g1.b)⟩
/-! calls -/
def spX (K : PySem.W.Frag) (R : List D → O → Prop) : Sp := fun vs F Q _ => ∃ B ds o, Same B F ∧ Reps K B ds vs ∧ R ds o ∧ ∀ B' F' x P, Gr B F B' F' → Own K B' F' o x P → (∀ a, P a → F a = none ∧ B' a = none) → Q x F'
theorem ex_call {R : List D → O → Prop} {E : XK} {t : TA} {ds : List D} (h : EvA K t env ds) (hr : R ds o) : EvX K (tCall (spX K R) [] E t) env o := fun B F σ hs vs Q q => h B F σ hs vs _ fun B1 F1 xs g r => by
  refine ⟨B1, ds, o, g.f, by simpa using r, hr, fun B2 F2 x P g2 w p => q B2 F2 x P (g.trans g2) w fun a ha => ⟨g.s.free (p a ha).1, (p a ha).2⟩⟩
end
/-! ### a def -/
structure Cal (P : Program) (w : World) (K : PySem.W.Frag) (mg : Str → Option Value) (base : Heap) (x : Str) (k : Nat) (ps : List Str) (sp : Sp) : Prop where
  h : ∃ (f : Addr) (fd : FuncData), mg x = some (.ref f) ∧ PySem.W.keepIn K (.ref f) = true ∧ FnOk P w K mg base CX0 k f fd ps sp ∧ Binds K fd ps [] ∧ ∀ ws : List Value, ws.length = ps.length → bindArgs fd ⟨[], ps.zip ws⟩ = pure (ps.zip ws)
def startE (N : List Str) (ds : List D) : List Slot := ds.map .val ++ List.replicate (N.length - ds.length) .no
section
variable {P : Program} {w : World} {K : PySem.W.Frag} {mg : Str → Option Value} {base : Heap}
theorem start_state {N : List Str} {H0 H1 : Hp} {ds : List D} {vs : List V} (s : Same H0 H1) (r : Reps K H0 ds vs) : State K H0 H1 H0 H1 (L2.start N vs) (startE N ds) := by
  have hl := r.len
  refine ⟨Gr.refl s, fun _ _ => False, ⟨by simp [L2.start, startE, hl], fun i => ?_, fun _ _ _ _ h => h.elim, fun _ _ h => h.elim⟩, fun _ _ h => h.elim⟩
  cases e : (startE N ds)[i]? with
  | none => exact fun _ h => h
  | some sl =>
    cases sl with
    | no => exact fun _ h => h
    | own o =>
      unfold startE at e
      have := List.mem_of_getElem? e
      simp at this
    | obj x o =>
      unfold startE at e
      have := List.mem_of_getElem? e
      simp at this
    | val d =>
      refine ⟨?_, fun _ h => h⟩
      unfold startE at e
      by_cases hi : i < ds.length
      · rw [List.getElem?_append_left (by simpa using hi)] at e
        simp [hi] at e
        obtain ⟨x, h1, h2⟩ := r.get (List.getElem?_eq_getElem hi)
        refine ⟨x, ?_, by rw [← e]; exact h2⟩
        unfold L2.start
        rw [List.getElem?_append_left (by simp [hl, hi])]
        simp [h1]
      · rw [List.getElem?_append_right (by simpa using hi)] at e
        have := List.mem_of_getElem? e
        simp at this
/-- THE RULE for a def -/
theorem ok_def {x qual : Str} {st : Stmt} {f : Addr} {fd : FuncData} {N ps : List Str} {k : Nat} {R : List D → O → Prop} (F : Fun K x qual st f fd) (S : FnScope N ps (defScope st)) (len : ∀ ds r, R ds r → ds.length = ps.length)
    (hbody : ∀ (cdv : Value) (A : Around) (outer : List Env) (s : Shared) (H : Hp) (E : XK), Room k (A.deeper (envOfC qual (defScope st) s.heap.objs.size f cdv)) →
      ∃ t, PSs (cxOf CX0 P w K mg base N qual (defScope st) f cdv A outer s H E).nox (defBody st) t ∧ ∀ ds r, R ds r → ∀ H0 H1 rt, RtX K H0 H1 rt r → Go K H0 H1 t { nx := fun _ H' => rt .non H', rt := rt } (startE N ds)) : FnOk P w K mg base CX0 (k + 1) f fd ps (spX K R) := by
  refine F.ok S (fun vs H Q E h => ?_) (fun cdv A outer s H vs Q E hr h => ?_)
  · obtain ⟨B, ds, r, _, h2, h3, _⟩ := h
    rw [h2.len, len ds r h3]
  · obtain ⟨t, ht, hg⟩ := hbody cdv A outer s H E hr
    obtain ⟨B, ds, r, h1, h2, h3, h4⟩ := h
    exact ⟨t, ht, hg ds r h3 B H Q (fun B' F' x P g w p => h4 B' F' x P g w p) B H _ (start_state h1 h2)⟩
theorem Cal.mk' {x qual : Str} {st : Stmt} {f : Addr} {fd : FuncData} {ps : List Str} {k : Nat} {sp : Sp} (F : Fun K x qual st f fd) (g : mg x = some (.ref f)) (ok : FnOk P w K mg base CX0 k f fd ps sp)
    (h : ∀ (kV doc pm : Value) (an : Option Addr) (cdv ct : Value) (us : List Value), us.length = ps.length → bindArgs (PySem.W.fnOf x qual (defArgs st) (defBody st) (defScope st) .none kV doc pm an cdv ct) ⟨us, []⟩ = pure (ps.zip us))
    (hk : ∀ (kV doc pm : Value) (an : Option Addr) (cdv ct : Value) (us : List Value), us.length = ps.length → bindArgs (PySem.W.fnOf x qual (defArgs st) (defBody st) (defScope st) .none kV doc pm an cdv ct) ⟨[], ps.zip us⟩ = pure (ps.zip us)) : Cal P w K mg base x k ps sp := by
  refine ⟨f, fd, g, F.kp, ok, F.binds h, ?_⟩
  obtain ⟨oc, od, kV, doc, pm, an, cdv, ct, osl, rfl, lk, hcd⟩ := F.ex
  exact hk kV doc pm an cdv ct
theorem Cal.mono {x : Str} {ps : List Str} {j k : Nat} {sp : Sp} (c : Cal P w K mg base x j ps sp) (h : j ≤ k) : Cal P w K mg base x k ps sp := by
  obtain ⟨f, fd, h1, h2, h3, h4, h5⟩ := c.h
  exact ⟨f, fd, h1, h2, h3.mono h, h4, h5⟩
end
section
variable {X : Cx}
theorem pe_cal {x : Str} {k : Nat} {ps : List Str} {sp : Sp} {p pos : Pos} {e : Expr} {es : List Expr} {t : TA} (c : Cal X.prog X.w X.K X.mg X.base x k ps sp) (hr : Room k X.A) (hg : Gl X x) (h : PA X (e :: es) t) (hdb : (x == ("__debug__" : Str)) = false := by decide) (he : starEach (e :: es) X.env = (false, eval e X.env) :: starEach es X.env := by rfl) (hpl : (backTo pos (starEach es X.env)).any (·.1) = false := by rfl) :
    PE X (.Call (.Name x p) (e :: es) [] pos) (tCall sp [] E0 t) := by
  obtain ⟨f, fd, h1, h2, h3, h4, _⟩ := c.h
  exact pe_call h3 hr hg h1 h2 h4 .nil pass0 h hdb he hpl
/-- all arguments by name, in the parameters' order -/
theorem pe_calK {x : Str} {k : Nat} {ps : List Str} {sp : Sp} {p pos : Pos} {kws : List Keyword} {t : TA} (c : Cal X.prog X.w X.K X.mg X.base x k ps sp) (hr : Room k X.A) (hg : Gl X x) (hkw : PK X kws t)
    (hall : (backToKw pos (keywordEach kws X.env)).all (·.1.isSome) = true := by rfl) (hks : (backToKw pos (keywordEach kws X.env)).filterMap (·.1) = ps := by rfl) (hdb : (x == ("__debug__" : Str)) = false := by decide)
    (hpl : ((backTo pos (starEach [] X.env)).any (·.1) || (backToKw pos (keywordEach kws X.env)).any (·.1.isNone)) = false := by rfl) : PE X (.Call (.Name x p) [] kws pos) (tCall sp [] E0 t) := by
  obtain ⟨f, fd, h1, h2, F, h4, kb⟩ := c.h
  refine ⟨fun pins s σ H Q I h => ?_⟩
  refine wpAny_Call_Name_kw (ld_glob I hg h1 ?_ hdb)
  refine PySem.W.callWith_KW0 (h₀ := X.base) I.ok.mod.kin h2 hall ?_ hpl
  refine thn (hkw.run pos pins s σ H _ I h) fun ws s2 ⟨zs, H2, I2, rz, q2⟩ => ⟨I2.kIn, ?_⟩
  rw [hks]
  have q2 : sp zs H2 Q E0 := by simpa using q2
  have hl : ws.length = ps.length := by rw [← rz.length]; exact F.len _ _ _ _ q2
  refine wpAny_call (codeAny_mono (F.run X.A X.stack s2 H2 ⟨[], ps.zip ws⟩ ws zs Q E0 hr I2.env0 (.of_eq (kb ws hl)) rz q2) fun r s' hq => ?_)
  cases r with
  | error e => exact (hq : False).elim
  | ok fl =>
    cases fl with
    | ret u => exact I2.after hq
    | next => exact False.elim hq
    | brk => exact False.elim hq
    | cont => exact False.elim hq
end
end Y

/-! Y6: texts, the rules told their table, wide ints, stars, lists or tuples. -/
namespace Y
open PySem PySem.Spec PyProof.Rows L2
/-! ### texts by their signs -/
abbrev S (l : List Nat) : Str := SX.S l
def stx (l : List Nat) : D := .str (S l)
theorem S_len (l : List Nat) : (S l).length = l.length := SX.S_len l
theorem sz100 {n : Nat} (h : n ≤ 100000) : n ≤ sizeLine := Nat.le_trans h (by decide)
theorem S_dec {a b : List Nat} : decide (S a = S b) = decide (a = b) := by
  by_cases h : a = b
  · simp [h]
  · have : ¬ S a = S b := fun e => h (SX.S_inj e)
    simp [h, this]
theorem S_cut (l : List Nat) (lo hi : Option Int) : cutS (S l) lo hi = S (cutD l lo hi) := by
  unfold cutS cutD
  rw [S_len]
theorem cutD_length {α : Type} (l : List α) (lo hi : Option Int) : (cutD l lo hi).length ≤ l.length := by
  unfold cutD
  rw [List.length_take, List.length_drop]; omega
theorem cut_from {α : Type} (l : List α) (k : Nat) : cutD l (some (k : Int)) none = l.drop k := by
  unfold cutD
  rw [HT.sIx_nat, HT.sIx_none]
  by_cases h : k ≤ l.length
  · rw [Nat.min_eq_left h, List.take_of_length_le (by rw [List.length_drop]; omega)]
  · rw [Nat.min_eq_right (by omega), List.drop_of_length_le (Nat.le_refl _), List.drop_of_length_le (by omega)]; simp
theorem cut_to {α : Type} (l : List α) (k : Nat) : cutD l none (some (k : Int)) = l.take k := by
  unfold cutD
  rw [HT.sIx_nat, HT.sIx_none, List.drop_zero, Nat.sub_zero]
  by_cases h : k ≤ l.length
  · rw [Nat.min_eq_left h]
  · rw [Nat.min_eq_right (by omega), List.take_of_length_le (Nat.le_refl _), List.take_of_length_le (by omega)]
theorem cut_mid {α : Type} (l : List α) (j k : Nat) : cutD l (some (j : Int)) (some (k : Int)) = (l.take k).drop j := by
  unfold cutD
  rw [HT.sIx_nat, HT.sIx_nat]
  apply List.ext_getElem?
  intro i
  simp only [List.getElem?_take, List.getElem?_drop]
  by_cases h : j ≤ l.length
  · rw [Nat.min_eq_left h]
    by_cases h2 : k ≤ l.length
    · rw [Nat.min_eq_left h2]
      by_cases h3 : i < k - j
      · rw [if_pos h3, if_pos (by omega)]
      · rw [if_neg h3, if_neg (by omega)]
    · rw [Nat.min_eq_right (by omega)]
      by_cases h3 : i < l.length - j
      · rw [if_pos h3, if_pos (by omega)]
      · rw [if_neg h3]
        split
        · rw [List.getElem?_eq_none (by omega)]
        · rfl
  · have e1 : min j l.length = l.length := Nat.min_eq_right (by omega)
    rw [e1, List.getElem?_eq_none (l := l) (i := l.length + i) (by omega)]
    have e : l[j + i]? = none := List.getElem?_eq_none (by omega)
    rw [e]; simp
section
variable {K : PySem.W.Frag} {env : List Slot} {ta tb te tc : TE} {d d1 d2 : D} {a b l : List Nat}
theorem ee_lenX (h : EvE K te env (.str (S l))) (hz : l.length ≤ 100000) : EvE K (tCB (rLen1 K) (tCons te tNil)) env (.int (l.length : Nat)) := by
  have := ee_lenS h (by rw [S_len]; exact sz100 hz)
  rw [S_len] at this
  exact this
theorem ee_catX (h1 : EvE K ta env (.str (S a))) (h2 : EvE K tb env (.str (S b))) (hz : a.length + b.length ≤ 100000) : EvE K (tOp (fun x y H Q => ∃ i j, x = .str i ∧ y = .str j ∧ i.length + j.length ≤ sizeLine ∧ Q (.str (i ++ j)) H) ta tb) env (.str (S (a ++ b))) := by
  have := ee_catS h1 h2 (by rw [S_len, S_len]; exact sz100 hz)
  rw [SX.S_cat] at this
  exact this
theorem ee_ixX {k : Int} {c : Nat} (h1 : EvE K ta env (.str (S l))) (h2 : EvE K tb env (.int k)) (hz : l.length ≤ 100000) (ha : atI l k = some c) : EvE K (tOp rIxS ta tb) env (.str (S [c])) :=
  ee_ixS h1 h2 (by rw [S_len]; exact sz100 hz) ha
theorem ee_slX {tl th : TO} {lo hi : Option Int} (h : EvE K te env (.str (S l))) (h1 : EvO K tl env lo) (h2 : EvO K th env hi) (hz : l.length ≤ 100000) : EvE K (tSl rSlS te tl th) env (.str (S (cutD l lo hi))) := by
  have := ee_slS h h1 h2 (by rw [S_len]; exact sz100 hz)
  rw [S_cut] at this
  exact this
theorem ee_splitX {c : Nat} (h1 : EvE K ta env (.str (S l))) (h2 : EvE K tb env (.str (S [c]))) (hc : c < 256) (hz : l.length ≤ 100000) :
    EvE K (tM1 (fun x xs H Q => ∃ a b, x = .str a ∧ xs = [.str b] ∧ (b.length == 0) = false ∧ a.length + 2 ≤ sizeLine ∧ rNewStrs (Txt.split a b) H Q) ta tb) env (.lst ((TL.spl [c] 0 [] l).map stx)) := by
  have := ee_split h1 h2 (by rw [S_len]; rfl) (by rw [S_len]; exact Nat.le_trans (Nat.add_le_add_right hz 2) (by decide))
  rw [SX.split_S (by simp) (by simp [hc]), List.map_map] at this
  exact this
theorem S_sum : ∀ ys : List (List Nat), ((ys.map S).map (·.length)).sum = (ys.map (·.length)).sum
  | [] => rfl
  | y :: ys => by
    show (S y).length + ((ys.map S).map (·.length)).sum = y.length + (ys.map (·.length)).sum
    rw [S_len, S_sum ys]
theorem ee_joinX {ys : List (List Nat)} (h1 : EvE K ta env (.str (S a))) (h2 : EvE K tb env (.lst (ys.map stx))) (hz : (ys.map (·.length)).sum + ys.length * a.length ≤ 100000) :
    EvE K (tM1 (fun x xs H Q => ∃ a p, ∃ ys : List Str, x = .str a ∧ xs = [.ref p] ∧ (SqL K H p (ys.map V.str) ∨ SqT K H p (ys.map V.str)) ∧ (ys.map (·.length)).sum + ys.length * a.length ≤ 16777216 ∧ Q (.str (Txt.join a ys)) H) ta tb) env (.str (S (TL.joinL a ys))) := by
  have e : ys.map stx = (ys.map S).map .str := by rw [List.map_map]; rfl
  rw [e] at h2
  have := ee_join h1 h2 (by rw [S_sum, List.length_map, S_len]; omega)
  rw [SX.join_S] at this
  exact this
theorem ei_strX (h : EvE K te env (.str (S l))) : EvI K (iStr te) env (l.map fun c => stx [c]) := by
  have := ei_str h
  unfold chs at this
  exact this
theorem ee_inX {c : Nat} (h1 : EvE K ta env (.str (S [c]))) (h2 : EvE K tb env (.str (S l))) : EvE K (tOp (fun x y H Q => ∃ (c : Nat) (z : Str), x = .str ⟨#[c]⟩ ∧ y = .str z ∧ Q (.bl (decide (c ∈ z.cps.toList))) H) ta tb) env (.bl (decide (c ∈ l))) := ee_inS h1 h2
theorem ee_ninX {c : Nat} (h1 : EvE K ta env (.str (S [c]))) (h2 : EvE K tb env (.str (S l))) : EvE K (tOp (fun x y H Q => ∃ (c : Nat) (z : Str), x = .str ⟨#[c]⟩ ∧ y = .str z ∧ Q (.bl (!decide (c ∈ z.cps.toList))) H) ta tb) env (.bl (!decide (c ∈ l))) := ee_ninS h1 h2
theorem ee_eqX (h1 : EvE K ta env (.str (S a))) (h2 : EvE K tb env (.str (S b))) : EvE K (tOp rEq ta tb) env (.bl (decide (a = b))) := by
  have := ee_eqS h1 h2
  rw [S_dec] at this
  exact this
theorem ee_neX (h1 : EvE K ta env (.str (S a))) (h2 : EvE K tb env (.str (S b))) : EvE K (tOp rNe ta tb) env (.bl (!decide (a = b))) := by
  have := ee_neS h1 h2
  rw [S_dec] at this
  exact this
theorem starts1 (l : List Nat) (c : Nat) : Txt.startswith (S l) (S [c]) = decide (l.head? = some c) := by
  unfold Txt.startswith
  rw [S_len, S_len, PySem.StrLaws.subAt_eq]
  cases l with
  | nil => simp
  | cons x r =>
    show (decide (0 + 1 ≤ r.length + 1) && ([x] == [c])) = decide (some x = some c)
    have e : decide (0 + 1 ≤ r.length + 1) = true := decide_eq_true (by omega)
    rw [e, Bool.true_and]
    by_cases h : x = c
    · subst h; simp
    · have h2 : ¬ some x = some c := fun z => h (Option.some.inj z)
      rw [decide_eq_false h2]
      simp [h]
theorem ee_startsX {c : Nat} (h1 : EvE K ta env (.str (S l))) (h2 : EvE K tb env (.str (S [c]))) : EvE K (tM1 (fun x xs H Q => ∃ a b, x = .str a ∧ xs = [.str b] ∧ Q (.bl (Txt.startswith a b)) H) ta tb) env (.bl (decide (l.head? = some c))) := by
  have := ee_startswith h1 h2
  rw [starts1] at this
  exact this
/-- a written text, by its signs -/
theorem ee_strX {s : Str} (h : s.cps.toList = l) : EvE K (tC (.str s)) env (.str (S l)) := by
  have e : s = S l := by subst h; exact (SX.S_tl s).symm
  rw [e]; exact ee_str
/-! isinstance of scalars -/
theorem ee_isi {v : V} {n : String} {t : String} {b : Bool} (h : EvE K te env d) (hv : sV d = some v) (ht : ∀ H, TyX K H v (.type t)) (hb : PySem.W.kitOne K (.type t) (.type n) = some b) :
    EvE K (tCB (rIsi K) (tCons te (tCons (tC (.ty n)) tNil))) env (.bl b) := ee_cb (ea_cons h (ea_cons (d := .v (.ty n)) ee_v ea_nil)) fun B F xs hs r Q q => by
  obtain ⟨x, y, rfl, r1, r2⟩ := reps2 r
  have := r1.sc hv; subst this
  unfold Rep at r2; subst r2
  exact ⟨x, _, _, _, b, rfl, .ty n, ht F, hb, q B F _ (Gr.refl hs) (rp_bl B)⟩
end
/-! ### the rules that name the written part, told it -/
section
variable (K : PySem.W.Frag) {X : Cx}
theorem k_call_len (h : X.K = K := by rfl) : CallR X (.builtin "len") (rLen1 K) := by subst h; exact call_len
theorem k_list_of (h : X.K = K := by rfl) : CallR X (.type "list") (rListOf K) := by subst h; exact call_list_of
theorem k_tuple_of (h : X.K = K := by rfl) : CallR X (.type "tuple") (rTupOf K) := by subst h; exact call_tuple_of
theorem k_all (h : X.K = K := by rfl) (hc : X.calm = true := by rfl) : CallR X (.builtin "all") (rAll K) := by subst h; exact cr_all hc
theorem k_any (h : X.K = K := by rfl) (hc : X.calm = true := by rfl) : CallR X (.builtin "any") (rAny K) := by subst h; exact cr_any hc
theorem k_sum (h : X.K = K := by rfl) (hc : X.calm = true := by rfl) : CallR X (.builtin "sum") (rSum K) := by subst h; exact cr_sum hc
theorem k_maxL (h : X.K = K := by rfl) (hc : X.calm = true := by rfl) : CallR X (.builtin "max") (rMax K) := by subst h; exact cr_max hc
theorem k_minL (h : X.K = K := by rfl) (hc : X.calm = true := by rfl) : CallR X (.builtin "min") (rMin K) := by subst h; exact cr_min hc
theorem k_isi (h : X.K = K := by rfl) : CallR X (.builtin "isinstance") (rIsi K) := by subst h; exact call_isi
theorem k_ix_list (h : X.K = K := by rfl) : IxR X (rIxL K) := by subst h; exact ix_list
theorem k_ix_tup (h : X.K = K := by rfl) : IxR X (rIxT K) := by subst h; exact ix_tup
theorem k_sl_list (h : X.K = K := by rfl) : SlR X (rSlL K) := by subst h; exact sl_list
theorem k_in_seq (h : X.K = K := by rfl) : OpR X (compareOp .In) (rIn K false) := by subst h; exact op_in_seq
theorem k_notIn_seq (h : X.K = K := by rfl) : OpR X (compareOp .NotIn) (rIn K true) := by subst h; exact op_notIn_seq
theorem k_eqD (hu : X.A.units + 64 < cLine) (h : X.K = K := by rfl) : OpR X (compareOp .Eq) (rEqD K) := by subst h; exact op_eqD hu
theorem k_neD (hu : X.A.units + 64 < cLine) (h : X.K = K := by rfl) : OpR X (compareOp .NotEq) (rNeD K) := by subst h; exact op_neD hu
theorem k_pi_list {tg e : Expr} {te : TE} (he : PE X e te) (h : X.K = K := by rfl) : PI X tg e (iList K te) := by subst h; exact pi_list he
theorem k_pi_tup {tg e : Expr} {te : TE} (he : PE X e te) (h : X.K = K := by rfl) : PI X tg e (iTup K te) := by subst h; exact pi_tup he
theorem k_pg_tup {es : List Expr} {k : Nat} {t : TGs} {n : Nat} {pos : Pos} (hc : X.calm = true) (h : PGs X es t) (hn : (assignEach es X.env).length = n := by rfl) (hst : (assignEach es X.env).findIdx? (·.1) = none := by rfl) (hK : X.K = K := by rfl) : PG X (.Tuple es k pos) (gTup K n t) := by
  subst hK; exact pg_tup hc h hn hst
theorem k_pg_unl {es : List Expr} {k : Nat} {t : TGs} {n : Nat} {pos : Pos} (hc : X.calm = true) (h : PGs X es t) (hn : (assignEach es X.env).length = n := by rfl) (hst : (assignEach es X.env).findIdx? (·.1) = none := by rfl) (hK : X.K = K := by rfl) : PG X (.Tuple es k pos) (gUnl K n t) := by
  subst hK; exact pg_unl hc h hn hst
theorem k_pi_enum {e : Expr} {ta : TA} {p pos tpos : Pos} {elts : List Expr} {kk : Nat} (hg : Gl X "enumerate") (hm : X.mg "enumerate" = none) (ha : PA X [e] ta) (hs : starEach [e] X.env = [(false, eval e X.env)] := by rfl) (hK : X.K = K := by rfl) :
    PI X (.Tuple elts kk tpos) (.Call (.Name "enumerate" p) [e] [] pos) (iEnum K ta) := by subst hK; exact pi_enum hg hm ha hs
theorem k_pi_zip {e e2 : Expr} {ta : TA} {p pos tpos : Pos} {elts : List Expr} {kk : Nat} (hg : Gl X "zip") (hm : X.mg "zip" = none) (ha : PA X [e, e2] ta)
    (hs : starEach [e, e2] X.env = (false, eval e X.env) :: starEach [e2] X.env := by rfl) (hpl : (backTo pos (starEach [e2] X.env)).any (·.1) = false := by rfl) (hK : X.K = K := by rfl) :
    PI X (.Tuple elts kk tpos) (.Call (.Name "zip" p) [e, e2] [] pos) (iZip K ta) := by subst hK; exact pi_zip hg hm ha hs hpl
theorem k_mt_join (h : X.K = K := by rfl) : MtR X "str.join" (fun x xs H Q => ∃ a p, ∃ ys : List Str, x = .str a ∧ xs = [.ref p] ∧ (SqL K H p (ys.map V.str) ∨ SqT K H p (ys.map V.str)) ∧ (ys.map (·.length)).sum + ys.length * a.length ≤ 16777216 ∧ Q (.str (Txt.join a ys)) H) := by
  subst h; exact mt_join
end
theorem atI_pos {α : Type} {l : List α} {k : Int} {x : α} (h0 : 0 ≤ k) (h : l[k.toNat]? = some x) : atI l k = some x := by
  have e : k = ((k.toNat : Nat) : Int) := by omega
  rw [e]; exact atI_nat h
theorem sum_ones {α : Type} : ∀ l : List α, (l.map fun _ => 1).sum = l.length
  | [] => rfl
  | x :: l => by
    show 1 + (l.map fun _ => 1).sum = l.length + 1
    rw [sum_ones l]; omega
theorem rng_nat (n : Nat) : rng 0 ((n : Nat) : Int).toNat = (List.range n).map (fun (i : Nat) => D.int (i : Int)) := by simp [rng]
section
variable {K : PySem.W.Frag} {env : List Slot} {te : TE}
/-- range(n), n a length -/
theorem ei_rngN {n : Nat} (h : EvE K te env (.int (n : Int))) (hn : n ≤ 100000) : EvI K (iRng1 (tCons te tNil)) env ((List.range n).map fun (i : Nat) => D.int (i : Int)) := by
  have := ei_rng1 h ⟨by omega, by omega⟩
  rw [rng_nat] at this
  exact this
end
theorem get_getD {α : Type} {l : List α} {i : Nat} {d : α} (h : i < l.length) : l[i]? = some (l.getD i d) := by simp [List.getD_eq_getElem?_getD, h]
open PySem PySem.Spec PyProof.Rows L2 StX
section
variable {X : Cx}
def CFd (_ j : Int) : Prop := j ≠ 0 ∧ j.natAbs.log2 < 9000
theorem op_fdvX : OpR X (binaryOp .FloorDiv) (rI CFd fun i j => .int (i.fdiv j)) := opI fun i j _ _ _ _ _ hc q => floordiv_int hc.1 q (.inl (PyProof.noPylong_of_log2 hc.2))
def rLcm : List V → Hp → VK → Prop := fun vs H Q => ∃ a b : Int, vs = [.int a, .int b] ∧ a.natAbs.log2 < 9000 ∧ b.natAbs.log2 < 9000 ∧ Q (.int ((Nat.lcm a.natAbs b.natAbs : Nat) : Int)) H
theorem lcm_fits {a b : Nat} (ha : a.log2 < 9000) (hb : b.log2 < 9000) : ((((Nat.lcm 1 a).lcm b : Nat) : Int)).natAbs.log2 < bitsLine := by
  rw [PySem.W.mc_lcm_one, Int.natAbs_natCast]
  have e : bitsLine = 134217728 := by decide
  have h1 : a < 2 ^ 9000 := Nat.lt_of_lt_of_le Nat.lt_log2_self (Nat.pow_le_pow_right (by decide) (by omega))
  have h2 : b < 2 ^ 9000 := Nat.lt_of_lt_of_le Nat.lt_log2_self (Nat.pow_le_pow_right (by decide) (by omega))
  have h3 : a.lcm b < 2 ^ 18000 := by
    refine Nat.lt_of_le_of_lt (PySem.W.mc_lcm_le a b) ?_
    rw [show 18000 = 9000 + 9000 from rfl, Nat.pow_add]
    exact Nat.mul_lt_mul'' h1 h2
  have := PySem.Flt.log2_lt_of (k := 18000) (by decide) h3
  omega
theorem cr_lcm : CallR X (.builtin "math.lcm") rLcm := by
  intro pins s σ H vs us Q I r h
  obtain ⟨a, b, rfl, ha, hb, q⟩ := h
  obtain ⟨t, u, rfl⟩ := Vals.int2 r
  have mx : ∀ x y : Nat, x.log2 < 9000 → y.log2 < 9000 → ¬ (max x y).log2 / 30 + 1 > 450 := fun x y hx hy => by
    rcases Nat.le_total x y with h | h
    · rw [Nat.max_eq_right h]; omega
    · rw [Nat.max_eq_left h]; omega
  exact call_function_meets PySem.W.MGF.kind_lcm PySem.W.MGF.plain_lcm PySem.W.MGF.entry_lcm (PySem.W.MGF.args_lcm _ _) (PySem.W.mg_run_lcm a t b u (mx 1 _ (by decide) ha) (mx _ _ ha hb) (lcm_fits ha hb)).meets
    ⟨.int _, H, I.tok _, ⟨_, rfl⟩, by rw [PySem.W.mc_lcm_one]; exact q⟩
/-- list + list, written ones too -/
def rCatS (K : PySem.W.Frag) : R2 := fun x y H Q => ∃ l b xs zs, x = .ref l ∧ y = .ref b ∧ SqL K H l xs ∧ SqL K H b zs ∧ xs.length + zs.length ≤ sizeLine ∧ ∀ p, H p = none → Q (.ref p) (upd H p (.lst (xs ++ zs)))
theorem op_catS : OpR X (binaryOp .Add) (rCatS X.K) := by
  intro pins s σ H x y v u Q I rx ry h
  obtain ⟨l, b, xs, zs, rfl, rfl, hH, hB, hz, q⟩ := h
  cases rx
  cases ry
  obtain ⟨its, r, ⟨⟨cls, dd, data, sl⟩, n, ho, hc, hd0, hd⟩, _⟩ := I.list hH
  obtain ⟨its2, r2, ⟨⟨cls2, dd2, data2, sl2⟩, n2, ho2, hc2, hd20, hd2⟩, _⟩ := I.list hB
  simp only at hc hd hc2 hd2
  subst hc hd hc2 hd2
  have hl1 := r.length
  have hl2 := r2.length
  refine concat_meets ⟨_, ho, rfl⟩ ⟨_, ho2, rfl⟩ noFill_list_add seq_list_add PySem.F.slot_list_add PySem.F.entry_list_add (PySem.F.args_list_add_2 _ _) (list_addW l b its.toArray its2.toArray n n2 dd dd2 sl sl2 (by rw [List.size_toArray, List.size_toArray]; omega)) ⟨ho, ho2, ?_⟩
  have ea : its.toArray ++ its2.toArray = (its ++ its2).toArray := by simp
  rw [ea]
  exact ⟨.ref _, _, I.lnew (t' := s.toks) (r.append r2) (by rw [List.length_append]; omega), rfl, q _ I.fresh⟩
end
theorem k_catS (K : PySem.W.Frag) {X : Cx} (h : X.K = K := by rfl) : OpR X (binaryOp .Add) (rCatS K) := by subst h; exact op_catS
theorem k_starA (K : PySem.W.Frag) {X : Cx} {e : Expr} {es : List Expr} {p : Pos} {te : TE} {t : TA} (he : PE X e te) (hr : PA X es t) (h : X.K = K := by rfl) (hs : starEach (.Starred e p :: es) X.env = (true, eval e X.env) :: starEach es X.env := by rfl) : PA X (.Starred e p :: es) (tStar K te t) := by subst h; exact pa_star he hr hs
section
variable {K : PySem.W.Frag} {env : List Slot} {ta tb te tc : TE} {d d1 d2 : D} {i j : Int}
theorem ee_fdv (h1 : EvE K ta env (.int i)) (h2 : EvE K tb env (.int j)) (hc : CFd i j) : EvE K (tOp (rI CFd fun i j => .int (i.fdiv j)) ta tb) env (.int (i.fdiv j)) := ee_I h1 h2 hc rp_int
theorem ee_mulW (h1 : EvE K ta env (.int i)) (h2 : EvE K tb env (.int j)) (hc : CMulW i j) : EvE K (tOp (rI CMulW fun i j => .int (i * j)) ta tb) env (.int (i * j)) := ee_I h1 h2 hc rp_int
theorem ee_gcd (h1 : EvE K ta env (.int i)) (h2 : EvE K tb env (.int j)) : EvE K (tCB rGcd (tCons ta (tCons tb tNil))) env (.int ((Nat.gcd i.natAbs j.natAbs : Nat) : Int)) := ee_cb (ea_cons h1 (ea_cons h2 ea_nil)) fun B F xs hs r Q q => by
  obtain ⟨x, y, rfl, r1, r2⟩ := reps2 r
  unfold Rep at r1 r2; subst r1; subst r2
  exact ⟨i, j, rfl, q B F _ (Gr.refl hs) (rp_int B)⟩
theorem ee_lcm (h1 : EvE K ta env (.int i)) (h2 : EvE K tb env (.int j)) (hi : i.natAbs.log2 < 9000) (hj : j.natAbs.log2 < 9000) : EvE K (tCB rLcm (tCons ta (tCons tb tNil))) env (.int ((Nat.lcm i.natAbs j.natAbs : Nat) : Int)) := ee_cb (ea_cons h1 (ea_cons h2 ea_nil)) fun B F xs hs r Q q => by
  obtain ⟨x, y, rfl, r1, r2⟩ := reps2 r
  unfold Rep at r1 r2; subst r1; subst r2
  exact ⟨i, j, rfl, hi, hj, q B F _ (Gr.refl hs) (rp_int B)⟩
theorem ee_abs (h1 : EvE K ta env (.int i)) : EvE K (tCB (fun xs H Q => ∃ i, xs = [.int i] ∧ Q (.int (if i < 0 then -i else i)) H) (tCons ta tNil)) env (.int (i.natAbs : Int)) := ee_cb (ea_cons h1 ea_nil) fun B F xs hs r Q q => by
  obtain ⟨x, rfl, r1⟩ := reps1 r
  unfold Rep at r1; subst r1
  have e : (if i < 0 then -i else i) = (i.natAbs : Int) := by split <;> omega
  refine ⟨i, rfl, ?_⟩
  rw [e]
  exact q B F _ (Gr.refl hs) (rp_int B)
theorem ee_bits (h1 : EvE K ta env (.int i)) : EvE K (tBits ta) env (.int (Builtin.Int.intBits i : Nat)) := fun B F σ hs vs Q q => h1 B F σ hs vs _ fun B1 F1 x g r => by
  unfold Rep at r; subst r
  exact ⟨i, rfl, q B1 F1 _ g (rp_int B1)⟩
theorem ea_starL {t : TA} {ds es : List D} (h1 : EvE K te env (.lst ds)) (h2 : EvA K t env es) : EvA K (tStar K te t) env (ds ++ es) := fun B F σ hs vs Q q => h1 B F σ hs vs _ fun B1 F1 x g r => by
  have r' := r
  unfold Rep at r'
  obtain ⟨a, ws, rfl, e1, e2⟩ := r'
  exact ⟨a, ws, rfl, .inr (g.f.seq e1), h2 B1 F1 σ g.f (vs.grow g) _ fun B2 F2 ys g2 r2 => q B2 F2 _ (g.trans g2) ((e2.mono g2.b).append r2)⟩
theorem ea_starT {t : TA} {ds es : List D} (h1 : EvE K te env (.tup ds)) (h2 : EvA K t env es) : EvA K (tStar K te t) env (ds ++ es) := fun B F σ hs vs Q q => h1 B F σ hs vs _ fun B1 F1 x g r => by
  have r' := r
  unfold Rep at r'
  obtain ⟨a, ws, rfl, e1, e2⟩ := r'
  exact ⟨a, ws, rfl, .inl (sqt_mono g.f e1), h2 B1 F1 σ g.f (vs.grow g) _ fun B2 F2 ys g2 r2 => q B2 F2 _ (g.trans g2) ((e2.mono g2.b).append r2)⟩
theorem en_cat {ds es : List D} (h1 : EvE K ta env (.lst ds)) (h2 : EvE K tb env (.lst es)) (hz : ds.length + es.length ≤ 100000) : EvN K (tOp (rCatS K) ta tb) env (ds ++ es) := fun B F σ hs vs Q q =>
  h1 B F σ hs vs _ fun B1 F1 x g1 r1 => h2 B1 F1 σ g1.f (vs.grow g1) _ fun B2 F2 y g2 r2 => by
    have r1 := r1.mono g2.b
    have g := g1.trans g2
    unfold Rep at r1 r2
    obtain ⟨a, ws, rfl, e1, e2⟩ := r1
    obtain ⟨b, zs, rfl, e3, e4⟩ := r2
    refine ⟨a, b, ws, zs, rfl, rfl, g2.f.seq e1, g2.f.seq e3, by rw [e2.len, e4.len]; exact Nat.le_of_lt (smallZ hz), fun p hp => ?_⟩
    exact en_new g hp (e2.append e4) q
theorem tru_len {ds : List D} {ws : List V} {H : Hp} (r : Reps K H ds ws) : (!ws.isEmpty) = !ds.isEmpty := by
  have := r.len
  cases ws <;> cases ds <;> simp_all
theorem et_truL {ds : List D} (h : EvE K te env (.lst ds)) : EvT K (fun σ H Q => te σ H fun x H' => ∃ k, TruV K x H' k ∧ Q k H') env (!ds.isEmpty) := fun B F σ hs vs Q q => h B F σ hs vs _ fun B1 F1 x g r => by
  unfold Rep at r
  obtain ⟨a, ws, rfl, e1, e2⟩ := r
  exact ⟨_, .inl ⟨ws, g.f.seq e1, (tru_len e2).symm⟩, q B1 F1 g⟩
theorem et_truT {ds : List D} (h : EvE K te env (.tup ds)) : EvT K (fun σ H Q => te σ H fun x H' => ∃ k, TruV K x H' k ∧ Q k H') env (!ds.isEmpty) := fun B F σ hs vs Q q => h B F σ hs vs _ fun B1 F1 x g r => by
  unfold Rep at r
  obtain ⟨a, ws, rfl, e1, e2⟩ := r
  exact ⟨_, .inr (.inl ⟨ws, sqt_mono g.f e1, (tru_len e2).symm⟩), q B1 F1 g⟩
end
theorem Reps.erase {K : PySem.W.Frag} {H : Hp} : ∀ {ds : List D} {vs : List V} (n : Nat), Reps K H ds vs → Reps K H (ds.eraseIdx n) (vs.eraseIdx n)
  | [], vs, n, h => by unfold Reps at h; subst h; simpa using Reps.nil
  | d :: ds, vs, 0, h => by
    unfold Reps at h
    obtain ⟨x, ws, rfl, h1, h2⟩ := h
    simpa using h2
  | d :: ds, vs, n + 1, h => by
    unfold Reps at h
    obtain ⟨x, ws, rfl, h1, h2⟩ := h
    simpa using Reps.cons h1 (Reps.erase n h2)
/-! ### lists or tuples -/
/-- data of a list or a tuple -/
def seqD (b : Bool) (ds : List D) : D := if b = true then .lst ds else .tup ds
section
variable {X : Cx}
def rIxQ (K : PySem.W.Frag) : R2 := fun x y H Q => rIxL K x y H Q ∨ rIxT K x y H Q
theorem k_ix_seq (K : PySem.W.Frag) (h : X.K = K := by rfl) : IxR X (rIxQ K) := by
  subst h
  intro value slice pins s σ H x y v u Q I rx ry h hs
  rcases h with h | h
  · exact ix_list value slice pins s σ H x y v u Q I rx ry h hs
  · exact ix_tup value slice pins s σ H x y v u Q I rx ry h hs
def iSeq (K : PySem.W.Frag) (tl : TE) : TI := fun σ H R => tl σ H fun x H1 => ∃ a, x = .ref a ∧ (((∃ xs, SqL K H1 a xs) ∧ R (Itl K a) H1) ∨ ((∃ xs, SqT K H1 a xs) ∧ R (Itt K a) H1))
theorem k_pi_seq (K : PySem.W.Frag) {tg l : Expr} {tl : TE} (hl : PE X l tl) (h : X.K = K := by rfl) : PI X tg l (iSeq K tl) := by
  subst h
  refine ⟨fun pins s σ H R I h => ?_⟩
  refine thn (hl.run pins s σ H _ I h) fun v s1 ⟨x, H1, I1, r1, q1⟩ => ?_
  obtain ⟨a, e, q1⟩ := q1
  subst e
  cases r1
  rcases q1 with ⟨⟨xs, hq⟩, q⟩ | ⟨⟨xs, hq⟩, q⟩
  · obtain ⟨its, rv, p, hz⟩ := I1.list hq
    refine wpAny_pyIter_list p.isList ?_
    refine ⟨s1.heap.objs.size, [s1.heap.objs.size], _, _, H1, rfl, I1.kept (t' := s1.toks) fun b o e => Heap.get?_push_of_some _ e, turn_list a _, ⟨_, Heap.get?_push_size _ rfl, rfl, rfl⟩, fun b hb => ?_, q⟩
    have e : b = s1.heap.objs.size := by simpa using hb
    subst e
    exact I1.fpOk (Nat.le_refl _) (I1.hok.fresh (Nat.le_refl _))
  · obtain ⟨its, rv, p, hz⟩ := I1.tuple hq
    refine wpAny_pyIter_tuple (show s1.heap.IsTuple a its.toArray from p) ?_
    refine ⟨s1.heap.objs.size, [s1.heap.objs.size], _, _, H1, rfl, I1.kept (t' := s1.toks) fun b o e => Heap.get?_push_of_some _ e, turn_tuple a _, ⟨_, Heap.get?_push_size _ rfl, rfl, rfl⟩, fun b hb => ?_, q⟩
    have e : b = s1.heap.objs.size := by simpa using hb
    subst e
    exact I1.fpOk (Nat.le_refl _) (I1.hok.fresh (Nat.le_refl _))
end
section
variable {K : PySem.W.Frag} {env : List Slot} {ta tb te tc : TE} {d d1 d2 : D}
theorem ee_ixQ {b : Bool} {ds : List D} {k : Int} (h1 : EvE K ta env (seqD b ds)) (h2 : EvE K tb env (.int k)) (ha : atI ds k = some d) : EvE K (tOp (rIxQ K) ta tb) env d := by
  refine ee_op h1 h2 fun B F x y hf r1 r2 Q q => ?_
  cases b with
  | true =>
    have r1 : Rep K B (.lst ds) x := r1
    unfold Rep at r1 r2; subst r2
    obtain ⟨a, vs, rfl, h1, h2⟩ := r1
    obtain ⟨m, e1, e2⟩ := atI_len (xs := vs) h2.len ha
    obtain ⟨z, e3, r3⟩ := h2.get e1
    exact .inl ⟨a, vs, k, z, rfl, rfl, hf.seq h1, e2 z e3, q B F _ (Gr.refl hf) r3⟩
  | false =>
    have r1 : Rep K B (.tup ds) x := r1
    unfold Rep at r1 r2; subst r2
    obtain ⟨a, vs, rfl, h1, h2⟩ := r1
    obtain ⟨m, e1, e2⟩ := atI_len (xs := vs) h2.len ha
    obtain ⟨z, e3, r3⟩ := h2.get e1
    exact .inr ⟨a, vs, k, z, rfl, rfl, sqt_mono hf h1, e2 z e3, q B F _ (Gr.refl hf) r3⟩
theorem ee_lenQ {b : Bool} {ds : List D} (h : EvE K te env (seqD b ds)) : EvE K (tCB (rLen1 K) (tCons te tNil)) env (.int ds.length) := by
  cases b with
  | true => exact ee_lenL h
  | false => exact ee_lenT h
theorem en_listQ {b : Bool} {ds : List D} (h : EvE K te env (seqD b ds)) : EvN K (tCB (rListOf K) (tCons te tNil)) env ds := by
  cases b with
  | true => exact en_listL h
  | false => exact en_listT h
theorem et_truQ {b : Bool} {ds : List D} (h : EvE K te env (seqD b ds)) : EvT K (fun σ H Q => te σ H fun x H' => ∃ k, TruV K x H' k ∧ Q k H') env (!ds.isEmpty) := by
  cases b with
  | true => exact et_truL h
  | false => exact et_truT h
theorem ei_seq {b : Bool} {ds : List D} (h : EvE K te env (seqD b ds)) : EvI K (iSeq K te) env ds := by
  cases b with
  | true =>
      intro B F σ hs vs R q
      refine h B F σ hs vs _ fun B1 F1 x g r => ?_
      have r0 : Rep K B1 (.lst ds) x := r
      unfold Rep at r0
      obtain ⟨a, ws, rfl, e1, e2⟩ := r0
      refine ⟨a, rfl, .inl ⟨⟨ws, g.f.seq e1⟩, q B1 F1 _ g ⟨fun F => SqL K F a ws, YAt ws, ?_, fun F hF => hF.seq e1, fun i B2 F2 x F3 s1 s2 y => ?_⟩⟩⟩
      · rw [← e2.len]; exact walk_list
      · obtain ⟨rfl, ey⟩ := y
        have hi : i < ds.length := by rw [← e2.len]; exact (List.getElem?_eq_some_iff.mp ey).1
        obtain ⟨z, e3, e4⟩ := e2.get (List.getElem?_eq_getElem hi)
        rw [ey] at e3; cases e3
        exact ⟨B2, ds[i], Gr.refl s2, List.getElem?_eq_getElem hi, e4.mono s1⟩
  | false =>
      intro B F σ hs vs R q
      refine h B F σ hs vs _ fun B1 F1 x g r => ?_
      have r0 : Rep K B1 (.tup ds) x := r
      unfold Rep at r0
      obtain ⟨a, ws, rfl, e1, e2⟩ := r0
      refine ⟨a, rfl, .inr ⟨⟨ws, sqt_mono g.f e1⟩, q B1 F1 _ g ⟨fun F => SqT K F a ws, YAt ws, ?_, fun F hF => sqt_mono hF e1, fun i B2 F2 x F3 s1 s2 y => ?_⟩⟩⟩
      · rw [← e2.len]; exact walk_tup
      · obtain ⟨rfl, ey⟩ := y
        have hi : i < ds.length := by rw [← e2.len]; exact (List.getElem?_eq_some_iff.mp ey).1
        obtain ⟨z, e3, e4⟩ := e2.get (List.getElem?_eq_getElem hi)
        rw [ey] at e3; cases e3
        exact ⟨B2, ds[i], Gr.refl s2, List.getElem?_eq_getElem hi, e4.mono s1⟩
theorem ei_zip {ds es : List D} (h : EvE K ta env (.lst ds)) (h2 : EvE K tb env (.lst es)) (hz : ds.length = es.length) : EvI K (iZip K (tCons ta (tCons tb tNil))) env ((ds.zip es).map fun q => D.tup [q.1, q.2]) := fun B F σ hs vs R q => (ea_cons h (ea_cons h2 ea_nil)) B F σ hs vs _ fun B1 F1 xs g r => by
  obtain ⟨x, y, rfl, r1, r2⟩ := reps2 r
  unfold Rep at r1 r2
  obtain ⟨a, ws, rfl, e1, e2⟩ := r1
  obtain ⟨b, zs, rfl, e3, e4⟩ := r2
  have l1 := e2.len
  have l2 := e4.len
  refine ⟨a, b, ws, zs, rfl, g.f.seq e1, g.f.seq e3, q B1 F1 _ g ⟨fun F => SqL K F a ws ∧ SqL K F b zs, fun i H x H' => i < ds.length ∧ YPair (fun i => ws[i]?) (fun i => zs[i]?) i H x H', ?_, fun F hF => ⟨hF.seq e1, hF.seq e3⟩, fun i B2 F2 x F3 s1 s2 y => ?_⟩⟩
  · have : ((ds.zip es).map fun q => D.tup [q.1, q.2]).length = ds.length := by simp [hz]
    rw [this]
    exact (walk_zip (by omega)).mono (fun _ h => h) fun i H x H' hi _ y => ⟨hi, y⟩
  · obtain ⟨hi, T, x1, y1, rfl, hT, rfl, h1, h2⟩ := y
    have h1 : ws[i]? = some x1 := h1
    have h2 : zs[i]? = some y1 := h2
    obtain ⟨z1, e5, e6⟩ := e2.get (List.getElem?_eq_getElem hi)
    obtain ⟨z2, e7, e8⟩ := e4.get (List.getElem?_eq_getElem (show i < es.length by omega))
    rw [h1] at e5; cases e5
    rw [h2] at e7; cases e7
    refine ⟨_, .tup [ds[i], es[i]], Gr.new s2 hT, ?_, rep_new_tup (s2.free hT) (Reps.cons (e6.mono s1) (Reps.cons (e8.mono s1) Reps.nil))⟩
    rw [List.getElem?_map, List.getElem?_eq_getElem (by simp; omega)]
    simp
end


theorem law_start {K : PySem.W.Frag} {H : Hp} {a : Addr} {ns : List Int} {R : List D → O → Prop} (hS : SqL K H a (ns.map V.int)) (h : R [.lst (ns.map .int)] (.fr (.bl true))) {E : XK} : spX K R [.ref a] H (fun v _ => v = .bl true) E :=
  ⟨H, [.lst (ns.map .int)], .fr (.bl true), Same.refl _, Reps.cons (by unfold Rep; exact ⟨a, _, rfl, hS, reps_ints ns⟩) Reps.nil, h, fun B' F' x P g w _ => by unfold Own at w; have := w.1; unfold Rep at this; exact this⟩
end Y

/-! X1: a def's mirror: what it computes, and what must hold on the way; blocks by their mirrors. -/
namespace Y
open PySem PySem.Spec PyProof.Rows L2
/-- a value, and what must hold so that it is reached -/
structure G (α : Type) where
  ok : Prop
  val : α
namespace G
variable {α β σ ρ τ : Type}
def p (a : α) : G α := ⟨True, a⟩
def b (m : G α) (f : α → G β) : G β := ⟨m.ok ∧ (f m.val).ok, (f m.val).val⟩
def lt (a : α) (f : α → G β) : G β := f a
def ite (c : Bool) (x y : G α) : G α := ⟨(c = true → x.ok) ∧ (c = false → y.ok), if c = true then x.val else y.val⟩
def a (c : Prop) (m : G α) : G α := ⟨c ∧ m.ok, m.val⟩
/-- a for that is not left -/
def fold : List α → σ → (α → σ → G σ) → G σ
  | [], s, _ => p s
  | x :: xs, s, f => b (f x s) fun s' => fold xs s' f
end G
/-- how a turn or a def is left -/
inductive Lv (ρ σ : Type) where
  | rt (r : ρ) | bk (s : σ) | ct (s : σ)
namespace G
variable {α β σ ρ τ : Type}
def turn (v : Lv ρ σ) (k : σ → G (Sum ρ σ)) : G (Sum ρ σ) := match v with
  | .rt r => p (.inl r)
  | .bk s => p (.inr s)
  | .ct s => k s
/-- a for that may be left -/
def loop : List α → σ → (α → σ → G (Lv ρ σ)) → G (Sum ρ σ)
  | [], s, _ => p (.inr s)
  | x :: xs, s, f => b (f x s) fun v => turn v fun s' => loop xs s' f
/-- a while, with fuel -/
def whl : Nat → (σ → G Bool) → (σ → G σ) → σ → G σ
  | 0, c, _, s => ⟨(c s).ok ∧ (c s).val = false, s⟩
  | n + 1, c, f, s => b (c s) fun t => ite t (b (f s) fun s' => whl n c f s') (p s)
def whlL : Nat → (σ → G Bool) → (σ → G (Lv ρ σ)) → σ → G (Sum ρ σ)
  | 0, c, _, s => ⟨(c s).ok ∧ (c s).val = false, .inr s⟩
  | n + 1, c, f, s => b (c s) fun t => ite t (b (f s) fun v => turn v fun s' => whlL n c f s') (p (.inr s))
/-- behind a loop that may be left by a return -/
def on (m : G (Sum ρ σ)) (w : ρ → τ) (k : σ → G τ) : G τ := ⟨m.ok ∧ (∀ s, m.val = .inr s → (k s).ok), match m.val with | .inl r => w r | .inr s => (k s).val⟩
/-- a comprehension -/
def comp (xs : List α) (c : α → G Bool) (f : α → G β) : G (List β) := ⟨xs.length ≤ 100000 ∧ ∀ x ∈ xs, (c x).ok ∧ ((c x).val = true → (f x).ok), (xs.filter fun x => (c x).val).map fun x => (f x).val⟩
def mapG (xs : List α) (f : α → G β) : G (List β) := ⟨xs.length ≤ 100000 ∧ ∀ x ∈ xs, (f x).ok, xs.map fun x => (f x).val⟩
theorem fold_val (xs : List α) (f : α → σ → G σ) : ∀ s, (fold xs s f).val = xs.foldl (fun s x => (f x s).val) s := by
  induction xs with
  | nil => intro s; rfl
  | cons x xs ih => intro s; exact ih _
/-- an invariant by the turn -/
theorem fold_ok (I : Nat → σ → Prop) (xs : List α) (f : α → σ → G σ) (s : σ) (h0 : I 0 s) (hs : ∀ i x s, xs[i]? = some x → I i s → (f x s).ok ∧ I (i + 1) (f x s).val) : (fold xs s f).ok ∧ I xs.length (fold xs s f).val := by
  induction xs generalizing s I with
  | nil => exact ⟨trivial, h0⟩
  | cons x xs ih =>
    obtain ⟨h1, h2⟩ := hs 0 x s rfl h0
    obtain ⟨h3, h4⟩ := ih (fun i => I (i + 1)) (f x s).val h2 (fun i y s' e hi => hs (i + 1) y s' (by simpa using e) hi)
    exact ⟨⟨h1, h3⟩, h4⟩
end G
/-! ### encoders -/
abbrev eL {α : Type} (e : α → D) : List α → D := fun xs => .lst (xs.map e)
abbrev eU {α : Type} (e : α → D) : List α → D := fun xs => .tup (xs.map e)
abbrev eQ {α : Type} (e : α → D) : Bool × List α → D := fun q => seqD q.1 (q.2.map e)
abbrev eT2 {α β : Type} (e : α → D) (f : β → D) : α × β → D := fun q => .tup [e q.1, f q.2]
abbrev eT3 {α β γ : Type} (e : α → D) (f : β → D) (g : γ → D) : α × β × γ → D := fun q => .tup [e q.1, f q.2.1, g q.2.2]
abbrev eT4 {α β γ δ : Type} (e : α → D) (f : β → D) (g : γ → D) (h : δ → D) : α × β × γ × δ → D := fun q => .tup [e q.1, f q.2.1, g q.2.2.1, h q.2.2.2]
abbrev eH2 {α β : Type} (e : α → D) (f : β → D) : α × β → D := fun q => .lst [e q.1, f q.2]
abbrev eH3 {α β γ : Type} (e : α → D) (f : β → D) (g : γ → D) : α × β × γ → D := fun q => .lst [e q.1, f q.2.1, g q.2.2]
abbrev eH4 {α β γ δ : Type} (e : α → D) (f : β → D) (g : γ → D) (h : δ → D) : α × β × γ × δ → D := fun q => .lst [e q.1, f q.2.1, g q.2.2.1, h q.2.2.2]
def eN {α : Type} (e : α → D) : Option α → D
  | none => .non
  | some a => e a
abbrev eU0 : Unit → D := fun _ => .non
abbrev eK {κ α : Type} (kk : κ → Key) (e : α → D) : List (κ × α) → D := fun d => .dic (d.map fun q => kk q.1) (d.map fun q => e q.2)
abbrev oF {α : Type} (e : α → D) : α → O := fun a => .fr (e a)
abbrev oL {α : Type} (o : α → O) : List α → O := fun xs => .ow .lst (xs.map o)
abbrev oT2 {α β : Type} (e : α → O) (f : β → O) : α × β → O := fun q => .ow .tup [e q.1, f q.2]
abbrev oT3 {α β γ : Type} (e : α → O) (f : β → O) (g : γ → O) : α × β × γ → O := fun q => .ow .tup [e q.1, f q.2.1, g q.2.2]
abbrev oK {κ α : Type} (kk : κ → Key) (e : α → D) : List (κ × α) → O := fun d => .ow (.dic (d.map fun q => kk q.1)) ((d.map fun q => e q.2).map .fr)
/-! frozen -/
def Frz {α : Type} (o : α → O) (e : α → D) : Prop := ∀ a, frz (o a) = e a
theorem fz_f {α : Type} {e : α → D} : Frz (oF e) e := fun a => by simp [frz]
theorem fz_l {α : Type} {o : α → O} {e : α → D} (h : Frz o e) : Frz (oL o) (eL e) := fun xs => by
  unfold frz
  rw [frzs_map, List.map_map]
  show D.lst _ = D.lst _
  congr 1
  exact List.map_congr_left fun a _ => h a
theorem fz_t2 {α β : Type} {o : α → O} {e : α → D} {o2 : β → O} {f : β → D} (h : Frz o e) (h2 : Frz o2 f) : Frz (oT2 o o2) (eT2 e f) := fun q => by
  unfold frz
  rw [frzs_map]
  show D.tup [_, _] = D.tup [_, _]
  rw [h, h2]
theorem fz_k {κ α : Type} {kk : κ → Key} {e : α → D} : Frz (oK kk e) (eK kk e) := fun d => by
  unfold frz
  rw [frzs_map, List.map_map]
  show D.dic _ _ = D.dic _ _
  congr 1
  conv => rhs; rw [← List.map_id (d.map fun q => e q.2)]
  exact List.map_congr_left fun a _ => by simp [frz]
/-! what does not hold lists -/
theorem ind_t2 {α β : Type} {e : α → D} {f : β → D} (h : ∀ a, Ind (e a)) (h2 : ∀ a, Ind (f a)) : ∀ q, Ind (eT2 e f q) := fun q => by
  show Ind (.tup _)
  unfold Ind Inds Inds Inds
  exact ⟨h _, h2 _, trivial⟩
theorem ind_t3 {α β γ : Type} {e : α → D} {f : β → D} {g : γ → D} (h : ∀ a, Ind (e a)) (h2 : ∀ a, Ind (f a)) (h3 : ∀ a, Ind (g a)) : ∀ q, Ind (eT3 e f g q) := fun q => by
  show Ind (.tup _)
  unfold Ind Inds Inds Inds Inds
  exact ⟨h _, h2 _, h3 _, trivial⟩
theorem ind_int : ∀ a, Ind (.int a) := fun a => by unfold Ind; trivial
theorem ind_bl : ∀ a, Ind (.bl a) := fun a => by unfold Ind; trivial
theorem ind_str : ∀ a, Ind (.str a) := fun a => by unfold Ind; trivial
theorem ind_n {α : Type} {e : α → D} (h : ∀ a, Ind (e a)) : ∀ a, Ind (eN e a)
  | none => by unfold eN Ind; trivial
  | some a => h a
theorem ino_f {α : Type} {e : α → D} (h : ∀ a, Ind (e a)) : ∀ a, IndO (oF e a) := fun a => by unfold IndO; exact h a
theorem ino_l {α : Type} {o : α → O} (h : ∀ a, IndO (o a)) : ∀ xs, IndO (oL o xs) := fun xs => by
  unfold IndO; exact indOs_map h xs
theorem ino_k {κ α : Type} {kk : κ → Key} {e : α → D} (h : ∀ a, Ind (e a)) : ∀ xs, IndO (oK kk e xs) := fun xs => by
  unfold IndO
  rw [List.map_map]
  exact indOs_map (fun a => by show IndO (.fr _); unfold IndO; exact h _) xs
theorem nt_f {α : Type} {e : α → D} : ∀ a, NoTup (oF e a) := fun a => by unfold NoTup; trivial
theorem nt_l {α : Type} {o : α → O} (h : ∀ a, NoTup (o a)) : ∀ xs, NoTup (oL o xs) := fun xs => by
  unfold NoTup; exact ⟨fun z => (by cases z), noTups_map h xs⟩
theorem nt_k {κ α : Type} {kk : κ → Key} {e : α → D} : ∀ xs, NoTup (oK kk e xs) := fun xs => by
  unfold NoTup
  refine ⟨fun z => (by cases z), ?_⟩
  rw [List.map_map]
  exact noTups_map (fun a => by show NoTup (.fr _); unfold NoTup; trivial) xs
/-! ### expressions -/
section
variable {K : PySem.W.Frag} {env : List Slot} {te ta tb : TE} {tt : TT} {α β : Type}
def XE (K : PySem.W.Frag) (te : TE) (env : List Slot) (m : G α) (e : α → D) : Prop := m.ok → EvE K te env (e m.val)
def XO (K : PySem.W.Frag) (te : TE) (env : List Slot) (m : G α) (o : α → O) : Prop := m.ok → EvX K te env (o m.val)
def XT (K : PySem.W.Frag) (tt : TT) (env : List Slot) (m : G Bool) : Prop := m.ok → EvT K tt env m.val
theorem xe_p {e : α → D} {v : α} (h : EvE K te env (e v)) : XE K te env (.p v) e := fun _ => h
theorem xe_c {e : α → D} {v : α} {C : Prop} (h : C → EvE K te env (e v)) : XE K te env ⟨C, v⟩ e := h
theorem xe_b {e1 : β → D} {e : α → D} {m : G β} {f : β → G α} (h : XE K ta env m e1) (k : ∀ a, EvE K ta env (e1 a) → XE K te env (f a) e) : XE K te env (m.b f) e := fun ok => k _ (h ok.1) ok.2
theorem xe_a {e : α → D} {C : Prop} {m : G α} (h : C → XE K te env m e) : XE K te env (.a C m) e := fun ok => h ok.1 ok.2
theorem xo_a {o : α → O} {C : Prop} {m : G α} (h : C → XO K te env m o) : XO K te env (.a C m) o := fun ok => h ok.1 ok.2
theorem xt_a {C : Prop} {m : G Bool} (h : C → XT K tt env m) : XT K tt env (.a C m) := fun ok => h ok.1 ok.2
theorem xe_bt {e : α → D} {m : G Bool} {f : Bool → G α} (h : XT K tt env m) (k : ∀ a, EvT K tt env a → XE K te env (f a) e) : XE K te env (m.b f) e := fun ok => k _ (h ok.1) ok.2
theorem xe_bo {o : β → O} {e : α → D} {m : G β} {f : β → G α} (h : XO K ta env m o) (k : ∀ a, EvX K ta env (o a) → XE K te env (f a) e) : XE K te env (m.b f) e := fun ok => k _ (h ok.1) ok.2
theorem xe_if {e : α → D} {c : Bool} {x y : G α} (h : EvT K tt env c) (h1 : XE K ta env x e) (h2 : XE K tb env y e) : XE K (tIf tt ta tb) env (.ite c x y) e := fun ok => by
  show EvE K _ env (e (if c = true then x.val else y.val))
  refine ee_ifE h (fun hc => ?_) (fun hc => ?_)
  · rw [if_pos hc]; exact h1 (ok.1 hc)
  · rw [if_neg (by rw [hc]; decide)]; exact h2 (ok.2 hc)
theorem xo_p {o : α → O} {v : α} (h : EvX K te env (o v)) : XO K te env (.p v) o := fun _ => h
theorem xo_c {o : α → O} {v : α} {C : Prop} (h : C → EvX K te env (o v)) : XO K te env ⟨C, v⟩ o := h
theorem xo_b {e1 : β → D} {o : α → O} {m : G β} {f : β → G α} (h : XE K ta env m e1) (k : ∀ a, EvE K ta env (e1 a) → XO K te env (f a) o) : XO K te env (m.b f) o := fun ok => k _ (h ok.1) ok.2
theorem xo_bt {o : α → O} {m : G Bool} {f : Bool → G α} (h : XT K tt env m) (k : ∀ a, EvT K tt env a → XO K te env (f a) o) : XO K te env (m.b f) o := fun ok => k _ (h ok.1) ok.2
theorem xo_bo {o1 : β → O} {o : α → O} {m : G β} {f : β → G α} (h : XO K ta env m o1) (k : ∀ a, EvX K ta env (o1 a) → XO K te env (f a) o) : XO K te env (m.b f) o := fun ok => k _ (h ok.1) ok.2
theorem xt_p {v : Bool} (h : EvT K tt env v) : XT K tt env (.p v) := fun _ => h
theorem xt_c {v : Bool} {C : Prop} (h : C → EvT K tt env v) : XT K tt env ⟨C, v⟩ := h
theorem xt_b {e1 : β → D} {m : G β} {f : β → G Bool} (h : XE K ta env m e1) (k : ∀ a, EvE K ta env (e1 a) → XT K tt env (f a)) : XT K tt env (m.b f) := fun ok => k _ (h ok.1) ok.2
theorem xt_bt {tt' : TT} {m : G Bool} {f : Bool → G Bool} (h : XT K tt' env m) (k : ∀ a, EvT K tt' env a → XT K tt env (f a)) : XT K tt env (m.b f) := fun ok => k _ (h ok.1) ok.2
theorem xt_bo {o1 : β → O} {m : G β} {f : β → G Bool} (h : XO K ta env m o1) (k : ∀ a, EvX K ta env (o1 a) → XT K tt env (f a)) : XT K tt env (m.b f) := fun ok => k _ (h ok.1) ok.2
theorem xt_and {tu : TT} {c : Bool} {y : G Bool} (h : EvT K tt env c) (h2 : XT K tu env y) : XT K (tAnd tt tu) env (.ite c y (.p false)) := fun ok => by
  have := et_and (b := y.val) h fun hc => h2 (ok.1 hc)
  have e : (c && y.val) = (if c = true then y.val else false) := by cases c <;> rfl
  rw [e] at this
  exact this
theorem xt_or {tu : TT} {c : Bool} {y : G Bool} (h : EvT K tt env c) (h2 : XT K tu env y) : XT K (tOr tt tu) env (.ite c (.p true) y) := fun ok => by
  have := et_or (b := y.val) h fun hc => h2 (ok.2 hc)
  have e : (c || y.val) = (if c = true then true else y.val) := by cases c <;> rfl
  rw [e] at this
  exact this
theorem xe_andV {c : Bool} {y : G Bool} (h : EvE K ta env (.bl c)) (h2 : XE K tb env y .bl) : XE K (tAndV ta tb) env (.ite c y (.p false)) .bl := fun ok => by
  have := ee_andV (b := y.val) h fun hc => h2 (ok.1 hc)
  have e : (c && y.val) = (if c = true then y.val else false) := by cases c <;> rfl
  rw [e] at this
  exact this
theorem xe_orV {c : Bool} {y : G Bool} (h : EvE K ta env (.bl c)) (h2 : XE K tb env y .bl) : XE K (tOrV ta tb) env (.ite c (.p true) y) .bl := fun ok => by
  have := ee_orV (b := y.val) h fun hc => h2 (ok.2 hc)
  have e : (c || y.val) = (if c = true then true else y.val) := by cases c <;> rfl
  rw [e] at this
  exact this
theorem EvX.ev {o : α → O} {e : α → D} {v : α} (h : EvX K te env (o v)) (f : Frz o e) : EvE K te env (e v) := by
  have := h.e
  rw [f v] at this
  exact this
theorem XO.e {o : α → O} {e : α → D} {m : G α} (h : XO K te env m o) (f : Frz o e) : XE K te env m e := fun ok => (h ok).ev f
/-- a list of new things -/
theorem ox_f {e : α → D} {v : α} (h : EvE K te env (e v)) : EvX K te env (oF e v) := h.x
theorem xo_f {e : α → D} {m : G α} (h : XE K te env m e) : XO K te env m (oF e) := fun ok => (h ok).x
/-- comprehensions, typed -/
theorem xo_comp {wi : TI} {g : TG} {vs : List Nat} {rep : α → D} {xs : List α} {o : β → O} {c : α → G Bool} {f : α → G β} (us : α → List (Nat × D)) (hi : EvI K wi env (xs.map rep))
    (hg : ∀ x, EvG K g (rep x) (us x)) (hj : ∀ x, ∀ j ∈ (us x).map (·.1), j ∈ vs) (ht : ∀ x, XT K tt (sets (wipeE env vs) (us x)) (c x)) (he : ∀ x, XO K te (sets (wipeE env vs) (us x)) (f x) o) : XO K (tLc wi g tt te vs) env (.comp xs c f) (oL o) := fun ok => by
  have := ex_lcF (K := K) (te := te) (tt := tt) (g := g) (vs := vs) us (fun x => (c x).val) (fun x => o (f x).val) hi ok.1 (fun x _ => hg x) (fun x _ => hj x) (fun x hx => ht x (ok.2 x hx).1) (fun x hx hc => he x ((ok.2 x hx).2 hc))
  show EvX K _ env (.ow .lst (((xs.filter fun x => (c x).val).map fun x => (f x).val).map o))
  rw [List.map_map]
  exact this
theorem xo_map {wi : TI} {g : TG} {vs : List Nat} {rep : α → D} {xs : List α} {o : β → O} {f : α → G β} (us : α → List (Nat × D)) (hi : EvI K wi env (xs.map rep))
    (hg : ∀ x, EvG K g (rep x) (us x)) (hj : ∀ x, ∀ j ∈ (us x).map (·.1), j ∈ vs) (he : ∀ x, XO K te (sets (wipeE env vs) (us x)) (f x) o) : XO K (tLc wi g tYes te vs) env (.mapG xs f) (oL o) := fun ok => by
  have := ex_lcF (K := K) (te := te) (tt := tYes) (g := g) (vs := vs) us (fun x => true) (fun x => o (f x).val) hi ok.1 (fun x _ => hg x) (fun x _ => hj x) (fun x hx => et_yes) (fun x hx _ => he x (ok.2 x hx))
  show EvX K _ env (.ow .lst ((xs.map fun x => (f x).val).map o))
  rw [List.map_map]
  have e : List.filter (fun _ => true) xs = xs := by simp
  rw [e] at this
  exact this
end
/-! ### blocks -/
section
variable {K : PySem.W.Frag} {env : List Slot} {te ta tb : TE} {tt : TT} {t u A C : TS} {α β σ ρ τ : Type}
/-- a statement that is not left -/
def St (K : PySem.W.Frag) (t : TS) (env : List Slot) (m : G σ) (N : σ → List Slot) : Prop := ∀ H0 H1 E, m.ok → Nx K H0 H1 E.nx (N m.val) → Go K H0 H1 t E env
abbrev Phi (τ : Type) := Hp → Hp → Ends → τ → Prop
def Blk (K : PySem.W.Frag) (T : Ends → Prop) (Φ : Phi τ) (t : TS) (env : List Slot) (m : G τ) : Prop := ∀ H0 H1 E, T E → m.ok → Φ H0 H1 E m.val → Go K H0 H1 t E env
def PR (K : PySem.W.Frag) (o : ρ → O) : Phi ρ := fun H0 H1 E r => RtX K H0 H1 E.rt (o r)
def PS (K : PySem.W.Frag) (L : σ → List Slot) : Phi σ := fun H0 H1 E s => Nx K H0 H1 E.nx (L s)
def PL (K : PySem.W.Frag) (o : ρ → O) (L : σ → List Slot) : Phi (Lv ρ σ) := fun H0 H1 E v => match v with
  | .rt r => RtX K H0 H1 E.rt (o r)
  | .bk s => Nx K H0 H1 E.bk (L s)
  | .ct s => Nx K H0 H1 E.ct (L s)
def TyA : Ends → Prop := fun _ => True
def TyL : Ends → Prop := fun E => E.nx = E.ct
def TyR : Ends → Prop := fun E => E.nx = fun _ H' => E.rt .non H'
/-- it does not hang on what follows -/
def Ni (Φ : Phi τ) : Prop := ∀ H0 H1 E n v, Φ H0 H1 E v → Φ H0 H1 { E with nx := n } v
theorem ni_r {o : ρ → O} : Ni (PR K o) := fun _ _ _ _ _ h => h
theorem ni_l {o : ρ → O} {L : σ → List Slot} : Ni (PL K o L) := fun _ _ _ _ v h => by cases v <;> exact h
variable {T : Ends → Prop} {Φ : Phi τ}
theorem xb_cons {m : G σ} {N : σ → List Slot} {k : σ → G τ} (h : St K t env m N) (hk : ∀ s, Blk K T Φ u (N s) (k s)) : Blk K T Φ (tSeq t u) env (m.b k) := fun H0 H1 E hT ok hΦ =>
  h H0 H1 { E with nx := u E } ok.1 (hk _ H0 H1 E hT ok.2 hΦ)
theorem xb_let {v : σ} {N : σ → List Slot} {k : σ → G τ} (h : St K t env (.p v) N) (hk : ∀ s, Blk K T Φ u (N s) (k s)) : Blk K T Φ (tSeq t u) env (.lt v k) := fun H0 H1 E hT ok hΦ =>
  h H0 H1 { E with nx := u E } trivial (hk v H0 H1 E hT ok hΦ)
theorem xb_b {e1 : β → D} {m : G β} {f : β → G τ} (h : XE K ta env m e1) (k : ∀ a, EvE K ta env (e1 a) → Blk K T Φ t env (f a)) : Blk K T Φ t env (m.b f) := fun H0 H1 E hT ok hΦ => k _ (h ok.1) H0 H1 E hT ok.2 hΦ
theorem xb_a {C : Prop} {m : G τ} (h : C → Blk K T Φ t env m) : Blk K T Φ t env (.a C m) := fun H0 H1 E hT ok hΦ => h ok.1 H0 H1 E hT ok.2 hΦ
theorem xb_bt {m : G Bool} {f : Bool → G τ} (h : XT K tt env m) (k : ∀ a, EvT K tt env a → Blk K T Φ t env (f a)) : Blk K T Φ t env (m.b f) := fun H0 H1 E hT ok hΦ => k _ (h ok.1) H0 H1 E hT ok.2 hΦ
theorem xb_bo {o : β → O} {m : G β} {f : β → G τ} (h : XO K ta env m o) (k : ∀ a, EvX K ta env (o a) → Blk K T Φ t env (f a)) : Blk K T Φ t env (m.b f) := fun H0 H1 E hT ok hΦ => k _ (h ok.1) H0 H1 E hT ok.2 hΦ
theorem xb_leave {c : Bool} {x y : G τ} (ni : Ni Φ) (h : EvT K tt env c) (h1 : Blk K TyA Φ A env x) (h2 : Blk K T Φ u env y) : Blk K T Φ (tSeq (tIfS tt A tNext) u) env (.ite c x y) := fun H0 H1 E hT ok hΦ => by
  refine go_if (E := { E with nx := u E }) h (fun hc => ?_) (fun hc => ?_)
  · have hv : (G.ite c x y).val = x.val := by show (if c = true then _ else _) = _; rw [if_pos hc]
    rw [hv] at hΦ
    exact h1 H0 H1 _ trivial (ok.1 hc) (ni _ _ _ _ _ hΦ)
  · have hv : (G.ite c x y).val = y.val := by show (if c = true then _ else _) = _; rw [if_neg (by rw [hc]; decide)]
    rw [hv] at hΦ
    exact h2 H0 H1 E hT (ok.2 hc) hΦ
theorem xb_if {c : Bool} {x y : G τ} (h : EvT K tt env c) (h1 : Blk K T Φ A env x) (h2 : Blk K T Φ C env y) : Blk K T Φ (tIfS tt A C) env (.ite c x y) := fun H0 H1 E hT ok hΦ => by
  refine go_if h (fun hc => ?_) (fun hc => ?_)
  · have hv : (G.ite c x y).val = x.val := by show (if c = true then _ else _) = _; rw [if_pos hc]
    rw [hv] at hΦ
    exact h1 H0 H1 E hT (ok.1 hc) hΦ
  · have hv : (G.ite c x y).val = y.val := by show (if c = true then _ else _) = _; rw [if_neg (by rw [hc]; decide)]
    rw [hv] at hΦ
    exact h2 H0 H1 E hT (ok.2 hc) hΦ
theorem xb_freeze (i : Nat) {o : O} {d : D} {m : G τ} (e : env[i]? = some (.own o)) (hd : frz o = d) (h : Blk K T Φ t (env.set i (.val d)) m) : Blk K T Φ t env m := fun H0 H1 E hT ok hΦ => nx_freeze i e (by rw [hd]; exact h H0 H1 E hT ok hΦ)
theorem xb_sub {env' : List Slot} {m : G τ} (s : Sub env env') (h : Blk K T Φ t env' m) : Blk K T Φ t env m := fun H0 H1 E hT ok hΦ => nx_sub s (h H0 H1 E hT ok hΦ)
theorem xr_ret {o : ρ → O} {r : ρ} (h : EvX K te env (o r)) : Blk K T (PR K o) (tRet te) env (.p r) := fun H0 H1 E _ _ hΦ => go_ret h hΦ
theorem xr_retM {o : ρ → O} {r : ρ} {L : List Nat} (h : EvM K te env (o r) L) : Blk K T (PR K o) (tRet te) env (.p r) := fun H0 H1 E _ _ hΦ => go_retM h hΦ
theorem xr_end {o : ρ → O} {r : ρ} (ho : o r = .fr .non) : Blk K TyR (PR K o) tNext env (.p r) := fun H0 H1 E hT _ hΦ => by
  have hΦ : RtX K H0 H1 E.rt (o r) := hΦ
  rw [ho] at hΦ
  have := nx_none (K := K) (env := env) hΦ
  show Nx K H0 H1 E.nx env
  rw [hT]; exact this
theorem xl_ret {o : ρ → O} {L : σ → List Slot} {r : ρ} (h : EvX K te env (o r)) : Blk K T (PL K o L) (tRet te) env (.p (.rt r)) := fun H0 H1 E _ _ hΦ => go_ret h hΦ
theorem xl_retM {o : ρ → O} {L : σ → List Slot} {r : ρ} {C : List Nat} (h : EvM K te env (o r) C) : Blk K T (PL K o L) (tRet te) env (.p (.rt r)) := fun H0 H1 E _ _ hΦ => go_retM h hΦ
theorem xl_bk {o : ρ → O} {L : σ → List Slot} {s : σ} (h : Sub env (L s)) : Blk K T (PL K o L) tBreak env (.p (.bk s)) := fun H0 H1 E _ _ hΦ => nx_sub h hΦ
theorem xl_ct {o : ρ → O} {L : σ → List Slot} {s : σ} (h : Sub env (L s)) : Blk K T (PL K o L) tCont env (.p (.ct s)) := fun H0 H1 E _ _ hΦ => nx_sub h hΦ
theorem xl_next {o : ρ → O} {L : σ → List Slot} {s : σ} (h : Sub env (L s)) : Blk K TyL (PL K o L) tNext env (.p (.ct s)) := fun H0 H1 E hT _ hΦ => by
  have hΦ : Nx K H0 H1 E.ct (L s) := hΦ
  rw [← hT] at hΦ
  exact nx_sub h hΦ
theorem xs_next {L : σ → List Slot} {s : σ} (h : Sub env (L s)) : Blk K T (PS K L) tNext env (.p s) := fun H0 H1 E _ _ hΦ => nx_sub h hΦ
theorem xl_one {o : ρ → O} {L : σ → List Slot} {m : G β} {N : β → List Slot} {g : β → σ} (h : St K t env m N) (hs : ∀ s, Sub (N s) (L (g s))) : Blk K TyL (PL K o L) t env (m.b fun s => .p (.ct (g s))) := fun H0 H1 E hT ok hΦ => by
  have hΦ : Nx K H0 H1 E.ct (L (g m.val)) := hΦ
  rw [← hT] at hΦ
  exact h H0 H1 E ok.1 (nx_sub (hs _) hΦ)
theorem xs_one {L : σ → List Slot} {m : G β} {N : β → List Slot} {g : β → σ} (h : St K t env m N) (hs : ∀ s, Sub (N s) (L (g s))) : Blk K T (PS K L) t env (m.b fun s => .p (g s)) := fun H0 H1 E hT ok hΦ =>
  h H0 H1 E ok.1 (nx_sub (hs _) hΦ)
theorem xr_one {o : ρ → O} {m : G β} {N : β → List Slot} {r : ρ} (ho : o r = .fr .non) (h : St K t env m N) : Blk K TyR (PR K o) t env (m.b fun _ => .p r) := fun H0 H1 E hT ok hΦ => by
  have hΦ : RtX K H0 H1 E.rt (o r) := hΦ
  rw [ho] at hΦ
  refine h H0 H1 E ok.1 ?_
  rw [hT]; exact nx_none hΦ
/-! statements -/
theorem st_asg {i : Nat} {e : σ → D} {v : σ} (h : EvE K te env (e v)) : St K (tAsg te (gName i)) env (.p v) (fun x => env.set i (.val (e x))) := fun H0 H1 E _ k => go_asg h k
theorem st_own {i : Nat} {o : σ → O} {v : σ} (h : EvX K te env (o v)) : St K (tAsg te (gName i)) env (.p v) (fun x => env.set i (.own (o x))) := fun H0 H1 E _ k => go_own h k
theorem st_asgG {g : TG} {e : σ → D} {us : σ → List (Nat × D)} {v : σ} (h : EvE K te env (e v)) (hg : ∀ v, EvG K g (e v) (us v)) : St K (tAsg te g) env (.p v) (fun x => sets env (us x)) := fun H0 H1 E _ k => go_asgG h (hg v) k
theorem st_par {i j : Nat} {t : TA} {e : σ → D} {f : τ → D} {v : σ} {w : τ} (h : EvA K t env [e v, f w]) : St K (tPar i j t) env (.p (v, w)) (fun x => (env.set i (.val (e x.1))).set j (.val (f x.2))) := fun H0 H1 E _ k => go_par h k
theorem st_drop {e : σ → D} {v : σ} (h : EvE K te env (e v)) : St K (tDrop te) env (.p v) (fun _ => env) := fun H0 H1 E _ k => go_drop h k
theorem st_aug {i : Nat} {ti : TIp} {d1 d2 : D} {e : σ → D} {v : σ} (hv : env[i]? = some (.val d1)) (h : EvE K te env d2)
    (hr : ∀ B F x y, Same B F → Rep K B d1 x → Rep K B d2 y → ∀ Q : VK, (∀ B' F' z, Gr B F B' F' → Rep K B' (e v) z → Q z F') → ti x y F Q) : St K (tAug i te ti) env (.p v) (fun x => env.set i (.val (e x))) := fun H0 H1 E _ k => go_aug hv h hr k
theorem st_if {c : Bool} {x y : G σ} {N : σ → List Slot} (h : EvT K tt env c) (h1 : Blk K TyA (PS K N) A env x) (h2 : Blk K TyA (PS K N) C env y) : St K (tIfS tt A C) env (.ite c x y) N := fun H0 H1 E ok k => by
  refine go_if h (fun hc => ?_) (fun hc => ?_)
  · have hv : (G.ite c x y).val = x.val := by show (if c = true then _ else _) = _; rw [if_pos hc]
    rw [hv] at k
    exact h1 H0 H1 E trivial (ok.1 hc) k
  · have hv : (G.ite c x y).val = y.val := by show (if c = true then _ else _) = _; rw [if_neg (by rw [hc]; decide)]
    rw [hv] at k
    exact h2 H0 H1 E trivial (ok.2 hc) k
theorem st_b {e1 : β → D} {m : G β} {f : β → G σ} {N : σ → List Slot} (h : XE K ta env m e1) (k : ∀ a, EvE K ta env (e1 a) → St K t env (f a) N) : St K t env (m.b f) N := fun H0 H1 E ok q => k _ (h ok.1) H0 H1 E ok.2 q
theorem st_bt {m : G Bool} {f : Bool → G σ} {N : σ → List Slot} (h : XT K tt env m) (k : ∀ a, EvT K tt env a → St K t env (f a) N) : St K t env (m.b f) N := fun H0 H1 E ok q => k _ (h ok.1) H0 H1 E ok.2 q
theorem st_bo {o : β → O} {m : G β} {f : β → G σ} {N : σ → List Slot} (h : XO K ta env m o) (k : ∀ a, EvX K ta env (o a) → St K t env (f a) N) : St K t env (m.b f) N := fun H0 H1 E ok q => k _ (h ok.1) H0 H1 E ok.2 q
/-- a list of one's own grows -/
theorem st_app {to : TE} {i : Nat} {o : O} {js : List Nat} {xs : List O} {o2 : O} {on : σ → O} {v : σ} {C : Prop} (e : env[i]? = some (.own o)) (hl : C → EvL K to env i js) (hn : C → nodeAt o js = some (.ow .lst xs)) (h : C → EvX K te env o2) (hz : C → xs.length ≤ 100000) (he : C → setAt o js (.ow .lst (xs ++ [o2])) = on v) :
    St K (tDrop (tBM K "list" rAppend to (tCons te tNil))) env ⟨C, v⟩ (fun x => env.set i (.own (on x))) := fun H0 H1 E c k => go_app e (hl c) (hn c) (h c) (hz c) (by rw [he c]; exact k)
theorem st_setL {to tk : TE} {i : Nat} {o : O} {js : List Nat} {xs : List O} {o2 : O} {k : Int} {j : Nat} {on : σ → O} {v : σ} {C : Prop} (e : env[i]? = some (.own o)) (hl : C → EvL K to env i js) (hn : C → nodeAt o js = some (.ow .lst xs)) (h : C → EvX K te env o2) (hk : EvE K tk env (.int k)) (hj : C → ixN xs.length k = some j) (he : C → setAt o js (.ow .lst (xs.set j o2)) = on v) :
    St K (tAsg te (gSub to tk rSetL)) env ⟨C, v⟩ (fun x => env.set i (.own (on x))) := fun H0 H1 E c q => go_setL e (hl c) (hn c) (h c) hk (hj c) (by rw [he c]; exact q)
theorem st_putD {to tk : TE} {i : Nat} {o : O} {js : List Nat} {ks : List Key} {xs : List O} {k : Key} {d : D} {on : σ → O} {v : σ} {C : Prop} (e : env[i]? = some (.own o)) (hl : C → EvL K to env i js) (hn : C → nodeAt o js = some (.ow (.dic ks) xs)) (h : EvE K te env d) (hk : EvE K tk env (kD k)) (hz : C → ks.length ≤ 100000) (he : C → setAt o js (.ow (.dic (putKs ks k)) (putDs ks xs k (.fr d))) = on v) :
    St K (tAsg te (gSub to tk rSetD)) env ⟨C, v⟩ (fun x => env.set i (.own (on x))) := fun H0 H1 E c q => go_putD e (hl c) (hn c) h hk (hz c) (by rw [he c]; exact q)
/-! loops -/
theorem st_fold {wi : TI} {g : TG} {rep : α → D} {xs : List α} {s0 : σ} {f : α → σ → G σ} {L : σ → List Slot} (us : α → List (Nat × D)) (hi : EvI K wi env (xs.map rep)) (h0 : Sub env (L s0)) (hg : ∀ x, EvG K g (rep x) (us x))
    (hb : ∀ x s, Blk K TyA (PS K L) t (sets (L s) (us x)) (f x s)) : St K (tFor wi g t) env (.fold xs s0 f) L := fun H0 H1 E ok k => by
  -- the state behind the first i turns
  let S : Nat → σ := fun i => (G.fold (xs.take i) s0 f).val
  have key : ∀ (xs : List α) (s0 : σ), (G.fold xs s0 f).ok → ∀ i x, xs[i]? = some x → (f x (G.fold (xs.take i) s0 f).val).ok ∧ (f x (G.fold (xs.take i) s0 f).val).val = (G.fold (xs.take (i + 1)) s0 f).val := by
    intro xs
    induction xs with
    | nil => intro s0 _ i x e; simp at e
    | cons y ys ih =>
      intro s0 ok i x e
      cases i with
      | zero => simp at e; subst e; exact ⟨ok.1, rfl⟩
      | succ i => exact ih _ ok.2 i x (by simpa using e)
  refine go_forP (fun i => True) (fun i => L (S i)) (fun i => (xs[i]?.map us).getD []) hi trivial h0 (fun i d h => ?_) (fun i hl _ G0 E' hT h1 h2 h3 h4 => ?_) (fun _ => ?_)
  · rw [List.getElem?_map] at h
    cases e : xs[i]? with
    | none => rw [e] at h; cases h
    | some x => rw [e] at h; cases h; exact hg x
  · have hl : i < xs.length := by simpa using hl
    have e := List.getElem?_eq_getElem hl
    obtain ⟨k1, k2⟩ := key xs s0 ok i xs[i] e
    rw [e]
    refine hb xs[i] (S i) G0 H1 E' trivial k1 ?_
    have ct := h3 trivial
    show Nx K G0 H1 E'.nx (L (f xs[i] (S i)).val)
    rw [k2]; exact ct
  · have hS : S xs.length = (G.fold xs s0 f).val := by show (G.fold (xs.take xs.length) s0 f).val = _; rw [List.take_length]
    rw [List.length_map]
    rw [hS]; exact k
/-- how far a loop that may be left has come -/
inductive Come (f : α → σ → G (Lv ρ σ)) : List α → σ → Nat → List α → σ → Prop where
  | start (xs : List α) (s : σ) : Come f xs s 0 xs s
  | step {xs : List α} {s : σ} {i : Nat} {x : α} {ys : List α} {s1 s2 : σ} : Come f xs s i (x :: ys) s1 → (f x s1).val = .ct s2 → Come f xs s (i + 1) ys s2
theorem Come.eq {f : α → σ → G (Lv ρ σ)} {xs ys : List α} {s0 s : σ} {i : Nat} (c : Come f xs s0 i ys s) : (G.loop xs s0 f).ok → (G.loop ys s f).ok ∧ (G.loop xs s0 f).val = (G.loop ys s f).val := by
  induction c with
  | start => exact fun h => ⟨h, rfl⟩
  | step c e ih =>
    intro h
    obtain ⟨h1, h2⟩ := ih h
    have h1' := h1.2
    rw [e] at h1'
    refine ⟨h1', h2.trans ?_⟩
    show (G.turn (f _ _).val _).val = _
    rw [e]; rfl
theorem Come.drop {f : α → σ → G (Lv ρ σ)} {xs ys : List α} {s0 s : σ} {i : Nat} (c : Come f xs s0 i ys s) : ys = xs.drop i := by
  induction c with
  | start => rfl
  | step c e ih =>
    rw [← List.drop_drop, ← ih]; rfl
/-- a for that may be left, something behind -/
theorem xb_loop {wi : TI} {g : TG} {rep : α → D} {xs : List α} {s0 : σ} {f : α → σ → G (Lv ρ σ)} {o : ρ → O} {L : σ → List Slot} {w : ρ → τ} {k : σ → G τ} (ni : Ni Φ) (us : α → List (Nat × D)) (hi : EvI K wi env (xs.map rep)) (h0 : Sub env (L s0)) (hg : ∀ x, EvG K g (rep x) (us x))
    (hw : ∀ H0 H1 E r, Φ H0 H1 E (w r) → RtX K H0 H1 E.rt (o r))
    (hb : ∀ x s, Blk K TyL (PL K o L) t (sets (L s) (us x)) (f x s)) (hk : ∀ s, Blk K T Φ u (L s) (k s)) : Blk K T Φ (tSeq (tFor wi g t) u) env ((G.loop xs s0 f).on w k) := fun H0 H1 E hT ok hΦ => by
  have fin : ∀ v, (G.loop xs s0 f).val = .inr v → Nx K H0 H1 (u E) (L v) := fun v hv => by
    refine hk v H0 H1 E hT (ok.2 v hv) ?_
    have : ((G.loop xs s0 f).on w k).val = (k v).val := by show (match (G.loop xs s0 f).val with | .inl r => w r | .inr s => (k s).val) = _; rw [hv]
    rw [this] at hΦ; exact hΦ
  have ret : ∀ r, (G.loop xs s0 f).val = .inl r → RtX K H0 H1 E.rt (o r) := fun r hr => by
    refine hw H0 H1 E r ?_
    have : ((G.loop xs s0 f).on w k).val = w r := by show (match (G.loop xs s0 f).val with | .inl r => w r | .inr s => (k s).val) = _; rw [hr]
    rw [this] at hΦ; exact hΦ
  intro B F σ st
  refine hi B F σ st.gr.f st.vs _ fun B1 F1 J g1 wk => ?_
  obtain ⟨G', Y', wk, hG, hY⟩ := wk.w
  have st1 := st.grow g1
  have sta : State K B1 H1 B1 F1 σ (L s0) := (⟨⟨Same.refl _, st1.gr.f, st1.gr.s, fun a h1 h2 => absurd h2 h1⟩, st1.ex⟩ : State K B1 H1 B1 F1 σ env).sub h0
  refine for_it wk (fun i σ' F' => ∃ ys s B', Come f xs s0 i ys s ∧ State K B1 H1 B' F' σ' (L s)) ⟨xs, s0, B1, .start xs s0, sta⟩ ?_ ?_ ?_
  · rintro i σ' F' _ ⟨_, _, B', _, st'⟩
    exact hG F' (st'.gr.b.trans st'.gr.f)
  · rintro i x σ' F2 F3 hl ⟨ys, s, B2, c, st2⟩ hy
    obtain ⟨B3, d, g3, ed, rx⟩ := hY i B2 F2 x F3 st2.gr.b st2.gr.f hy
    have hl' : i < xs.length := by simpa using hl
    rw [List.getElem?_map, List.getElem?_eq_getElem hl'] at ed
    cases ed
    have hys : ys = xs[i] :: xs.drop (i + 1) := by rw [c.drop, List.drop_eq_getElem_cons hl']
    subst hys
    obtain ⟨lok, lval⟩ := c.eq ok.1
    refine hg xs[i] B3 F3 _ x g3.f rx _ fun vs rxs => ?_
    have st3 := (st2.grow g3).sets rxs
    refine hb xs[i] s B1 H1 { E with nx := fun σ' F' => ∃ ys s B', Come f xs s0 (i + 1) ys s ∧ State K B1 H1 B' F' σ' (L s), ct := fun σ' F' => ∃ ys s B', Come f xs s0 (i + 1) ys s ∧ State K B1 H1 B' F' σ' (L s), bk := u E } rfl lok.1 ?_ B3 F3 _ st3
    cases hv : (f xs[i] s).val with
    | rt r =>
      have : (G.loop xs s0 f).val = .inl r := by
        rw [lval]; show (G.turn (f _ _).val _).val = _; rw [hv]; rfl
      exact fun B F x P g w p => ret r this B F x P (st1.gr.rebase g) w p
    | bk s' =>
      have : (G.loop xs s0 f).val = .inr s' := by
        rw [lval]; show (G.turn (f _ _).val _).val = _; rw [hv]; rfl
      exact fun B F σ s => fin s' this B F σ ⟨st1.gr.rebase s.gr, s.ex⟩
    | ct s' => exact fun B F σ st => ⟨_, s', B, c.step hv, st⟩
  · rintro σ' F2 ⟨ys, s, B2, c, st2⟩
    have hys : ys = [] := by rw [c.drop]; simp
    subst hys
    obtain ⟨_, lval⟩ := c.eq ok.1
    exact fin s lval B2 F2 σ' ⟨st1.gr.rebase st2.gr, st2.ex⟩
/-- a while -/
theorem st_whl {c : TT} {n : Nat} {s0 : σ} {cg : σ → G Bool} {f : σ → G σ} {L : σ → List Slot} (h0 : Sub env (L s0)) (hc : ∀ s, XT K c (L s) (cg s))
    (hb : ∀ s, Blk K TyA (PS K L) t (L s) (f s)) : St K (tWhile c t) env (.whl n cg f s0) L := fun H0 H1 E ok k => by
  refine go_whileP (fun q : Nat × σ => L q.2) (fun q => q.1) (fun q => (G.whl q.1 cg f q.2).ok ∧ (G.whl q.1 cg f q.2).val = (G.whl n cg f s0).val) (n, s0) ⟨ok, rfl⟩ h0 ?_
  rintro ⟨m, s⟩ ⟨q1, q2⟩
  cases m with
  | zero =>
    have q1 : (cg s).ok ∧ (cg s).val = false := q1
    refine ⟨(cg s).val, hc s q1.1, fun h => (by rw [q1.2] at h; cases h), fun _ => ?_⟩
    have : (G.whl 0 cg f s).val = s := rfl
    rw [← q2] at k; exact k
  | succ m =>
    refine ⟨(cg s).val, hc s q1.1, fun h E' hT h1 h2 h3 h4 => ?_, fun h => ?_⟩
    · have q3 := q1.2.1 h
      refine hb s H0 H1 E' trivial q3.1 ?_
      have hv : (G.whl (m + 1) cg f s).val = (G.whl m cg f (f s).val).val := by show (if (cg s).val = true then _ else _) = _; rw [if_pos h]; rfl
      exact h3 (m, (f s).val) ⟨q3.2, by rw [← hv]; exact q2⟩ (Nat.lt_succ_self m)
    · have hv : (G.whl (m + 1) cg f s).val = s := by show (if (cg s).val = true then _ else _) = _; rw [if_neg (by rw [h]; decide)]; rfl
      rw [← q2] at k
      rw [hv] at k; exact k
end
/-! ### calls -/
abbrev R1 {α ρ : Type} (m : α → G ρ) (e : α → D) (o : ρ → O) : List D → O → Prop := fun ds r => ∃ a, ds = [e a] ∧ (m a).ok ∧ r = o (m a).val
abbrev R2 {α β ρ : Type} (m : α → β → G ρ) (e : α → D) (f : β → D) (o : ρ → O) : List D → O → Prop := fun ds r => ∃ a b, ds = [e a, f b] ∧ (m a b).ok ∧ r = o (m a b).val
abbrev R3 {α β γ ρ : Type} (m : α → β → γ → G ρ) (e : α → D) (f : β → D) (g : γ → D) (o : ρ → O) : List D → O → Prop := fun ds r => ∃ a b c, ds = [e a, f b, g c] ∧ (m a b c).ok ∧ r = o (m a b c).val
abbrev R4 {α β γ δ ρ : Type} (m : α → β → γ → δ → G ρ) (e : α → D) (f : β → D) (g : γ → D) (h : δ → D) (o : ρ → O) : List D → O → Prop := fun ds r => ∃ a b c d, ds = [e a, f b, g c, h d] ∧ (m a b c d).ok ∧ r = o (m a b c d).val
abbrev R5 {α β γ δ ε ρ : Type} (m : α → β → γ → δ → ε → G ρ) (e : α → D) (f : β → D) (g : γ → D) (h : δ → D) (i : ε → D) (o : ρ → O) : List D → O → Prop := fun ds r => ∃ a b c d x, ds = [e a, f b, g c, h d, i x] ∧ (m a b c d x).ok ∧ r = o (m a b c d x).val
abbrev R6 {α β γ δ ε ζ ρ : Type} (m : α → β → γ → δ → ε → ζ → G ρ) (e : α → D) (f : β → D) (g : γ → D) (h : δ → D) (i : ε → D) (j : ζ → D) (o : ρ → O) : List D → O → Prop := fun ds r => ∃ a b c d x y, ds = [e a, f b, g c, h d, i x, j y] ∧ (m a b c d x y).ok ∧ r = o (m a b c d x y).val
theorem xo_call {K : PySem.W.Frag} {env : List Slot} {E : XK} {t : TA} {ds : List D} {R : List D → O → Prop} {ρ : Type} {m : G ρ} {o : ρ → O} (h : EvA K t env ds) (hr : m.ok → R ds (o m.val)) : XO K (tCall (spX K R) [] E t) env m o := fun ok => ex_call h (hr ok)
end Y

/-! X2: typed rules. -/
namespace Y
open PySem PySem.Spec PyProof.Rows L2
/-! ### places -/
def InR (n : Nat) (k : Int) : Prop := -(n : Int) ≤ k ∧ k < n
def ixJ (n : Nat) (k : Int) : Nat := if 0 ≤ k then k.toNat else (k + n).toNat
def ix {α : Type} [Inhabited α] (xs : List α) (k : Int) : α := xs.getD (ixJ xs.length k) default
def setI {α : Type} (xs : List α) (k : Int) (v : α) : List α := xs.set (ixJ xs.length k) v
theorem inR_j {n : Nat} {k : Int} (h : InR n k) : ixN n k = some (ixJ n k) ∧ ixJ n k < n := by
  obtain ⟨h1, h2⟩ := h
  unfold ixN ixJ
  by_cases h0 : 0 ≤ k
  · rw [if_pos h0, if_pos h2, if_pos h0]; exact ⟨rfl, by omega⟩
  · rw [if_neg h0, if_pos h1, if_neg h0]; exact ⟨rfl, by omega⟩
theorem atI_ix {α β : Type} [Inhabited α] {e : α → β} {xs : List α} {k : Int} (h : InR xs.length k) : atI (xs.map e) k = some (e (ix xs k)) := by
  obtain ⟨h1, h2⟩ := inR_j h
  unfold atI ix
  rw [List.length_map, h1]
  show (xs.map e)[_]? = _
  rw [List.getElem?_map, List.getElem?_eq_getElem h2, List.getD_eq_getElem?_getD, List.getElem?_eq_getElem h2]; rfl
theorem inR_nat {n : Nat} {k : Int} (h0 : 0 ≤ k) (h : k < n) : InR n k := ⟨by omega, h⟩
theorem ixJ_nat {n k : Nat} : ixJ n (k : Int) = k := by unfold ixJ; rw [if_pos (by omega)]; omega
theorem ix_nat {α : Type} [Inhabited α] {xs : List α} {k : Nat} : ix xs (k : Int) = xs.getD k default := by unfold ix; rw [ixJ_nat]
theorem ix_get {α : Type} [Inhabited α] {xs : List α} {k : Nat} (h : k < xs.length) : ix xs (k : Int) = xs[k] := by rw [ix_nat, List.getD_eq_getElem?_getD, List.getElem?_eq_getElem h]; rfl
section
variable {K : PySem.W.Frag} {env : List Slot} {te ta tb tk : TE} {tt : TT} {α β σ κ : Type}
theorem ee_ix [Inhabited α] {e : α → D} {xs : List α} {k : Int} (h1 : EvE K ta env (eL e xs)) (h2 : EvE K tb env (.int k)) (h : InR xs.length k) : EvE K (tOp (rIxL K) ta tb) env (e (ix xs k)) := ee_ixL h1 h2 (atI_ix h)
theorem ee_ixU [Inhabited α] {e : α → D} {xs : List α} {k : Int} (h1 : EvE K ta env (eU e xs)) (h2 : EvE K tb env (.int k)) (h : InR xs.length k) : EvE K (tOp (rIxT K) ta tb) env (e (ix xs k)) := ee_ixT h1 h2 (atI_ix h)
theorem ee_ixS' [Inhabited α] {e : α → D} {q : Bool × List α} {k : Int} (h1 : EvE K ta env (eQ e q)) (h2 : EvE K tb env (.int k)) (h : InR q.2.length k) : EvE K (tOp (rIxQ K) ta tb) env (e (ix q.2 k)) := ee_ixQ h1 h2 (atI_ix h)
theorem ol_eq {e : α → D} {xs : List α} : oL (oF e) xs = .ow .lst ((xs.map e).map .fr) := by
  show O.ow .lst _ = _
  rw [List.map_map]; rfl
theorem ee_ixOwn [Inhabited α] {i : Nat} {e : α → D} {xs : List α} {k : Int} (h1 : env[i]? = some (.own (oL (oF e) xs))) (h2 : EvE K tb env (.int k)) (h : InR xs.length k) : EvE K (tOp (rIxL K) (tVar i) tb) env (e (ix xs k)) :=
  ee_ixO (by rw [ol_eq] at h1; exact h1) h2 (atI_ix h)
theorem ee_lenT' {e : α → D} {xs : List α} (h : EvE K te env (eL e xs)) : EvE K (tCB (rLen1 K) (tCons te tNil)) env (.int (xs.length : Int)) := (ee_lenL h).is (by rw [List.length_map])
theorem ee_lenU' {e : α → D} {xs : List α} (h : EvE K te env (eU e xs)) : EvE K (tCB (rLen1 K) (tCons te tNil)) env (.int (xs.length : Int)) := (ee_lenT h).is (by rw [List.length_map])
theorem ee_lenS' {e : α → D} {q : Bool × List α} (h : EvE K te env (eQ e q)) : EvE K (tCB (rLen1 K) (tCons te tNil)) env (.int (q.2.length : Int)) := (ee_lenQ (b := q.1) h).is (by rw [List.length_map])
theorem ei_l {e : α → D} {xs : List α} (h : EvE K te env (eL e xs)) : EvI K (iList K te) env (xs.map e) := ei_list h
theorem ei_u {e : α → D} {xs : List α} (h : EvE K te env (eU e xs)) : EvI K (iTup K te) env (xs.map e) := ei_tup h
theorem ei_s {e : α → D} {q : Bool × List α} (h : EvE K te env (eQ e q)) : EvI K (iSeq K te) env (q.2.map e) := ei_seq h
/-! ranges, enumerate, zip -/
def rangeZ (a b : Int) : List Int := (List.range (b - a).toNat).map fun (i : Nat) => a + (i : Int)
def InI (n : Int) : Prop := -(2 ^ 62) ≤ n ∧ n < 2 ^ 62
theorem rng_rangeZ (a b : Int) : rng a (b - a).toNat = (rangeZ a b).map D.int := by unfold rng rangeZ; rw [List.map_map]; rfl
theorem ei_r1 {n : Int} (h : EvE K te env (.int n)) (hn : InI n) : EvI K (iRng1 (tCons te tNil)) env ((rangeZ 0 n).map D.int) := by
  have := ei_rng1 h hn
  rw [← rng_rangeZ, Int.sub_zero]; exact this
theorem ei_r2 {m n : Int} (h : EvE K ta env (.int m)) (h2 : EvE K tb env (.int n)) (hm : InI m) (hn : InI n) : EvI K (iRng2 (tCons ta (tCons tb tNil))) env ((rangeZ m n).map D.int) := by
  rw [← rng_rangeZ]; exact ei_rng2 h h2 hm hn
def enumZ [Inhabited α] (xs : List α) : List (Int × α) := (List.range xs.length).map fun (i : Nat) => ((i : Int), xs.getD i default)
theorem ei_enumT [Inhabited α] {e : α → D} {xs : List α} (h : EvE K te env (eL e xs)) : EvI K (iEnum K (tCons te tNil)) env ((enumZ xs).map (eT2 D.int e)) := by
  have := ei_enum h
  have e2 : enum (xs.map e) = (enumZ xs).map (eT2 D.int e) := by
    unfold enum enumZ
    rw [List.map_map, List.length_map]
    apply List.map_congr_left
    intro i hi
    have hi : i < xs.length := by simpa using hi
    simp [List.getD_eq_getElem?_getD, hi]
  rw [e2] at this
  exact this
theorem ei_zipT {e : α → D} {f : β → D} {xs : List α} {ys : List β} (h : EvE K ta env (eL e xs)) (h2 : EvE K tb env (eL f ys)) (hz : xs.length = ys.length) : EvI K (iZip K (tCons ta (tCons tb tNil))) env ((xs.zip ys).map (eT2 e f)) := by
  have := ei_zip h h2 (by simpa using hz)
  have e2 : ((xs.map e).zip (ys.map f)).map (fun q => D.tup [q.1, q.2]) = (xs.zip ys).map (eT2 e f) := by
    rw [List.zip_map, List.map_map]; rfl
  rw [e2] at this
  exact this
/-! what a target takes -/
theorem eg_1 {j : Nat} {e : α → D} : ∀ v, EvG K (gName j) (e v) [(j, e v)] := fun _ => eg_name
theorem egs_consG {g : TG} {d : D} {ds : List D} {us us' : List (Nat × D)} {t : TGs} (h : EvG K g d us) (ht : EvGs K t ds us') : EvGs K (gCons g t) (d :: ds) (us ++ us') := fun B F σ xs hs r Q q => by
  unfold Reps at r
  obtain ⟨x, ws, rfl, h2, h3⟩ := r
  refine ⟨x, ws, rfl, h B F _ x hs h2 _ fun ys hy => ht B F _ ws hs h3 Q fun zs hz => ?_⟩
  have key : ∀ (us : List (Nat × D)) (ys : List V) (σ : L2.St), Reps K B (us.map (·.2)) ys → setsV (setsV σ (us.map (·.1)) ys) (us'.map (·.1)) zs = setsV σ ((us ++ us').map (·.1)) (ys ++ zs) := by
    intro us
    induction us with
    | nil =>
      intro ys σ r
      simp only [List.map_nil] at r
      unfold Reps at r; subst r
      simp [setsV]
    | cons u us ih =>
      intro ys σ r
      simp only [List.map_cons] at r
      unfold Reps at r
      obtain ⟨y, ys', rfl, r1, r2⟩ := r
      simp only [List.map_cons, List.cons_append, setsV]
      exact ih ys' _ r2
  rw [key us ys σ hy]
  refine q _ ?_
  rw [List.map_append]
  exact hy.append hz
/-! in, ==, min, max, sum -/
theorem eqV_int {a b : Int} : eqV (.int a) (.int b) = decide (a = b) := by
  by_cases h : a = b
  · subst h; simp [eqV]
  · simp [eqV, h]
theorem inV_ints {i : Int} : ∀ ns : List Int, inV (.int i) (ns.map L2.V.int) = decide (i ∈ ns)
  | [] => by simp [inV]
  | x :: ns => by
    have ih := inV_ints (i := i) ns
    unfold inV at ih ⊢
    rw [List.map_cons, List.any_cons, ih, eqV_int]
    by_cases h : x = i
    · subst h; simp
    · have h' : ¬ i = x := fun e => h e.symm
      simp [h, h']
theorem flat_ints : ∀ ns : List Int, (ns.map L2.V.int).all flatV = true
  | [] => rfl
  | x :: ns => by rw [List.map_cons, List.all_cons, flat_ints ns]; rfl
theorem ee_inI {i : Int} {ns : List Int} (h1 : EvE K ta env (.int i)) (h2 : EvE K tb env (eL D.int ns)) : EvE K (tOp (rIn K false) ta tb) env (.bl (decide (i ∈ ns))) := ee_op h1 h2 fun B F x y hf r1 r2 Q q => by
  have r2 : Rep K B (.lst (ns.map .int)) y := r2
  unfold Rep at r1 r2; subst r1
  obtain ⟨a, ws, rfl, e1, e2⟩ := r2
  have := e2.ints
  subst this
  refine ⟨a, _, rfl, .inl (hf.seq e1), rfl, flat_ints ns, ?_⟩
  rw [inV_ints]
  exact q B F _ (Gr.refl hf) (rp_bl B)
theorem ee_ninI {i : Int} {ns : List Int} (h1 : EvE K ta env (.int i)) (h2 : EvE K tb env (eL D.int ns)) : EvE K (tOp (rIn K true) ta tb) env (.bl (!decide (i ∈ ns))) := ee_op h1 h2 fun B F x y hf r1 r2 Q q => by
  have r2 : Rep K B (.lst (ns.map .int)) y := r2
  unfold Rep at r1 r2; subst r1
  obtain ⟨a, ws, rfl, e1, e2⟩ := r2
  have := e2.ints
  subst this
  refine ⟨a, _, rfl, .inl (hf.seq e1), rfl, flat_ints ns, ?_⟩
  rw [inV_ints]
  exact q B F _ (Gr.refl hf) (rp_bl B)
def minL : List Int → Int
  | [] => 0
  | x :: xs => xs.foldl min x
def maxL : List Int → Int
  | [] => 0
  | x :: xs => xs.foldl max x
theorem minL_aux : ∀ (xs : List Int) (x : Int), xs.foldl min x ∈ x :: xs ∧ ∀ y ∈ x :: xs, xs.foldl min x ≤ y
  | [], x => by simp
  | z :: xs, x => by
    obtain ⟨h1, h2⟩ := minL_aux xs (min x z)
    simp only [List.foldl_cons]
    refine ⟨?_, fun y hy => ?_⟩
    · rcases List.mem_cons.1 h1 with e | e
      · rw [e]
        by_cases h : x ≤ z
        · rw [Int.min_eq_left h]; simp
        · rw [Int.min_eq_right (by omega)]; simp
      · simp [e]
    · have h3 := h2 (min x z) (by simp)
      rcases List.mem_cons.1 hy with rfl | hy
      · exact Int.le_trans h3 (Int.min_le_left _ _)
      · rcases List.mem_cons.1 hy with rfl | hy
        · exact Int.le_trans h3 (Int.min_le_right _ _)
        · exact h2 y (by simp [hy])
theorem minL_mem {xs : List Int} (h : 0 < xs.length) : minL xs ∈ xs ∧ ∀ y ∈ xs, minL xs ≤ y := by
  cases xs with
  | nil => simp at h
  | cons x xs => exact minL_aux xs x
theorem maxL_aux : ∀ (xs : List Int) (x : Int), xs.foldl max x ∈ x :: xs ∧ ∀ y ∈ x :: xs, y ≤ xs.foldl max x
  | [], x => by simp
  | z :: xs, x => by
    obtain ⟨h1, h2⟩ := maxL_aux xs (max x z)
    simp only [List.foldl_cons]
    refine ⟨?_, fun y hy => ?_⟩
    · rcases List.mem_cons.1 h1 with e | e
      · rw [e]
        by_cases h : x ≤ z
        · rw [Int.max_eq_right h]; simp
        · rw [Int.max_eq_left (by omega)]; simp
      · simp [e]
    · have h3 := h2 (max x z) (by simp)
      rcases List.mem_cons.1 hy with rfl | hy
      · exact Int.le_trans (Int.le_max_left _ _) h3
      · rcases List.mem_cons.1 hy with rfl | hy
        · exact Int.le_trans (Int.le_max_right _ _) h3
        · exact h2 y (by simp [hy])
theorem maxL_mem {xs : List Int} (h : 0 < xs.length) : maxL xs ∈ xs ∧ ∀ y ∈ xs, y ≤ maxL xs := by
  cases xs with
  | nil => simp at h
  | cons x xs => exact maxL_aux xs x
theorem ee_minT {ns : List Int} (h : EvE K te env (eL D.int ns)) (h0 : 0 < ns.length) : EvE K (tCB (rMin K) (tCons te tNil)) env (.int (minL ns)) := ee_cb (ea_cons h ea_nil) fun B F xs hs r Q q => by
  obtain ⟨x, rfl, r1⟩ := reps1 r
  have r1 : Rep K B (.lst (ns.map .int)) x := r1
  unfold Rep at r1
  obtain ⟨a, vs, rfl, h1, h2⟩ := r1
  have := h2.ints; subst this
  refine ⟨a, ns, rfl, hs.seq h1, h0, fun m hm hy => ?_⟩
  obtain ⟨z1, z2⟩ := minL_mem h0
  have : m = minL ns := Int.le_antisymm (hy _ z1) (z2 _ hm)
  rw [this]
  exact q B F _ (Gr.refl hs) (rp_int B)
theorem ee_maxT {ns : List Int} (h : EvE K te env (eL D.int ns)) (h0 : 0 < ns.length) : EvE K (tCB (rMax K) (tCons te tNil)) env (.int (maxL ns)) := ee_cb (ea_cons h ea_nil) fun B F xs hs r Q q => by
  obtain ⟨x, rfl, r1⟩ := reps1 r
  have r1 : Rep K B (.lst (ns.map .int)) x := r1
  unfold Rep at r1
  obtain ⟨a, vs, rfl, h1, h2⟩ := r1
  have := h2.ints; subst this
  refine ⟨a, ns, rfl, hs.seq h1, h0, fun m hm hy => ?_⟩
  obtain ⟨z1, z2⟩ := maxL_mem h0
  have : m = maxL ns := Int.le_antisymm (z2 _ hm) (hy _ z1)
  rw [this]
  exact q B F _ (Gr.refl hs) (rp_int B)
theorem ee_sumT {ns : List Int} (h : EvE K te env (eL D.int ns)) : EvE K (tCB (rSum K) (tCons te tNil)) env (.int ns.sum) := ee_sum h
theorem ee_allT {bs : List Bool} (h : EvE K te env (eL D.bl bs)) : EvE K (tCB (rAll K) (tCons te tNil)) env (.bl (bs.all id)) := ee_all h
theorem ee_anyT {bs : List Bool} (h : EvE K te env (eL D.bl bs)) : EvE K (tCB (rAny K) (tCons te tNil)) env (.bl (bs.any id)) := ee_any h
/-! deep == -/
structure EqC {α : Type} [DecidableEq α] (e : α → D) (n : Nat) where
  pd : α → PyData
  dp : ∀ (K : PySem.W.Frag) (H : Hp) (a : α) (x : V), Rep K H (e a) x → Dp K H x (pd a)
  lay : ∀ a, (pd a).canLay0 = true
  dep : ∀ a, (pd a).depth ≤ n
  eqv : ∀ a b, PyData.eqv (pd a) (pd b) = decide (a = b)
theorem beq_dec {α : Type} [DecidableEq α] [BEq α] [LawfulBEq α] (a b : α) : (a == b) = decide (a = b) := by
  by_cases h : a = b <;> simp [h]
def eqc_int : EqC D.int 0 := ⟨.int, fun K H a x r => by unfold Rep at r; subst r; exact .int a, fun a => by simp [PyData.canLay0], fun a => by simp [PyData.depth], fun a b => by rw [PyData.eqv]; exact beq_dec a b⟩
theorem dpa_all [DecidableEq α] {e : α → D} {n : Nat} (c : EqC e n) {H : Hp} : ∀ {l : List α} {ws : List V}, Reps K H (l.map e) ws → DpAll K H ws (l.map c.pd)
  | [], ws, r => by
    rw [List.map_nil] at r
    unfold Reps at r; subst r; exact .nil
  | x :: l, ws, r => by
    rw [List.map_cons] at r
    unfold Reps at r
    obtain ⟨y, zs, rfl, h1, h2⟩ := r
    exact .cons (c.dp _ _ _ _ h1) (dpa_all c h2)
theorem lay_all [DecidableEq α] {e : α → D} {n : Nat} (c : EqC e n) : ∀ l : List α, PyData.canLayAll0 (l.map c.pd) = true
  | [] => by simp [PyData.canLayAll0]
  | x :: l => by rw [List.map_cons, PyData.canLayAll0, c.lay, lay_all c l]; rfl
theorem dep_all [DecidableEq α] {e : α → D} {n : Nat} (c : EqC e n) : ∀ l : List α, PyData.depthAll (l.map c.pd) ≤ n + 1
  | [] => by simp [PyData.depthAll]
  | x :: l => by
    rw [List.map_cons, PyData.depthAll]
    have h1 := dep_all c l
    have h2 := c.dep x
    omega
theorem eqv_all [DecidableEq α] {e : α → D} {n : Nat} (c : EqC e n) : ∀ l m : List α, PyData.eqvAll (l.map c.pd) (m.map c.pd) = decide (l = m)
  | [], [] => by simp [PyData.eqvAll]
  | [], y :: m => by simp [PyData.eqvAll]
  | x :: l, [] => by simp [PyData.eqvAll]
  | x :: l, y :: m => by
    rw [List.map_cons, List.map_cons, PyData.eqvAll, c.eqv, eqv_all c l m]
    by_cases h : x = y
    · subst h
      by_cases h2 : l = m
      · simp [h2]
      · simp [h2]
    · simp [h]
def eqc_l [DecidableEq α] {e : α → D} {n : Nat} (c : EqC e n) : EqC (eL e) (n + 2) where
  pd := fun l => .list (l.map c.pd)
  dp := fun K H a x r => by
    have r : Rep K H (.lst (a.map e)) x := r
    unfold Rep at r
    obtain ⟨p, ws, rfl, e1, e2⟩ := r
    exact .lst e1 (dpa_all c e2)
  lay := fun a => by rw [PyData.canLay0]; exact lay_all c a
  dep := fun a => by
    rw [PyData.depth]
    have := dep_all c a
    omega
  eqv := fun a b => by rw [PyData.eqv, eqv_all c]
def eqc_t2 [DecidableEq α] [DecidableEq β] {e : α → D} {f : β → D} {n m : Nat} (c : EqC e n) (c2 : EqC f m) : EqC (eT2 e f) (n + m + 2) where
  pd := fun q => .tuple [c.pd q.1, c2.pd q.2]
  dp := fun K H a x r => by
    have r : Rep K H (.tup [e a.1, f a.2]) x := r
    unfold Rep at r
    obtain ⟨p, ws, rfl, e1, e2⟩ := r
    obtain ⟨y, z, rfl, r1, r2⟩ := reps2 e2
    exact .tup e1 (.cons (c.dp _ _ _ _ r1) (.cons (c2.dp _ _ _ _ r2) .nil))
  lay := fun a => by rw [PyData.canLay0, PyData.canLayAll0, PyData.canLayAll0, PyData.canLayAll0, c.lay, c2.lay]; rfl
  dep := fun a => by
    have h1 := c.dep a.1
    have h2 := c2.dep a.2
    simp [PyData.depth, PyData.depthAll]
    omega
  eqv := fun a b => by
    obtain ⟨a1, a2⟩ := a
    obtain ⟨b1, b2⟩ := b
    rw [PyData.eqv, PyData.eqvAll, PyData.eqvAll, PyData.eqvAll, c.eqv, c2.eqv]
    by_cases h : a1 = b1 <;> by_cases h2 : a2 = b2 <;> simp [h, h2]
def eqc_t3 [DecidableEq α] [DecidableEq β] {γ : Type} [DecidableEq γ] {e : α → D} {f : β → D} {g : γ → D} {n m l : Nat} (c : EqC e n) (c2 : EqC f m) (c3 : EqC g l) : EqC (eT3 e f g) (n + m + l + 2) where
  pd := fun q => .tuple [c.pd q.1, c2.pd q.2.1, c3.pd q.2.2]
  dp := fun K H a x r => by
    have r : Rep K H (.tup [e a.1, f a.2.1, g a.2.2]) x := r
    unfold Rep at r
    obtain ⟨p, ws, rfl, e1, e2⟩ := r
    unfold Reps at e2
    obtain ⟨y, ws', rfl, r1, e3⟩ := e2
    obtain ⟨z, w, rfl, r2, r3⟩ := reps2 e3
    exact .tup e1 (.cons (c.dp _ _ _ _ r1) (.cons (c2.dp _ _ _ _ r2) (.cons (c3.dp _ _ _ _ r3) .nil)))
  lay := fun a => by simp [PyData.canLay0, PyData.canLayAll0, c.lay, c2.lay, c3.lay]
  dep := fun a => by
    have h1 := c.dep a.1
    have h2 := c2.dep a.2.1
    have h3 := c3.dep a.2.2
    simp [PyData.depth, PyData.depthAll]
    omega
  eqv := fun a b => by
    obtain ⟨a1, a2, a3⟩ := a
    obtain ⟨b1, b2, b3⟩ := b
    simp only [PyData.eqv, PyData.eqvAll, c.eqv, c2.eqv, c3.eqv]
    by_cases h : a1 = b1 <;> by_cases h2 : a2 = b2 <;> by_cases h3 : a3 = b3 <;> simp [h, h2, h3]
theorem Dp.mono {H H' : Hp} (s : Same H H') : True := trivial
theorem ee_eqT [DecidableEq α] {e : α → D} {n : Nat} {a b : α} (c : EqC e n) (hn : n ≤ 64) (h1 : EvE K ta env (e a)) (h2 : EvE K tb env (e b)) : EvE K (tOp (rEqD K) ta tb) env (.bl (decide (a = b))) := ee_op h1 h2 fun B F x y hf r1 r2 Q q => by
  refine ⟨c.pd a, c.pd b, c.dp _ _ _ _ (r1.mono hf), c.dp _ _ _ _ (r2.mono hf), ?_, ?_, ?_⟩
  · unfold SeqAt.shaped; rw [c.lay]; have := c.dep a; simp; omega
  · unfold SeqAt.shaped; rw [c.lay]; have := c.dep b; simp; omega
  · rw [c.eqv]; exact q B F _ (Gr.refl hf) (rp_bl B)
theorem ee_neT [DecidableEq α] {e : α → D} {n : Nat} {a b : α} (c : EqC e n) (hn : n ≤ 64) (h1 : EvE K ta env (e a)) (h2 : EvE K tb env (e b)) : EvE K (tOp (rNeD K) ta tb) env (.bl (!decide (a = b))) := ee_op h1 h2 fun B F x y hf r1 r2 Q q => by
  refine ⟨c.pd a, c.pd b, c.dp _ _ _ _ (r1.mono hf), c.dp _ _ _ _ (r2.mono hf), ?_, ?_, ?_⟩
  · unfold SeqAt.shaped; rw [c.lay]; have := c.dep a; simp; omega
  · unfold SeqAt.shaped; rw [c.lay]; have := c.dep b; simp; omega
  · rw [c.eqv]; exact q B F _ (Gr.refl hf) (rp_bl B)
/-! sorted -/
def insI (x : Int) : List Int → List Int
  | [] => [x]
  | y :: ys => if x ≤ y then x :: y :: ys else y :: insI x ys
def sortI : List Int → List Int
  | [] => []
  | x :: xs => insI x (sortI xs)
theorem insI_perm (x : Int) : ∀ ys, (insI x ys).Perm (x :: ys)
  | [] => .refl _
  | y :: ys => by
    unfold insI
    split
    · exact .refl _
    · exact ((insI_perm x ys).cons y).trans (.swap x y ys)
theorem sortI_perm : ∀ xs, (sortI xs).Perm xs
  | [] => .refl _
  | x :: xs => (insI_perm x _).trans ((sortI_perm xs).cons x)
theorem insI_sorted (x : Int) : ∀ ys : List Int, ys.Pairwise (· ≤ ·) → (insI x ys).Pairwise (· ≤ ·)
  | [], _ => by simp [insI]
  | y :: ys, h => by
    unfold insI
    rw [List.pairwise_cons] at h
    split
    · rename_i hxy
      rw [List.pairwise_cons]
      refine ⟨fun z hz => ?_, by rw [List.pairwise_cons]; exact h⟩
      rcases List.mem_cons.1 hz with rfl | hz
      · exact hxy
      · exact Int.le_trans hxy (h.1 z hz)
    · rename_i hxy
      rw [List.pairwise_cons]
      refine ⟨fun z hz => ?_, insI_sorted x ys h.2⟩
      rcases List.mem_cons.1 ((insI_perm x ys).mem_iff.1 hz) with rfl | hz
      · omega
      · exact h.1 z hz
theorem sortI_sorted : ∀ xs, (sortI xs).Pairwise (· ≤ ·)
  | [] => .nil
  | x :: xs => insI_sorted x _ (sortI_sorted xs)
theorem sortI_uniq {xs ys : List Int} (h : ys.Perm xs) (h2 : ys.Pairwise (· ≤ ·)) : ys = sortI xs := PySem.W.ksm_same (h.trans (sortI_perm xs).symm) h2 (sortI_sorted xs)
end
end Y

/-! X3: typed rules for what is one's own. -/
namespace Y
open PySem PySem.Spec PyProof.Rows L2
section
variable {K : PySem.W.Frag} {env : List Slot} {te ta tb tk to : TE} {tt : TT} {α β σ κ : Type}
/-- xs.append(e) -/
theorem st_appT {i : Nat} {o : α → O} {xs : List α} {v : α} (e : env[i]? = some (.own (oL o xs))) (h : EvX K te env (o v)) :
    St K (tDrop (tBM K "list" rAppend (tVar i) (tCons te tNil))) env ⟨xs.length ≤ 100000, xs ++ [v]⟩ (fun ys => env.set i (.own (oL o ys))) :=
  st_app (js := []) (xs := xs.map o) (o2 := o v) e (fun _ => el_var e) (fun _ => rfl) (fun _ => h) (fun c => by simpa using c) (fun _ => by
    show O.ow .lst _ = O.ow .lst _
    rw [List.map_append]; rfl)
/-- xss[k].append(e) -/
theorem st_app2 [Inhabited α] {i : Nat} {o : α → O} {xss : List (List α)} {k : Int} {v : α} (e : env[i]? = some (.own (oL (oL o) xss))) (hk : EvE K tk env (.int k)) (h : EvX K te env (o v)) :
    St K (tDrop (tBM K "list" rAppend (tOp (rIxL K) (tVar i) tk) (tCons te tNil))) env ⟨InR xss.length k ∧ (ix xss k).length ≤ 100000, setI xss k (ix xss k ++ [v])⟩ (fun ys => env.set i (.own (oL (oL o) ys))) := by
  have key : InR xss.length k → (xss.map (oL o))[ixJ xss.length k]? = some (oL o (ix xss k)) := fun c => by
    obtain ⟨h1, h2⟩ := inR_j c
    unfold ix
    rw [List.getElem?_map, List.getElem?_eq_getElem h2, List.getD_eq_getElem?_getD, List.getElem?_eq_getElem h2]; rfl
  refine st_app (js := [ixJ xss.length k]) (xs := (ix xss k).map o) (o2 := o v) e (fun c => ?_) (fun c => ?_) (fun _ => h) (fun c => by simpa using c.2) (fun c => ?_)
  · obtain ⟨h1, h2⟩ := inR_j c.1
    exact el_ix (js := []) (xs := xss.map (oL o)) e (el_var e) hk rfl (by rw [List.length_map]; exact h1) (by rw [List.length_map]; exact h2)
  · show (match (xss.map (oL o))[ixJ xss.length k]? with | none => none | some o => nodeAt o []) = _
    rw [key c.1]; rfl
  · show (match (xss.map (oL o))[ixJ xss.length k]? with | none => O.ow .lst (xss.map (oL o)) | some o' => O.ow .lst ((xss.map (oL o)).set (ixJ xss.length k) (setAt o' [] (.ow .lst ((ix xss k).map o ++ [o v]))))) = _
    rw [key c.1]
    show O.ow .lst ((xss.map (oL o)).set (ixJ xss.length k) (O.ow .lst ((ix xss k).map o ++ [o v]))) = O.ow .lst ((xss.set (ixJ xss.length k) (ix xss k ++ [v])).map (oL o))
    rw [List.map_set]
    congr 2
    show O.ow .lst _ = O.ow .lst _
    rw [List.map_append]; rfl
/-- xs[k] = e -/
theorem st_setT {i : Nat} {o : α → O} {xs : List α} {k : Int} {v : α} (e : env[i]? = some (.own (oL o xs))) (hk : EvE K tk env (.int k)) (h : EvX K te env (o v)) :
    St K (tAsg te (gSub (tVar i) tk rSetL)) env ⟨InR xs.length k, setI xs k v⟩ (fun ys => env.set i (.own (oL o ys))) := by
  refine st_setL (js := []) (xs := xs.map o) (o2 := o v) (j := ixJ xs.length k) e (fun _ => el_var e) (fun _ => rfl) (fun _ => h) hk (fun c => by rw [List.length_map]; exact (inR_j c).1) (fun c => ?_)
  show O.ow .lst ((xs.map o).set _ _) = O.ow .lst ((xs.set _ _).map o)
  rw [List.map_set]
/-- xs[k] += e of ints -/
theorem go_augS {H0 H1 : Hp} {E : Ends} {i : Nat} {xs : List Int} {k j : Int} {f : Int → Int → Int} (e : env[i]? = some (.own (oL (oF D.int) xs))) (hk : EvE K tk env (.int k)) (h : EvE K te env (.int j)) (c : InR xs.length k)
    (q : Nx K H0 H1 E.nx (env.set i (.own (oL (oF D.int) (setI xs k (f (ix xs k) j)))))) : Go K H0 H1 (tAugS (tVar i) tk te (rIxL K) (ipI f) rSetL) E env := fun B F σ st => by
  obtain ⟨Ps, vs, _⟩ := st.ex
  obtain ⟨x0, h0, w0⟩ := vs.own i _ e
  refine ⟨x0, h0, hk B F σ st.gr.f st.vs _ fun B1 F1 y g1 r1 => ?_⟩
  unfold Rep at r1; subst r1
  have st1 := st.grow g1
  obtain ⟨p, u, vs1, Po, rfl, b2, b3, b4, _⟩ := st.chg (js := []) (xs := xs.map (oF D.int)) g1 e rfl h0 rfl
  have b3 : u = .lst vs1 := b3
  subst b3
  have b4' := b4
  rw [show xs.map (oF D.int) = (xs.map D.int).map .fr by rw [List.map_map]; rfl] at b4'
  have rr := b4'.frs.1.ints
  subst rr
  obtain ⟨c1, c2⟩ := inR_j c
  refine ⟨p, _, k, .int (ix xs k), rfl, rfl, .inl (.inl b2), atI_ix c, ?_⟩
  refine h B1 F1 σ st1.gr.f st1.vs _ fun B2 F2 z g2 r2 => ?_
  unfold Rep at r2; subst r2
  refine ⟨_, _, rfl, rfl, ?_⟩
  obtain ⟨p', u', vs', Po', e1, d2, d3, d4, d5, d5', d6⟩ := st.chg (js := []) (xs := xs.map (oF D.int)) (g1.trans g2) e rfl h0 rfl
  cases e1
  have d3 : u' = .lst vs' := d3
  subst d3
  have d4' := d4
  rw [show xs.map (oF D.int) = (xs.map D.int).map .fr by rw [List.map_map]; rfl] at d4'
  have rr := d4'.frs.1.ints
  subst rr
  refine ⟨p, _, k, ixJ xs.length k, rfl, rfl, d2, by rw [List.length_map]; exact c1, ?_⟩
  obtain ⟨Pn, n1, n2⟩ := d4.setAt (ixJ xs.length k) (own_fr (F := F2) (rp_int (i := f (ix xs k) j) B2)) (fun _ _ h => h)
  have := d6 .lst _ _ _ Pn rfl n1 fun a ha => (n2 a ha).imp id False.elim
  refine q B2 _ σ ?_
  have e3 : setAt (oL (oF D.int) xs) [] (O.ow .lst ((xs.map (oF D.int)).set (ixJ xs.length k) (O.fr (D.int (f (ix xs k) j))))) = oL (oF D.int) (setI xs k (f (ix xs k) j)) := by
    show O.ow .lst _ = O.ow .lst ((xs.set _ _).map _)
    rw [List.map_set]
  rw [e3] at this
  exact this
theorem st_augS {i : Nat} {xs : List Int} {k j : Int} {f : Int → Int → Int} (e : env[i]? = some (.own (oL (oF D.int) xs))) (hk : EvE K tk env (.int k)) (h : EvE K te env (.int j)) :
    St K (tAugS (tVar i) tk te (rIxL K) (ipI f) rSetL) env ⟨InR xs.length k, setI xs k (f (ix xs k) j)⟩ (fun ys => env.set i (.own (oL (oF D.int) ys))) := fun H0 H1 E c q => go_augS e hk h c q
theorem st_augI {i : Nat} {a b : Int} {f : Int → Int → Int} (hv : env[i]? = some (.val (.int a))) (h : EvE K te env (.int b)) : St K (tAug i te (ipI f)) env (.p (f a b)) (fun x => env.set i (.val (.int x))) :=
  st_aug (e := D.int) hv h fun B F x y hs r1 r2 Q q => by
    unfold Rep at r1 r2; subst r1 r2
    exact ⟨a, b, rfl, rfl, q B F _ (Gr.refl hs) (rp_int B)⟩
/-! ### dicts -/
section
variable [DecidableEq κ]
def dhas (d : List (κ × α)) (k : κ) : Bool := d.any fun q => decide (q.1 = k)
def dget (d : List (κ × α)) (k : κ) : Option α := (d.find? fun q => decide (q.1 = k)).map (·.2)
def dput (d : List (κ × α)) (k : κ) (v : α) : List (κ × α) := if dhas d k = true then d.map (fun q => if q.1 = k then (q.1, v) else q) else d ++ [(k, v)]
def Inj (kk : κ → Key) : Prop := ∀ a b, kk a = kk b → a = b
theorem inj_int : Inj (Sum.inl : Int → Key) := fun a b h => Sum.inl.inj h
theorem inj_str : Inj (Sum.inr : Str → Key) := fun a b h => Sum.inr.inj h
variable {kk : κ → Key}
theorem hasK_map (hi : Inj kk) (k : κ) : ∀ d : List (κ × α), hasK (d.map fun q => kk q.1) (kk k) = dhas d k
  | [] => rfl
  | (n, v) :: d => by
    have ih := hasK_map hi k d
    unfold hasK dhas at ih ⊢
    rw [List.map_cons, List.any_cons, List.any_cons, ih]
    congr 1
    by_cases h : n = k
    · subst h; simp
    · have : ¬ kk n = kk k := fun e => h (hi _ _ e)
      simp [h, this]
theorem dataV_map (hi : Inj kk) (e : α → D) (k : κ) : ∀ d : List (κ × α), dataV (d.map fun q => kk q.1) (d.map fun q => e q.2) (kk k) = (dget d k).map e
  | [] => rfl
  | (n, v) :: d => by
    have ih := dataV_map hi e k d
    unfold dataV dget at ih ⊢
    rw [List.map_cons, List.map_cons, List.zip_cons_cons, List.find?_cons, List.find?_cons]
    by_cases h : n = k
    · subst h; simp
    · have : ¬ kk n = kk k := fun e => h (hi _ _ e)
      simp only [h, this, decide_false]
      exact ih
theorem putKs_map (hi : Inj kk) (d : List (κ × α)) (k : κ) (v : α) : putKs (d.map fun q => kk q.1) (kk k) = (dput d k v).map fun q => kk q.1 := by
  unfold putKs dput
  rw [hasK_map hi]
  split
  · rw [List.map_map]
    apply List.map_congr_left
    intro q _
    show kk q.1 = kk (if q.1 = k then (q.1, v) else q).1
    split <;> rfl
  · rw [List.map_append]; rfl
theorem putDs_map (hi : Inj kk) {γ : Type} (e : α → γ) (d : List (κ × α)) (k : κ) (v : α) : putDs (d.map fun q => kk q.1) (d.map fun q => e q.2) (kk k) (e v) = (dput d k v).map fun q => e q.2 := by
  have this : (d.map fun q => kk q.1).zip (d.map fun q => e q.2) = d.map fun q => (kk q.1, e q.2) := by
    clear v
    induction d with
    | nil => rfl
    | cons x d ih => simp only [List.map_cons, List.zip_cons_cons]; rw [ih]
  unfold putDs dput
  rw [hasK_map hi]
  split
  · rw [this, List.map_map, List.map_map]
    apply List.map_congr_left
    intro q _
    show (if kk q.1 = kk k then e v else e q.2) = e (if q.1 = k then (q.1, v) else q).2
    by_cases h : q.1 = k
    · simp [h]
    · have : ¬ kk q.1 = kk k := fun e => h (hi _ _ e)
      simp [h, this]
  · rw [List.map_append]; rfl
/-- d[k] = e -/
theorem st_putT (hi : Inj kk) {i : Nat} {e : α → D} {d : List (κ × α)} {k : κ} {v : α} (he : env[i]? = some (.own (oK kk e d))) (hk : EvE K tk env (kD (kk k))) (h : EvE K te env (e v)) :
    St K (tAsg te (gSub (tVar i) tk rSetD)) env ⟨d.length ≤ 100000, dput d k v⟩ (fun ys => env.set i (.own (oK kk e ys))) := by
  refine st_putD (js := []) (ks := d.map fun q => kk q.1) (xs := (d.map fun q => e q.2).map .fr) (k := kk k) (d := e v) he (fun _ => el_var he) (fun _ => rfl) h hk (fun c => by simpa using c) (fun _ => ?_)
  show O.ow (.dic _) _ = O.ow (.dic _) _
  rw [putKs_map hi d k v, List.map_map, List.map_map]
  exact congrArg (O.ow _) (putDs_map hi (fun a => O.fr (e a)) d k v)
theorem ed_valT {e : α → D} {d : List (κ × α)} (h : EvE K te env (eK kk e d)) : EvDic K te env (d.map fun q => kk q.1) (d.map fun q => e q.2) := ed_val h
theorem ed_ownT {i : Nat} {e : α → D} {d : List (κ × α)} (h : env[i]? = some (.own (oK kk e d))) : EvDic K (tVar i) env (d.map fun q => kk q.1) (d.map fun q => e q.2) := ed_own h
variable {td ty : TE}
theorem ee_dinT (hi : Inj kk) {e : α → D} {d : List (κ × α)} {k : κ} (hk : EvE K ty env (kD (kk k))) (h : EvDic K td env (d.map fun q => kk q.1) (d.map fun q => e q.2)) : EvE K (tDIn ty td) env (.bl (dhas d k)) := (ee_din hk h).is (by rw [hasK_map hi])
theorem ee_dninT (hi : Inj kk) {e : α → D} {d : List (κ × α)} {k : κ} (hk : EvE K ty env (kD (kk k))) (h : EvDic K td env (d.map fun q => kk q.1) (d.map fun q => e q.2)) : EvE K (tDNotIn ty td) env (.bl (!dhas d k)) := (ee_dnin hk h).is (by rw [hasK_map hi])
theorem ee_dgetT [Inhabited α] (hi : Inj kk) {e : α → D} {d : List (κ × α)} {k : κ} (h : EvDic K td env (d.map fun q => kk q.1) (d.map fun q => e q.2)) (hk : EvE K ty env (kD (kk k))) (c : (dget d k).isSome = true) : EvE K (tDGet td ty) env (e ((dget d k).getD default)) := by
  refine ee_dget h hk ?_
  rw [dataV_map hi]
  cases hd : dget d k with
  | none => rw [hd] at c; cases c
  | some v => rfl
end
/-! one key -/
theorem ex_disp1 {κ : Type} {kk : κ → Key} {e : α → D} {k : κ} {v : α} (hk : EvE K tk env (kD (kk k))) (h : EvE K te env (e v)) : EvX K (tDisp [(tk, te)]) env (oK kk e [(k, v)]) := fun B F σ hs vs Q q => fun p hp => by
  have s1 : Same B (upd F p (.dK [])) := same_out hs (hs.free hp)
  have g0 : Gr B F B (upd F p (.dK [])) := ⟨Same.refl _, s1, same_new hp, fun a h1 h2 => absurd h2 h1⟩
  refine hk B _ σ s1 (vs.grow g0) _ fun B1 F1 x g1 r1 => h B1 F1 σ g1.f (vs.grow (g0.trans g1)) _ fun B2 F2 y g2 r2 => ?_
  have := rep_key r1
  subst this
  have hp2 : F2 p = some (.dK []) := g2.s _ _ (g1.s _ _ upd_same)
  refine ⟨hp2, [(kk k, y)], rfl, by simp, ?_⟩
  have g := (g0.trans g1).trans g2
  have hb2 : B2 p = none := (g1.trans g2).out (hs.free hp) (by rw [upd_same]; simp)
  have sF : Same F F2 := (same_new hp).trans (g1.trans g2).s
  have gg : Gr B F B2 (upd F2 p (.dK (mergeK [] [(kk k, y)]))) := ⟨g.b, same_out g.f hb2, same_out sF hp, g.n⟩
  refine q B2 _ (.ref p) (fun a => a = p ∨ False) gg ?_ fun a ha => ?_
  · unfold Own
    refine ⟨p, _, [y], fun _ => False, rfl, upd_same, ⟨rfl, rfl⟩, ?_, fun h => h, fun _ => Iff.rfl⟩
    exact owns_fr (ds := [e v]) (Reps.cons r2 Reps.nil)
  · rcases ha with rfl | ha
    · exact ⟨hp, hb2⟩
    · exact ha.elim
abbrev rSortDI : List V → Hp → VK → Prop := fun xs H Q => ∃ (a : Addr) (kvs : List (Key × V)) (ks : List Int), xs = [.ref a] ∧ Rd H a (.dK kvs) ∧ kvs.map (·.1) = ks.map Sum.inl ∧ ks.length < 64 ∧ ∀ (ys : List Int) (p : Addr), ys.Perm ks → ys.Pairwise (· ≤ ·) → H p = none → Q (.ref p) (upd H p (.lst (ys.map V.int)))
/-- sorted(d), keys ints -/
theorem ex_sortD {e : α → D} {d : List (Int × α)} (h : EvE K te env (eK Sum.inl e d)) (c : d.length < 64) : EvX K (tCB rSortDI (tCons te tNil)) env (oL (oF D.int) (sortI (d.map (·.1)))) := fun B F σ hs vs Q q => (ea_cons h ea_nil) B F σ hs vs _ fun B1 F1 xs g r => by
  obtain ⟨x, rfl, r1⟩ := reps1 r
  have r1 : Rep K B1 (.dic _ _) x := r1
  unfold Rep at r1
  obtain ⟨a, ws, rfl, e1, e2, e3⟩ := r1
  refine ⟨a, _, d.map (·.1), rfl, rd_mono g.f e1, ?_, by simpa using c, fun ys p h1 h2 hp => ?_⟩
  · have hl : (d.map fun q => Sum.inl (β := Str) q.1).length = ws.length := by rw [e3.len]; simpa using e2
    rw [List.map_fst_zip (by omega), List.map_map]; rfl
  · have := sortI_uniq h1 h2
    subst this
    have w := en_new (K := K) (ds := (sortI (d.map (·.1))).map D.int) (Q := Q) g hp (reps_ints _)
    rw [ol_eq] at q
    exact w q
/-- sorted(xs) of ints -/
theorem ex_sortL {ns : List Int} (h : EvE K te env (eL D.int ns)) (c : ns.length < 64) : EvX K (tCB (rSorted K) (tCons te tNil)) env (oL (oF D.int) (sortI ns)) := fun B F σ hs vs Q q => (ea_cons h ea_nil) B F σ hs vs _ fun B1 F1 xs g r => by
  obtain ⟨x, rfl, r1⟩ := reps1 r
  have r1 : Rep K B1 (.lst (ns.map .int)) x := r1
  unfold Rep at r1
  obtain ⟨a, ws, rfl, e1, e2⟩ := r1
  have := e2.ints
  subst this
  refine ⟨a, ns, rfl, g.f.seq e1, c, fun ys p h1 h2 hp => ?_⟩
  have := sortI_uniq h1 h2
  subst this
  have w := en_new (K := K) (ds := (sortI ns).map D.int) (Q := Q) g hp (reps_ints _)
  rw [ol_eq] at q
  exact w q
/-! new lists -/
theorem ex_l {t : TA} {o : α → O} {xs : List α} {os : List O} (h : EvXs K t env os) (e : os = xs.map o) (hz : xs.length ≤ 100000) : EvX K (tLst t) env (oL o xs) := by
  subst e; exact ex_lst h (by simpa using hz)
theorem ex_nil {o : α → O} : EvX K (tLst tNil) env (oL o ([] : List α)) := ex_l exs_nil rfl (by simp)
theorem ex_list {e : α → D} {xs : List α} (h : EvE K te env (eL e xs)) : EvX K (tCB (rListOf K) (tCons te tNil)) env (oL (oF e) xs) := by rw [ol_eq]; exact en_listL h
theorem ex_listU {e : α → D} {xs : List α} (h : EvE K te env (eU e xs)) : EvX K (tCB (rListOf K) (tCons te tNil)) env (oL (oF e) xs) := by rw [ol_eq]; exact en_listT h
theorem ex_listQ {e : α → D} {q : Bool × List α} (h : EvE K te env (eQ e q)) : EvX K (tCB (rListOf K) (tCons te tNil)) env (oL (oF e) q.2) := by rw [ol_eq]; exact en_listQ (b := q.1) h
theorem ee_tupleL {e : α → D} {xs : List α} (h : EvE K te env (eL e xs)) : EvE K (tCB (rTupOf K) (tCons te tNil)) env (eU e xs) := ee_tupL h
theorem ex_cat {e : α → D} {xs ys : List α} (h1 : EvE K ta env (eL e xs)) (h2 : EvE K tb env (eL e ys)) (hz : xs.length + ys.length ≤ 100000) : EvX K (tOp (rCatS K) ta tb) env (oL (oF e) (xs ++ ys)) := by
  have := en_cat h1 h2 (by simpa using hz)
  rw [← List.map_append] at this
  rw [ol_eq]; exact this
theorem ex_sl {e : α → D} {xs : List α} {tl th : TO} {lo hi : Option Int} (h : EvE K te env (eL e xs)) (h1 : EvO K tl env lo) (h2 : EvO K th env hi) : EvX K (tSl (rSlL K) te tl th) env (oL (oF e) (cutD xs lo hi)) := by
  have := en_slL h h1 h2
  rw [cutD_map] at this
  rw [ol_eq]; exact this
/-! None or a value -/
theorem ee_some {e : α → D} {v : α} (h : EvE K te env (e v)) : EvE K te env (eN e (some v)) := h
theorem ee_none' {e : α → D} : EvE K (tC .non) env (eN e none) := ee_non
theorem ee_get [Inhabited α] {e : α → D} {v : Option α} (h : EvE K te env (eN e v)) (c : v.isSome = true) : EvE K te env (e (v.getD default)) := by
  cases v with
  | none => cases c
  | some a => exact h
end
end Y

/-! X4: passing looks, typed. -/
namespace Y
open PySem PySem.Spec PyProof.Rows L2
section
variable {K : PySem.W.Frag} {env : List Slot} {te ta tb tk to : TE} {tt : TT} {α β σ κ : Type}
theorem ee_pkS (i : Nat) {o : β → O} {e0 : β → D} {v : β} {d : D} (he : env[i]? = some (.own (o v))) (f : Frz o e0) (h : EvE K te (env.set i (.val (e0 v))) d) (hd : Scal d) : EvE K te env d := ee_peekS i he (by rw [f v]; exact h) hd
theorem ee_pk (i : Nat) {o : β → O} {e0 : β → D} {v : β} {d : D} (he : env[i]? = some (.own (o v))) (f : Frz o e0) (n : ∀ a, NoTup (o a)) (h : EvE K te (env.set i (.val (e0 v))) d) (hd : Ind d) : EvE K te env d := ee_peek i he (n v) (by rw [f v]; exact h) hd
theorem et_pk (i : Nat) {o : β → O} {e0 : β → D} {v : β} {b : Bool} (he : env[i]? = some (.own (o v))) (f : Frz o e0) (h : EvT K tt (env.set i (.val (e0 v))) b) : EvT K tt env b := et_peek i he (by rw [f v]; exact h)
theorem ex_pk (i : Nat) {o : β → O} {e0 : β → D} {v : β} {o2 : O} (he : env[i]? = some (.own (o v))) (f : Frz o e0) (n : ∀ a, NoTup (o a)) (h : EvX K te (env.set i (.val (e0 v))) o2) (hd : IndO o2) : EvX K te env o2 := ex_peek i he (n v) (by rw [f v]; exact h) hd
theorem xe_pkS (i : Nat) {o : β → O} {e0 : β → D} {v : β} {m : G α} {e : α → D} (he : env[i]? = some (.own (o v))) (f : Frz o e0) (h : XE K te (env.set i (.val (e0 v))) m e) (hd : ∀ a, Scal (e a)) : XE K te env m e := fun ok => ee_pkS i he f (h ok) (hd _)
theorem xe_pk (i : Nat) {o : β → O} {e0 : β → D} {v : β} {m : G α} {e : α → D} (he : env[i]? = some (.own (o v))) (f : Frz o e0) (n : ∀ a, NoTup (o a)) (h : XE K te (env.set i (.val (e0 v))) m e) (hd : ∀ a, Ind (e a)) : XE K te env m e := fun ok => ee_pk i he f n (h ok) (hd _)
theorem xt_pk (i : Nat) {o : β → O} {e0 : β → D} {v : β} {m : G Bool} (he : env[i]? = some (.own (o v))) (f : Frz o e0) (h : XT K tt (env.set i (.val (e0 v))) m) : XT K tt env m := fun ok => et_pk i he f (h ok)
theorem xo_pk (i : Nat) {o : β → O} {e0 : β → D} {v : β} {m : G α} {o2 : α → O} (he : env[i]? = some (.own (o v))) (f : Frz o e0) (n : ∀ a, NoTup (o a)) (h : XO K te (env.set i (.val (e0 v))) m o2) (hd : ∀ a, IndO (o2 a)) : XO K te env m o2 := fun ok => ex_pk i he f n (h ok) (hd _)
theorem sc_int : ∀ a, Scal (D.int a) := fun _ => trivial
theorem sc_bl : ∀ a, Scal (D.bl a) := fun _ => trivial
theorem sc_str : ∀ a, Scal (D.str a) := fun _ => trivial
/-! own tuples -/
theorem nt_none : True := trivial
/-- t[0].append(e), t[1].append(e): t a pair of one's own -/
theorem el_ixT {i : Nat} {o : O} {js : List Nat} {k : Int} {j : Nat} {xs : List O} (e : env[i]? = some (.own o)) (h : EvL K te env i js) (h2 : EvE K tb env (.int k)) (hn : nodeAt o js = some (.ow .tup xs)) (hk : ixN xs.length k = some j) (hj : j < xs.length) : EvL K (tOp (rIxT K) te tb) env i (js ++ [j]) := fun B F σ hs ⟨Ps, vs⟩ Q q => by
  refine h B F σ hs ⟨Ps, vs⟩ _ fun B1 F1 x0 x g1 e0 r1 => h2 B1 F1 σ g1.f ⟨Ps, vs.grow g1⟩ _ fun B2 F2 y g2 r2 => ?_
  unfold Rep at r2; subst r2
  have vs2 := (vs.grow g1).grow g2
  obtain ⟨x0', a1, a2⟩ := vs2.own i o e
  rw [e0] at a1; cases a1
  obtain ⟨p, u, ws, Po, rfl, b2, b3, b4, _⟩ := own_upd a2 hn (r1.mono g2.s)
  have b3 : u = .tup ws := b3
  subst b3
  have hl := b4.len
  have hj' : j < ws.length := by omega
  refine ⟨p, ws, k, ws[j], rfl, rfl, .inl (.inl b2), ?_, q B2 F2 x0 _ (g1.trans g2) e0 ((r1.mono g2.s).snoc b2 (by show ws[j]? = _; exact List.getElem?_eq_getElem hj'))⟩
  unfold atI
  rw [hl, hk]
  exact List.getElem?_eq_getElem hj'
theorem st_appT2a {i : Nat} {o : α → O} {o2 : β → O} {q : List α × β} {v : α} (e : env[i]? = some (.own (oT2 (oL o) o2 q))) (h : EvX K te env (o v)) :
    St K (tDrop (tBM K "list" rAppend (tOp (rIxT K) (tVar i) (tC (.int 0))) (tCons te tNil))) env ⟨q.1.length ≤ 100000, (q.1 ++ [v], q.2)⟩ (fun ys => env.set i (.own (oT2 (oL o) o2 ys))) :=
  st_app (js := [0]) (xs := q.1.map o) (o2 := o v) e (fun _ => el_ixT (js := []) (k := 0) (j := 0) e (el_var e) ee_int rfl rfl (by simp)) (fun _ => rfl) (fun _ => h) (fun c => by simpa using c) (fun _ => by
    show O.ow .tup [O.ow .lst _, _] = O.ow .tup [O.ow .lst _, _]
    rw [List.map_append]; rfl)
theorem st_appT2b {i : Nat} {o : α → O} {o2 : β → O} {q : β × List α} {v : α} (e : env[i]? = some (.own (oT2 o2 (oL o) q))) (h : EvX K te env (o v)) :
    St K (tDrop (tBM K "list" rAppend (tOp (rIxT K) (tVar i) (tC (.int 1))) (tCons te tNil))) env ⟨q.2.length ≤ 100000, (q.1, q.2 ++ [v])⟩ (fun ys => env.set i (.own (oT2 o2 (oL o) ys))) :=
  st_app (js := [1]) (xs := q.2.map o) (o2 := o v) e (fun _ => el_ixT (js := []) (k := 1) (j := 1) e (el_var e) ee_int rfl rfl (by simp)) (fun _ => rfl) (fun _ => h) (fun c => by simpa using c) (fun _ => by
    show O.ow .tup [_, O.ow .lst _] = O.ow .tup [_, O.ow .lst _]
    rw [List.map_append]; rfl)
/-! parts of tuples, by their places -/
theorem ee_fst {e : α → D} {f : β → D} {q : α × β} (h : EvE K te env (eT2 e f q)) : EvE K (tOp (rIxT K) te (tC (.int 0))) env (e q.1) := ee_ixT h ee_int rfl
theorem ee_snd {e : α → D} {f : β → D} {q : α × β} (h : EvE K te env (eT2 e f q)) : EvE K (tOp (rIxT K) te (tC (.int 1))) env (f q.2) := ee_ixT h ee_int rfl
theorem ee_31 {γ : Type} {e : α → D} {f : β → D} {g : γ → D} {q : α × β × γ} (h : EvE K te env (eT3 e f g q)) : EvE K (tOp (rIxT K) te (tC (.int 0))) env (e q.1) := ee_ixT h ee_int rfl
theorem ee_32 {γ : Type} {e : α → D} {f : β → D} {g : γ → D} {q : α × β × γ} (h : EvE K te env (eT3 e f g q)) : EvE K (tOp (rIxT K) te (tC (.int 1))) env (f q.2.1) := ee_ixT h ee_int rfl
theorem ee_33 {γ : Type} {e : α → D} {f : β → D} {g : γ → D} {q : α × β × γ} (h : EvE K te env (eT3 e f g q)) : EvE K (tOp (rIxT K) te (tC (.int 2))) env (g q.2.2) := ee_ixT h ee_int rfl
/-! None -/
def Nn (e : α → D) : Prop := ∀ (K : PySem.W.Frag) (H : Hp) (a : α) (x : V), Rep K H (e a) x → x ≠ .non
theorem nn_int : Nn D.int := fun K H a x r => by unfold Rep at r; subst r; intro z; cases z
theorem nn_t2 {e : α → D} {f : β → D} : Nn (eT2 e f) := fun K H a x r => by
  have r : Rep K H (.tup _) x := r
  unfold Rep at r
  obtain ⟨p, ws, rfl, _⟩ := r
  intro z; cases z
theorem nn_l {e : α → D} : Nn (eL e) := fun K H a x r => by
  have r : Rep K H (.lst _) x := r
  unfold Rep at r
  obtain ⟨p, ws, rfl, _⟩ := r
  intro z; cases z
theorem ee_isNT {e : α → D} {v : Option α} (hn : Nn e) (h : EvE K ta env (eN e v)) : EvE K (tOp (fun x y H Q => y = .non ∧ Q (.bl (decide (x = .non))) H) ta (tC .non)) env (.bl v.isNone) := ee_op h ee_non fun B F x y hf r1 r2 Q q => by
  unfold Rep at r2
  refine ⟨r2, ?_⟩
  have : decide (x = .non) = v.isNone := by
    cases v with
    | none =>
      have r1 : Rep K B .non x := r1
      unfold Rep at r1; subst r1; rfl
    | some a => exact decide_eq_false (hn _ _ _ _ r1)
  rw [this]
  exact q B F _ (Gr.refl hf) (rp_bl B)
theorem ee_notNT {e : α → D} {v : Option α} (hn : Nn e) (h : EvE K ta env (eN e v)) : EvE K (tOp (fun x y H Q => y = .non ∧ Q (.bl (!decide (x = .non))) H) ta (tC .non)) env (.bl v.isSome) := ee_op h ee_non fun B F x y hf r1 r2 Q q => by
  unfold Rep at r2
  refine ⟨r2, ?_⟩
  have : (!decide (x = .non)) = v.isSome := by
    cases v with
    | none =>
      have r1 : Rep K B .non x := r1
      unfold Rep at r1; subst r1; rfl
    | some a =>
      have : decide (x = .non) = false := decide_eq_false (hn _ _ _ _ r1)
      rw [this]; rfl
  rw [this]
  exact q B F _ (Gr.refl hf) (rp_bl B)
/-! isinstance -/
theorem ee_isiI {n : String} {b : Bool} {i : Int} (h : EvE K te env (.int i)) (hb : PySem.W.kitOne K (.type "int") (.type n) = some b) : EvE K (tCB (rIsi K) (tCons te (tCons (tC (.ty n)) tNil))) env (.bl b) :=
  ee_isi (v := .int i) (t := "int") h rfl (fun _ => .base (.int i)) hb
theorem ee_isiT {n : String} {b : Bool} {ds : List D} (h : EvE K te env (.tup ds)) (hb : PySem.W.kitOne K (.type "tuple") (.type n) = some b) :
    EvE K (tCB (rIsi K) (tCons te (tCons (tC (.ty n)) tNil))) env (.bl b) := ee_cb (ea_cons h (ea_cons (d := .v (.ty n)) ee_v ea_nil)) fun B F xs hs r Q q => by
  obtain ⟨x, y, rfl, r1, r2⟩ := reps2 r
  unfold Rep at r1 r2; subst r2
  obtain ⟨a, ws, rfl, e1, e2⟩ := r1
  refine ⟨.ref a, _, .type "tuple", _, b, rfl, .ty n, ?_, hb, q B F _ (Gr.refl hs) (rp_bl B)⟩
  rcases e1 with (e1 | ⟨o, e1⟩) | ⟨o, its, m, e1, e2, _⟩
  · exact .base (.tup (hs _ _ e1))
  · exact .fTuple (hs _ _ e1)
  · exact .kTuple e1 e2
theorem ee_isiL {n : String} {b : Bool} {ds : List D} (h : EvE K te env (.lst ds)) (hb : PySem.W.kitOne K (.type "list") (.type n) = some b) :
    EvE K (tCB (rIsi K) (tCons te (tCons (tC (.ty n)) tNil))) env (.bl b) := ee_cb (ea_cons h (ea_cons (d := .v (.ty n)) ee_v ea_nil)) fun B F xs hs r Q q => by
  obtain ⟨x, y, rfl, r1, r2⟩ := reps2 r
  unfold Rep at r1 r2; subst r2
  obtain ⟨a, ws, rfl, e1, e2⟩ := r1
  refine ⟨.ref a, _, .type "list", _, b, rfl, .ty n, ?_, hb, q B F _ (Gr.refl hs) (rp_bl B)⟩
  rcases e1 with (e1 | ⟨o, e1⟩) | ⟨o, its, m, e1, e2, _⟩
  · exact .base (.lst (hs _ _ e1))
  · exact .base (.frz (hs _ _ e1))
  · exact .kList e1 e2
end
end Y

/-! X5: what the generator names. -/
namespace Y
open PySem PySem.Spec PyProof.Rows L2
section
variable {K : PySem.W.Frag} {env : List Slot} {te ta tb tk to : TE} {tt : TT} {α β σ κ : Type}
theorem ee_ifT {e : α → D} {c : Bool} {a b : α} (h : EvT K tt env c) (h1 : EvE K ta env (e a)) (h2 : EvE K tb env (e b)) : EvE K (tIf tt ta tb) env (e (if c = true then a else b)) := ee_ifE h (fun hc => by rw [if_pos hc]; exact h1) (fun hc => by rw [if_neg (by rw [hc]; decide)]; exact h2)
theorem et_truL' {e : α → D} {xs : List α} (h : EvE K te env (eL e xs)) : EvT K (fun σ H Q => te σ H fun x H' => ∃ k, TruV K x H' k ∧ Q k H') env (!xs.isEmpty) := (et_truL h).is (by cases xs <;> rfl)
theorem et_truU' {e : α → D} {xs : List α} (h : EvE K te env (eU e xs)) : EvT K (fun σ H Q => te σ H fun x H' => ∃ k, TruV K x H' k ∧ Q k H') env (!xs.isEmpty) := (et_truT h).is (by cases xs <;> rfl)
def repZ (xs : List α) (k : Int) : List α := (List.replicate k.toNat xs).flatten
def RepOk (xs : List α) (k : Int) : Prop := -(2 ^ 63) ≤ k ∧ k < 2 ^ 63 ∧ xs.length * k.toNat ≤ 100000
theorem reps_rep {H : Hp} {ds : List D} {vs : List V} (r : Reps K H ds vs) : ∀ n : Nat, Reps K H (List.replicate n ds).flatten (List.replicate n vs).flatten
  | 0 => Reps.nil
  | n + 1 => by
    rw [List.replicate_succ, List.replicate_succ, List.flatten_cons, List.flatten_cons]
    exact r.append (reps_rep r n)
theorem ex_rep {e : α → D} {xs : List α} {k : Int} (h1 : EvX K ta env (oL (oF e) xs)) (h2 : EvE K tb env (.int k)) (c : RepOk xs k) : EvX K (tOp rRep ta tb) env (oL (oF e) (repZ xs k)) := fun B F σ hs vs Q q =>
  h1 B F σ hs vs _ fun B1 F1 x P g1 w hp => h2 B1 F1 σ g1.f (vs.grow g1) _ fun B2 F2 y g2 r2 => by
    unfold Rep at r2; subst r2
    rw [ol_eq] at w
    unfold Own at w
    obtain ⟨p, u, ws, P', rfl, a2, a3, a4, a5, a6⟩ := w
    have a3 : u = .lst ws := a3
    subst a3
    have r := a4.frs.1.mono g2.b
    refine ⟨p, k, ws, rfl, rfl, g2.s _ _ a2, c.1, c.2.1, ?_, fun p2 np2 => ?_⟩
    · rw [r.len, List.length_map]
      exact Nat.le_trans c.2.2 (by decide)
    · have e2 : (repZ xs k).map e = (List.replicate k.toNat (xs.map e)).flatten := by
        unfold repZ
        rw [List.map_flatten, List.map_replicate]
      have w2 := en_new (K := K) (Q := Q) (g1.trans g2) np2 (ds := (List.replicate k.toNat (xs.map e)).flatten) (reps_rep r k.toNat)
      rw [← e2] at w2
      rw [ol_eq] at q
      exact w2 q
end
/-! an if that is left in part -/
section
variable {K : PySem.W.Frag} {env : List Slot} {te : TE} {tt : TT} {t u A : TS} {β σ τ : Type} {T : Ends → Prop} {Φ : Phi τ} {N : σ → List Slot}
def PM (K : PySem.W.Frag) (Φ : Phi τ) (N : σ → List Slot) : Phi (Sum τ σ) := fun H0 H1 E v => match v with
  | .inl t => Φ H0 H1 E t
  | .inr s => Nx K H0 H1 E.nx (N s)
theorem xm_in {v : τ} (h : Blk K T Φ t env (.p v)) : Blk K T (PM K Φ N) t env (.p (.inl v)) := fun H0 H1 E hT _ hΦ => h H0 H1 E hT trivial hΦ
theorem xm_next {s : σ} (h : Sub env (N s)) : Blk K T (PM K Φ N) tNext env (.p (.inr s)) := fun H0 H1 E _ _ hΦ => nx_sub h hΦ
theorem xm_one {m : G β} {M : β → List Slot} {g : β → σ} (h : St K t env m M) (hs : ∀ s, Sub (M s) (N (g s))) : Blk K T (PM K Φ N) t env (m.b fun s => .p (.inr (g s))) := fun H0 H1 E _ ok hΦ => h H0 H1 E ok.1 (nx_sub (hs _) hΦ)
theorem xb_mix {c : Bool} {ma : G (Sum τ σ)} {s0 : σ} {k : σ → G τ} (ni : Ni Φ) (h : EvT K tt env c) (h1 : Blk K TyA (PM K Φ N) A env ma) (h0 : Sub env (N s0)) (hk : ∀ s, Blk K T Φ u (N s) (k s)) :
    Blk K T Φ (tSeq (tIfS tt A tNext) u) env ((G.ite c ma (.p (.inr s0))).on id k) := fun H0 H1 E hT ok hΦ => by
  have ok1 : (c = true → ma.ok) ∧ (c = false → True) := ok.1
  have fin : ∀ s, (G.ite c ma (.p (.inr s0))).val = .inr s → Nx K H0 H1 (u E) (N s) := fun s hv => by
    refine hk s H0 H1 E hT (ok.2 s hv) ?_
    have : ((G.ite c ma (.p (.inr s0))).on id k).val = (k s).val := by show (match (G.ite c ma (.p (.inr s0))).val with | .inl r => id r | .inr s => (k s).val) = _; rw [hv]
    rw [this] at hΦ; exact hΦ
  have out : ∀ v, (G.ite c ma (.p (.inr s0))).val = .inl v → Φ H0 H1 E v := fun v hv => by
    have : ((G.ite c ma (.p (.inr s0))).on id k).val = v := by show (match (G.ite c ma (.p (.inr s0))).val with | .inl r => id r | .inr s => (k s).val) = _; rw [hv]; rfl
    rw [this] at hΦ; exact hΦ
  refine go_if (E := { E with nx := u E }) h (fun hc => ?_) (fun hc => ?_)
  · have hv : (G.ite c ma (.p (.inr s0))).val = ma.val := by show (if c = true then _ else _) = _; rw [if_pos hc]
    refine h1 H0 H1 _ trivial (ok1.1 hc) ?_
    cases hm : ma.val with
    | inl v => exact ni _ _ _ _ _ (out v (hv.trans hm))
    | inr s => exact fin s (hv.trans hm)
  · have hv : (G.ite c ma (.p (.inr s0))).val = .inr s0 := by show (if c = true then _ else _) = _; rw [if_neg (by rw [hc]; decide)]; rfl
    exact nx_sub h0 (fin s0 hv)
end
section
variable {X : Cx}
theorem get_list : PGet X (rIxL X.K) := by
  intro pins s σ H x y v u Q I rx ry h
  obtain ⟨p, xs, i, z, rfl, rfl, hq, he, q⟩ := h
  cases rx
  obtain ⟨t, rfl⟩ := ry
  obtain ⟨its, r, pl, hz⟩ := I.list hq
  obtain ⟨j, h1, h2, h3, h4, h5⟩ := atI_get he
  obtain ⟨w, ew, rw'⟩ := r.get h2
  have hl := r.length
  have hn := line63
  have fin : EP X pins σ Q w s := ⟨z, H, I, rw', q⟩
  by_cases h0 : 0 ≤ i
  · have hj : i.toNat = j := by
      rw [seqIndex_of h0 h5] at h1
      exact Option.some.inj h1
    exact wpAny_getItem_list pl.isList h0 (by omega) (by rw [hj]; simpa using ew) fin
  · have hj : (i + (its.toArray.size : Int)).toNat = j := by
      rw [seqIndex_neg (by omega) h4] at h1
      rw [List.size_toArray, ← hl]
      exact Option.some.inj h1
    exact wpAny_getItem_list_neg pl.isList (by omega) (by rw [List.size_toArray] <;> omega) (by omega) (by rw [hj]; simpa using ew) fin
theorem k_get_list (K : PySem.W.Frag) (h : X.K = K := by rfl) : PGet X (rIxL K) := by subst h; exact get_list
theorem k_sorted (K : PySem.W.Frag) (h : X.K = K := by rfl) : CallR X (.builtin "sorted") (rSorted K) := by subst h; exact cr_sorted
end
end Y

/-! X6: enumerate of a list or a tuple. -/
namespace Y
open PySem PySem.Spec PyProof.Rows L2
/-- the tuple at a as it stands at each turn, with the turn's number -/
def IteT (K : PySem.W.Frag) (a : Addr) : It where
  go := fun i H => ∃ xs y, SqT K H a xs ∧ xs[i]? = some y
  yld := fun i H v H' => ∃ T y, v = .ref T ∧ H T = none ∧ H' = upd H T (.tup [.int (i : Nat), y]) ∧ ∀ xs, SqT K H a xs → xs[i]? = some y
  stop := fun i H => ∃ xs, SqT K H a xs ∧ xs.length ≤ i
def iEnumQ (K : PySem.W.Frag) (ta : TA) : TI := fun σ H R => ta σ H fun vs H1 => ∃ a xs, vs = [.ref a] ∧ ((SqL K H1 a xs ∧ R (Ite K a) H1) ∨ (SqT K H1 a xs ∧ R (IteT K a) H1))
theorem walk_enumT {K : PySem.W.Frag} {a : Addr} {ws : List V} : Walk (IteT K a) ws.length (fun F => SqT K F a ws) (YPair (fun i => some (.int (i : Nat))) (fun i => ws[i]?)) :=
  ⟨fun i F hi h => ⟨ws, ws[i], h, by simp [hi]⟩, fun F h => ⟨ws, h, Nat.le_refl _⟩, fun i F v F' hi h ⟨T, y, e1, e2, e3, e4⟩ => ⟨T, .int (i : Nat), y, e1, e2, e3, rfl, e4 ws h⟩⟩
/-- enumerate(t) of a tuple: what is laid -/
theorem enumT_new (t : Addr) (items : Array Value) (n : Nat) (dct : Option Addr) (sl : Array (Option Value)) : Meets (Builtin.«enumerate.__new__» ⟨[.type "enumerate", .ref t], []⟩) (fun _ R s =>
    s.heap.get? t = some { cls := .type "tuple", dict := dct, data := .seq items n, slots := sl } ∧ R (.ok (.ret (.ref (s.heap.push { cls := .type "tuple_iterator", data := .fields #[.ref t, .int 0 0] }).objs.size)))
      { s with heap := (s.heap.push { cls := .type "tuple_iterator", data := .fields #[.ref t, .int 0 0] }).push { cls := .type "enumerate", data := .fields #[.none, .bool false, .ref s.heap.objs.size, rawInt 0, .none, .none] } }) := by
  refine .of_wp fun prog w A R s h => ?_
  obtain ⟨hp, g, d, tk, os⟩ := s
  obtain ⟨ht, h⟩ := h
  have sb := sub_enumerate
  have hT : Heap.IsTuple (Shared.heap ⟨hp, g, d, tk, os⟩) t items := ⟨_, ht, rfl, n, rfl⟩
  have q1 : ∀ {A' : Around} {E Q : Value → Shared → Prop}, Q (.ref hp.objs.size) ⟨hp.push { cls := .type "tuple_iterator", data := .fields #[.ref t, .int 0 0] }, g, d, tk, os⟩ → wpAny (model prog w) A' (pyIter (.ref t)) Q E ⟨hp, g, d, tk, os⟩ := fun q => wpAny_pyIter_tuple hT q
  have q2 := @AutoSeq1.wpAny_loadPart'
  wp_walk using q1, AutoSeq1.wpAny_loadPart' ht
  refine wpAny_stack_any fun st => ?_
  refine wpAny_pure ?_
  split
  · rename_i c _ _ _ _ _
    cases hcc : (c == Value.type "enumerate") <;> (wp_walk using q1, AutoSeq1.wpAny_loadPart' ht; exact ⟨_, rfl, h⟩)
  · wp_walk using q1, AutoSeq1.wpAny_loadPart' ht
    exact ⟨_, rfl, h⟩
theorem enumT_call {prog : Program} {w : World} {A : Around} {E : Value → Shared → Prop} {s : Shared} {t : Addr} {items : Array Value} {Q : Value → Shared → Prop} (hT : s.heap.IsTuple t items)
    (h : ∀ h', IsEnum h' (s.heap.objs.size + 1) s.heap.objs.size 0 .none → h'.IsTupleIter s.heap.objs.size t 0 → (∀ b o, s.heap.get? b = some o → h'.get? b = some o) → Q (.ref (s.heap.objs.size + 1)) { s with heap := h' }) :
    wpAny (model prog w) A (call (.type "enumerate") [.ref t]) Q E s := by
  obtain ⟨⟨c, dct, dt, sl⟩, ht, (hc : c = _), n, (hd : dt = _)⟩ := hT
  subst hc hd
  refine callType_new F.called_enumerate (by decide) (F.typeCall_enumerate_1 _) (F.newCall_enumerate_1 _) (fun obj => F.args_object_init_2 obj _) F.entry_enumerate_new (enumT_new t items n dct sl) ⟨ht, ?_⟩
  generalize hO : ({ cls := .type "tuple_iterator", data := .fields #[.ref t, .int 0 0] } : Obj) = itO
  have hfr : itO.isFreed = false := by subst hO; rfl
  have hz : (s.heap.push itO).objs.size = s.heap.objs.size + 1 := Heap.size_push ..
  have he := Heap.get?_push_size (s.heap.push itO) (o := { cls := .type "enumerate", data := .fields #[.none, .bool false, .ref s.heap.objs.size, rawInt 0, .none, .none] }) rfl
  show _ ∧ _
  rw [hz] at he ⊢
  refine ⟨⟨_, he, rfl⟩, h _ he ⟨_, Heap.get?_push_of_some _ (Heap.get?_push_size _ hfr), ?_, ?_⟩ fun b o x => Heap.get?_push_of_some _ (Heap.get?_push_of_some _ x)⟩
  · subst hO; rfl
  · subst hO; rfl
theorem wpAny_pyNext_enum_tupEnd {prog : Program} {w : World} {A : Around} {E : Value → Shared → Prop} {s : Shared} {e it t : Addr} {i : Nat} {items : Array Value} {old : Value} {Q : Option Value → Shared → Prop} (hh : A.in1.handled = none)
    (he : IsEnum s.heap e it i old) (hit : s.heap.IsTupleIter it t i) (hT : s.heap.IsTuple t items) (hne : t ≠ it) (hx : items[i]? = none) (hQ : ∀ h', Heap.ExtBut it s.heap h' → Q none { s with heap := h' }) : wpAny (model prog w) A (pyNext (.ref e)) Q E s := by
  have hty : s.TypeIs (.ref e) "enumerate" := ⟨_, he, rfl⟩
  unfold pyNext
  refine wpAny_bind (wpAny_attempt (wpAny_callSpecial?_slot (name := Str.ofString "__next__") hty F.slot_enumerate_next (wpAny_call_entry F.slot_enumerate_next hty F.entry_enumerate_next ?_ (F.args_enumerate_next_1 _))))
  show wpAny _ _ (field (.ref e) 2 >>= _) _ _ _
  refine wpAny_bind (wpAny_field he rfl (x := .ref it) rfl ?_)
  refine wpAny_bind (wpAny_nextOf_tuple_end hh hit hT hx fun h' x he' ⟨o, ho, hc⟩ => ?_)
  exact wpAny_bind (wpAny_isInstance (T := "StopIteration") (b := true) ⟨o, ho, hc⟩ isSubtype_stop (wpAny_pure (hQ _ he')))
theorem turn_enumT {P : Program} {w : World} {K : PySem.W.Frag} {elts : List Expr} {kk : Nat} {tpos : Pos} (a e it : Addr) :
    Turn P w K (.Tuple elts kk tpos) (IteT K a) [e, it] e (fun i h => (∃ old, IsEnum h e it ((i : Nat) : Int) old) ∧ h.IsTupleIter it a i ∧ e ≠ it ∧ a ≠ it ∧ e ≠ a) := by
  have two : ∀ {b : Addr}, b ∈ [e, it] → b = e ∨ b = it := fun hb => by simpa using hb
  refine ⟨by simp, fun i h st b hb => ?_, fun i h h' st k => ?_, ?_, ?_, fun A i s Q E st h => ?_⟩
  · obtain ⟨⟨old, he⟩, ⟨o, ho, hc, hd⟩, _⟩ := st
    rcases two hb with rfl | rfl
    · exact ⟨_, he, fun v q => nomatch q⟩
    · exact ⟨o, ho, fun v q => by rw [hd] at q; cases q⟩
  · obtain ⟨⟨old, he⟩, hi, hn⟩ := st
    exact ⟨⟨old, k e (by simp) _ he⟩, hi.at fun o q => k it (by simp) o q, hn⟩
  · intro X hP hw hK hc i pins s σ H E I hf st hg
    subst hP hw hK
    obtain ⟨⟨old, he⟩, hit, hn1, hn2, hn3⟩ := st
    obtain ⟨xs, y, hq, hy⟩ := hg
    obtain ⟨its, rv, p, hz⟩ := I.tuple hq
    obtain ⟨u, hu, ru⟩ := rv.get hy
    have hlt : i < its.toArray.size := by
      have := (List.getElem?_eq_some_iff.mp hu).1
      simpa using this
    have hA1 : X.A.in1.handled = none := I.ok.hd hc
    have D := Draws.tuple (prog := X.prog) (w := X.w) hA1 it a hn2 its.toArray
    have hlE : e < s.heap.objs.size := Heap.lt_size he
    have hlI : it < s.heap.objs.size := by obtain ⟨_, q, _⟩ := hit; exact Heap.lt_size q
    refine wpAny_pyNext_enum_itemD D he ⟨hit, p⟩ hlt hn1 (by simp [hn1, hn3]) fun x h' tk hx ho st' hT hsz hk => ?_
    have hx' : its.toArray[i]? = some x := hx
    have : x = u := by
      have h1 : its[i]? = some x := by simpa using hx'
      rw [hu] at h1; exact (Option.some.inj h1).symm
    subst this
    refine ⟨_, rfl, wpAny_letOwnedTupleGo_enum (s := { s with heap := h', toks := tk + 1 }) ho fun h2 he2 sb => ?_⟩
    have hT2 := (sb.2 s.heap.objs.size (Nat.ne_of_gt hlE)).trans hT
    have ob : ObjOk X.prog X.w (upd H s.heap.objs.size (.tup [.int (i : Nat), y])) h2 s.heap.objs.size (.tup [.int (i : Nat), y]) :=
      ⟨by show 2 ≤ sizeLine; decide, [.int i tk, x], .cons ⟨_, rfl⟩ (.cons ru .nil), ⟨_, hT2, rfl, _, rfl⟩⟩
    have I1 : Inv X pins σ (upd H s.heap.objs.size (.tup [.int (i : Nat), y])) { s with heap := h2, toks := tk + 1 } :=
      I.turnedNew (ch := [e, it]) (fun b ob hb q => (sb.2 b fun z => hb (by simp [z])).trans (hk b ob (fun z => hb (by simp [z])) (fun z => hb (by simp [z])) q)) hf (Nat.le_refl _) ob
    refine ⟨.ref s.heap.objs.size, _, I1, rfl, ⟨_, y, rfl, I.hok.fresh (Nat.le_refl _), rfl, fun ys hy' => by rw [I.tuple_inj hy' hq]; exact hy⟩, ⟨⟨x, ?_⟩, st'.1.at fun o q => (sb.2 it (Ne.symm hn1)).trans q, hn1, hn2, hn3⟩, fun b hb => ?_⟩
    · rw [show ((i + 1 : Nat) : Int) = (i : Int) + 1 by omega]; exact he2
    · have hb' : b < s.heap.objs.size := by
        rcases two hb with rfl | rfl
        · exact hlE
        · exact hlI
      rw [upd_ne (Nat.ne_of_lt hb')]
      exact (hf b hb).1
  · intro X hP hw hK hc i pins s σ H E I hf st hg
    subst hP hw hK
    obtain ⟨⟨old, he⟩, hit, hn1, hn2, hn3⟩ := st
    obtain ⟨xs, hq, hx⟩ := hg
    obtain ⟨its, rv, p, hz⟩ := I.tuple hq
    obtain ⟨f0, f1, f2, f3, f4, f5⟩ := hf it (by simp)
    have hl := rv.length
    have hA1 : X.A.in1.handled = none := I.ok.hd hc
    exact wpAny_pyNext_enum_tupEnd hA1 he hit p hn2 (by simp; omega) fun h' eb => ⟨rfl, I.turned (t' := s.toks) (fun b o hb q => eb b o hb q) f0 f1 f3 f4 f5⟩
  · obtain ⟨⟨_, he⟩, _⟩ := st
    exact wpAny_pyIter_enum he h
theorem pi_enumQ {X : Cx} {e : Expr} {ta : TA} {p pos tpos : Pos} {elts : List Expr} {kk : Nat} (hg : Gl X "enumerate") (hm : X.mg "enumerate" = none) (ha : PA X [e] ta) (hs : starEach [e] X.env = [(false, eval e X.env)] := by rfl) :
    PI X (.Tuple elts kk tpos) (.Call (.Name "enumerate" p) [e] [] pos) (iEnumQ X.K ta) := by
  refine ⟨fun pins s σ H R I h => Call_ (ld_blt I hg hm boot_enumerate (PyProof.Rows.callWith_type1 (thn (ha.run pos pins s σ H _ I h) fun us s1 ⟨vs, H1, I1, r1, a, xs, ex, q⟩ => ?_) hs rfl))⟩
  subst ex
  cases r1 with
  | cons r rr =>
    cases rr
    cases r
    have fpk : ∀ b, b ∈ [s1.heap.objs.size + 1, s1.heap.objs.size] → s1.heap.objs.size ≤ b := fun b hb => by
      have z : b = s1.heap.objs.size + 1 ∨ b = s1.heap.objs.size := by simpa using hb
      rcases z with rfl | rfl
      · exact Nat.le_succ _
      · exact Nat.le_refl _
    rcases q with ⟨hq, q⟩ | ⟨hq, q⟩
    · obtain ⟨its, rv, pl, hz⟩ := I1.list hq
      refine call_enumerate_list pl.isList fun h' he hit hsz hk => wpAny_pyIter_enum he ?_
      exact ⟨s1.heap.objs.size + 1, [s1.heap.objs.size + 1, s1.heap.objs.size], _, _, H1, rfl, I1.kept (t' := s1.toks) hk, turn_enum a _ _, ⟨⟨.none, he⟩, hit, Nat.succ_ne_self _⟩, fun b hb => I1.fpOk (fpk b hb) (I1.hok.fresh (fpk b hb)), q⟩
    · obtain ⟨its, rv, pl, hz⟩ := I1.tuple hq
      have la : a < s1.heap.objs.size := by obtain ⟨o, q, _⟩ := (show s1.heap.IsTuple a its.toArray from pl); exact Heap.lt_size q
      refine enumT_call (show s1.heap.IsTuple a its.toArray from pl) fun h' he hit hk => wpAny_pyIter_enum he ?_
      exact ⟨s1.heap.objs.size + 1, [s1.heap.objs.size + 1, s1.heap.objs.size], _, _, H1, rfl, I1.kept (t' := s1.toks) hk, turn_enumT a _ _, ⟨⟨.none, he⟩, hit, Nat.succ_ne_self _, Nat.ne_of_lt la, Nat.ne_of_gt (Nat.lt_succ_of_lt la)⟩, fun b hb => I1.fpOk (fpk b hb) (I1.hok.fresh (fpk b hb)), q⟩
theorem k_pi_enumQ (K : PySem.W.Frag) {X : Cx} {e : Expr} {ta : TA} {p pos tpos : Pos} {elts : List Expr} {kk : Nat} (hg : Gl X "enumerate") (hm : X.mg "enumerate" = none) (ha : PA X [e] ta) (hs : starEach [e] X.env = [(false, eval e X.env)] := by rfl) (hK : X.K = K := by rfl) :
    PI X (.Tuple elts kk tpos) (.Call (.Name "enumerate" p) [e] [] pos) (iEnumQ K ta) := by subst hK; exact pi_enumQ hg hm ha hs
section
variable {K : PySem.W.Frag} {env : List Slot} {te : TE} {α : Type}
theorem ei_enumQ' {ds : List D} {b : Bool} (h : EvE K te env (seqD b ds)) : EvI K (iEnumQ K (tCons te tNil)) env (enum ds) := fun B F σ hs vs R q => (ea_cons h ea_nil) B F σ hs vs _ fun B1 F1 xs g r => by
  obtain ⟨x, rfl, r1⟩ := reps1 r
  cases b with
  | true =>
    have r1 : Rep K B1 (.lst ds) x := r1
    unfold Rep at r1
    obtain ⟨a, ws, rfl, e1, e2⟩ := r1
    refine ⟨a, ws, rfl, .inl ⟨g.f.seq e1, q B1 F1 _ g ⟨fun F => SqL K F a ws, fun i H x H' => i < ds.length ∧ YPair (fun i => some (.int (i : Nat))) (fun i => ws[i]?) i H x H', ?_, fun F hF => hF.seq e1, fun i B2 F2 x F3 s1 s2 y => ?_⟩⟩⟩
    · have : (enum ds).length = ws.length := by simp [enum, e2.len]
      rw [this]
      exact walk_enum.mono (fun _ h => h) fun i H x H' hi _ y => ⟨by rw [← e2.len]; exact hi, y⟩
    · obtain ⟨hi, T, x1, y1, rfl, hT, rfl, h1, h2⟩ := y
      cases h1
      have h2 : ws[i]? = some y1 := h2
      obtain ⟨z, e3, e4⟩ := e2.get (List.getElem?_eq_getElem hi)
      rw [h2] at e3; cases e3
      refine ⟨_, .tup [.int (i : Nat), ds[i]], Gr.new s2 hT, ?_, rep_new_tup (s2.free hT) (Reps.cons (rp_int _) (Reps.cons (e4.mono s1) Reps.nil))⟩
      simp [enum, hi, List.getD_eq_getElem?_getD]
  | false =>
    have r1 : Rep K B1 (.tup ds) x := r1
    unfold Rep at r1
    obtain ⟨a, ws, rfl, e1, e2⟩ := r1
    refine ⟨a, ws, rfl, .inr ⟨sqt_mono g.f e1, q B1 F1 _ g ⟨fun F => SqT K F a ws, fun i H x H' => i < ds.length ∧ YPair (fun i => some (.int (i : Nat))) (fun i => ws[i]?) i H x H', ?_, fun F hF => sqt_mono hF e1, fun i B2 F2 x F3 s1 s2 y => ?_⟩⟩⟩
    · have : (enum ds).length = ws.length := by simp [enum, e2.len]
      rw [this]
      exact walk_enumT.mono (fun _ h => h) fun i H x H' hi _ y => ⟨by rw [← e2.len]; exact hi, y⟩
    · obtain ⟨hi, T, x1, y1, rfl, hT, rfl, h1, h2⟩ := y
      cases h1
      have h2 : ws[i]? = some y1 := h2
      obtain ⟨z, e3, e4⟩ := e2.get (List.getElem?_eq_getElem hi)
      rw [h2] at e3; cases e3
      refine ⟨_, .tup [.int (i : Nat), ds[i]], Gr.new s2 hT, ?_, rep_new_tup (s2.free hT) (Reps.cons (rp_int _) (Reps.cons (e4.mono s1) Reps.nil))⟩
      simp [enum, hi, List.getD_eq_getElem?_getD]
theorem enum_enumZ [Inhabited α] {e : α → D} {xs : List α} : enum (xs.map e) = (enumZ xs).map (eT2 D.int e) := by
  unfold enum enumZ
  rw [List.map_map, List.length_map]
  apply List.map_congr_left
  intro i hi
  have hi : i < xs.length := by simpa using hi
  simp [List.getD_eq_getElem?_getD, hi]
theorem ei_enumQ [Inhabited α] {e : α → D} {q : Bool × List α} (h : EvE K te env (eQ e q)) : EvI K (iEnumQ K (tCons te tNil)) env ((enumZ q.2).map (eT2 D.int e)) := by
  rw [← enum_enumZ]; exact ei_enumQ' (b := q.1) h
end
theorem run {K : PySem.W.Frag} {env : List Slot} {t : TS} {ρ : Type} {o : ρ → O} {m : G ρ} {H0 H1 : Hp} {rt : VK} (h : Blk K TyR (PR K o) t env m) (ok : m.ok) (hrt : RtX K H0 H1 rt (o m.val)) : Go K H0 H1 t { nx := fun _ H' => rt .non H', rt := rt } env := h H0 H1 _ rfl ok hrt
end Y

/-! X7: comprehensions of any number of clauses. -/
namespace Y
open PySem PySem.Spec PyProof.Rows L2
abbrev NoX : Value → Shared → Prop := fun _ _ => False
section
variable {prog : Program} {w : World} {A : Around}
theorem thnN {α : Type} {m : Sem α} {M : Model} {E : Value → Shared → Prop} {Q1 Q2 : α → Shared → Prop} {s : Shared} (h : wpAny M A m Q1 NoX s) (k : ∀ a s', Q1 a s' → Q2 a s') : wpAny M A m Q2 E s :=
  wpAny_mono h k fun _ _ z => z.elim
/-- one turn of a clause: what is next, its store, its tests; then the body, which is to reach P -/
def Turn1 (prog : Program) (w : World) (A : Around) (env : Env) (t : Expr) (ifs : List Expr) (it : Value) (Bd : Shared → (Shared → Prop) → Prop) (Dn P : Shared → Prop) (s : Shared) : Prop :=
  wpAny (model prog w) A (pyNext it) (fun r s1 => match r with
    | none => Dn s1
    | some v => wpAny (model prog w) A (letOwnedTupleGo t it v) (fun _ s2 => wpAny (model prog w) A (assign t env v) (fun _ s3 =>
        wpAny (model prog w) A (forIn ifs true fun c r => if r = true then (do let k ← isTrue c env (eval c env); pure (ForInStep.yield k)) else pure (ForInStep.yield r)) (fun k s4 => if k = true then Bd s4 P else P s4) NoX s3) NoX s2) NoX s1) NoX s
def LoopR (prog : Program) (w : World) (A : Around) (E : Expr) (l : Nat) (env : Env) (t : Expr) (ifs : List Expr) (acc : Value) (Bd : Shared → (Shared → Prop) → Prop) : Prop :=
  ∀ (it : Value) (R : Result → Shared → Prop) (I : Nat → Shared → Prop), (∀ n s, I n s → Turn1 prog w A env t ifs it Bd (fun s' => R (.ok .next) s') (fun s' => ∃ m, m < n ∧ I m s') s) → ∀ n s, I n s → codeAny (model prog w) A (.compLoop E l it acc env) R s
/-- the innermost clause's body -/
def BdE (prog : Program) (w : World) (A : Around) (elt : Expr) (env : Env) (acc : Value) : Shared → (Shared → Prop) → Prop := fun s P =>
  wpAny (model prog w) A (eval elt env) (fun x s1 => wpAny (model prog w) A (call (.builtin "list.append") [acc, x]) (fun _ s2 => P s2) NoX s1) NoX s
/-- a clause's body that is a further clause -/
def BdC (prog : Program) (w : World) (A : Around) (E : Expr) (l : Nat) (i : Expr) (env : Env) (acc : Value) : Shared → (Shared → Prop) → Prop := fun s P =>
  wpAny (model prog w) A (eval i env) (fun x s1 => wpAny (model prog w) A (pyIter x) (fun u s2 => codeAny (model prog w) A (.compStart E l u acc env) (fun r s' => match r with
    | .ok _ => P s'
    | .error _ => False) s2) NoX s1) NoX s
variable {elt : Expr} {gens : List Comprehension} {scope : Scope} {pos : Pos} {l : Nat} {t i t' i' : Expr} {ifs ifs' : List Expr} {env : Env} {acc : Value}
theorem loop_last (h0 : gens[l]? = some ⟨t, i, ifs, 0⟩) (h1 : gens[l + 1]? = none) : LoopR prog w A (.ListComp elt gens scope pos) l env t ifs acc (BdE prog w A elt env acc) := by
  intro it R I turn n s h
  refine codeAny_loop rfl I (fun m s1 hI => ?_) n h
  have T := turn m s1 hI
  refine wpAny_noted (m := compTurn (.ListComp elt gens scope pos) l it acc env) ?_
  unfold compTurn
  dsimp only
  rw [h0, h1]
  dsimp only
  refine wpAny_bind (wpAny_standAt (wpAny_bind (thnN T fun r s2 h2 => ?_)))
  cases r with
  | none => exact wpAny_pure h2
  | some v =>
    refine wpAny_bind (thnN h2 fun _ s3 h3 => wpAny_bind (thnN h3 fun _ s4 h4 => wpAny_bind (thnN h4 fun k s5 h5 => ?_)))
    cases k with
    | false => exact wpAny_pure ⟨rfl, h5⟩
    | true =>
      have h5 : BdE prog w A elt env acc s5 _ := h5
      exact wpAny_bind (wpAny_bind (thnN h5 fun x s6 h6 => wpAny_bind (thnN h6 fun _ s7 h7 => wpAny_pure (wpAny_pure ⟨rfl, h7⟩))))
theorem loop_mid (hs : ∀ x, foldedSetIterable i' env x = pure x) (h0 : gens[l]? = some ⟨t, i, ifs, 0⟩) (h1 : gens[l + 1]? = some ⟨t', i', ifs', 0⟩) :
    LoopR prog w A (.ListComp elt gens scope pos) l env t ifs acc (BdC prog w A (.ListComp elt gens scope pos) (l + 1) i' env acc) := by
  intro it R I turn n s h
  refine codeAny_loop rfl I (fun m s1 hI => ?_) n h
  have T := turn m s1 hI
  refine wpAny_noted (m := compTurn (.ListComp elt gens scope pos) l it acc env) ?_
  unfold compTurn
  dsimp only
  rw [h0, h1]
  dsimp only
  refine wpAny_bind (wpAny_standAt (wpAny_bind (thnN T fun r s2 h2 => ?_)))
  cases r with
  | none => exact wpAny_pure h2
  | some v =>
    refine wpAny_bind (thnN h2 fun _ s3 h3 => wpAny_bind (thnN h3 fun _ s4 h4 => wpAny_bind (thnN h4 fun k s5 h5 => ?_)))
    cases k with
    | false => exact wpAny_pure ⟨rfl, h5⟩
    | true =>
      have h5 : BdC prog w A (.ListComp elt gens scope pos) (l + 1) i' env acc s5 _ := h5
      refine wpAny_bind (thnN h5 fun x s6 h6 => wpAny_bind (wpAny_standAt (wpAny_bind (wpAny_of_eq (hs x) (wpAny_bind (wpAny_holding (thnN h6 fun u s7 h7 => ?_)))))))
      refine wpAny_bind (wpAny_runOwn ?_)
      rw [Around.mark_none]
      refine codeAny_mono h7 fun r s8 h8 => ?_
      cases r with
      | error e => exact h8.elim
      | ok f =>
        first
          | exact wpAny_pure ⟨rfl, h8⟩
          | exact wpAny_bind (wpAny_pure (wpAny_pure ⟨rfl, h8⟩))
theorem start_any {it : Value} {R : Result → Shared → Prop} {s : Shared} (hg : gens[l]? = some ⟨t, i, ifs, 0⟩) (h0 : codeAny (model prog w) A (.compLoop (.ListComp elt gens scope pos) l it acc env) R s)
    (h : wpAny (model prog w) A (pyIter it) (fun u s' => codeAny (model prog w) A (.compLoop (.ListComp elt gens scope pos) l u acc env) R s') (notedBy (model prog w) A env fun x s' => R (.error x) s') s) :
    codeAny (model prog w) A (.compStart (.ListComp elt gens scope pos) l it acc env) R s := by
  refine codeAny_of_tree ?_
  refine wpAny_notedAt (m := compStart (.ListComp elt gens scope pos) l it acc env) ?_
  unfold compStart
  have e : (clausesOf (.ListComp elt gens scope pos))[l]? = some ⟨t, i, ifs, 0⟩ := hg
  simp only [e]
  show wpAny _ _ (ask >>= _) _ _ s
  refine wpAny_bind (wpAny_askSetting (wpAny_ite ?_))
  split
  · first
      | exact wpAny_bind (wpAny_pure (wpAny_pure (And.intro rfl h0)))
      | exact wpAny_pure (And.intro rfl h0)
  · first
      | exact wpAny_bind (wpAny_rule (wpAny_bind (wpAny_standAt (wpAny_bind (thn h fun u s' h' => wpAny_pure (And.intro rfl h'))))))
      | (refine wpAny_bind (wpAny_rule ?_); show wpAny _ _ (standAt i.pos >>= _) _ _ s; exact wpAny_bind (wpAny_standAt (wpAny_bind (thn h fun u s' h' => wpAny_pure (And.intro rfl h')))))
end
end Y

/-! X8: comprehensions of any number of clauses: the rule. -/
namespace Y
open PySem PySem.Spec PyProof.Rows L2
/-- what σ knows outside of vs, σ' knows too -/
def Kn (vs : List Nat) (σ σ' : L2.St) : Prop := σ'.length = σ.length ∧ ∀ (j : Nat) (v : V), j ∉ vs → σ[j]? = some (some v) → σ'[j]? = some (some v)
theorem Kn.rfl' {vs : List Nat} {σ : L2.St} : Kn vs σ σ := ⟨rfl, fun _ _ _ h => h⟩
theorem Kn.wiped {vs : List Nat} {σ : L2.St} : Kn vs σ (wipe σ vs) := ⟨wipe_length σ vs, fun j v n h => by rw [wipe_out n]; exact h⟩
structure BodyR (B : Cx) (Bd : Shared → (Shared → Prop) → Prop) (tb : L2.St → Hp → (Hp → Prop) → Prop) (vs : List Nat) : Prop where
  run : ∀ (pins : List (Addr × Obj)) (s : Shared) (σ : L2.St) (H : Hp) (Nx : Hp → Prop) (P : Shared → Prop), Inv B pins σ H s → tb σ H Nx → (∀ σ' H' s', Inv B pins σ' H' s' → Kn vs σ σ' → Nx H' → P s') → Bd s P
abbrev TB := Addr → L2.St → Hp → (Hp → Prop) → Prop
def tElt (te : TE) : TB := fun L σ H Nx => te σ H fun y H1 => ∃ acc, H1 L = some (.lst acc) ∧ acc.length < sizeLine ∧ Nx (upd H1 L (.lst (acc ++ [y])))
/-- the turns of a clause from H on, behind which Nx is to hold -/
def Turns (J : It) (g : TG) (tt : TT) (tb : TB) (vs : List Nat) (L : Addr) (σ : L2.St) (H : Hp) (Nx : Hp → Prop) : Prop :=
  ∃ W : Nat → Nat → Hp → Prop, (∃ m, W 0 m H) ∧ ∀ j k H1, W j k H1 → (J.stop j H1 ∧ Nx H1) ∨ (J.go j H1 ∧ ∃ Nx1 : Hp → Prop, (∀ H2, Nx1 H2 → ∃ k', k' < k ∧ W (j + 1) k' H2) ∧
    ∀ x H2, J.yld j H1 x H2 → g x (wipe σ vs) H2 fun σ3 H3 => wipe σ3 vs = wipe σ vs ∧ tt σ3 H3 fun c H4 => if c = true then tb L σ3 H4 Nx1 else Nx1 H4)
def tForB (wi : TI) (g : TG) (tt : TT) (tb : TB) (vs : List Nat) : TB := fun L σ H Nx => wi σ H fun J H1 => Turns J g tt tb vs L σ H1 Nx
def tLcN (wi : TI) (g : TG) (tt : TT) (tb : TB) (vs : List Nat) : TE := fun σ H Q => wi σ H fun J H1 => ∀ L, H1 L = none → Turns J g tt tb vs L σ (upd H1 L (.lst [])) fun H2 => Q (.ref L) H2
section
variable {B : Cx} {L : Addr}
theorem body_elt {elt : Expr} {te : TE} (hx : B.xe = NoX) (he : PE B elt te) : BodyR B (BdE B.prog B.w B.A elt B.env (.ref L)) (tElt te L) [] :=
  ⟨fun pins s σ H Nx P I h k => by
    have r := he.run pins s σ H _ I h
    rw [hx] at r
    refine thnN r fun z s1 ⟨y, H1, I1, r1, acc, e, hz, q⟩ => ?_
    exact app_ok I1 e hz r1 fun s2 I2 => k σ _ s2 I2 Kn.rfl' q⟩
/-- the turns of a clause, by its body -/
theorem turns_run {E : Expr} {l : Nat} {t : Expr} {ifs : List Expr} {g : TG} {tt : TT} {tb : TB} {vs vsb : List Nat} {Bd : Shared → (Shared → Prop) → Prop} {it : Addr} {fp : List Addr} {tn : Nat → Heap → Prop} {J : It} {R : Result → Shared → Prop}
    (hx : B.xe = NoX) (hc : B.calm = true) (lr : LoopR B.prog B.w B.A E l B.env t ifs (.ref L) Bd) (bd : BodyR B Bd (tb L) vsb) (pg : PG B t g) (pt : PTs B ifs tt) (sub : ∀ j ∈ vsb, j ∈ vs)
    (T : Turn B.prog B.w B.K t J fp it tn) {pins : List (Addr × Obj)} {s : Shared} {σ : L2.St} {H : Hp} {Nx : Hp → Prop} (I : Inv B pins σ H s) (st : tn 0 s.heap) (f : ∀ b ∈ fp, FpOk B pins H b) (h : Turns J g tt tb vs L σ H Nx)
    (k : ∀ H' s', Inv B pins (wipe σ vs) H' s' → Nx H' → (∀ b ∈ fp, H' b = none) → R (.ok .next) s') : codeAny (model B.prog B.w) B.A (.compLoop E l (.ref it) (.ref L) B.env) R s := by
  obtain ⟨W, ⟨m0, w0⟩, turn⟩ := h
  have f' : ∀ {H' : Hp}, (∀ b ∈ fp, H' b = none) → ∀ b ∈ fp, FpOk B pins H' b := fun n b hb => ⟨n b hb, (f b hb).2⟩
  refine lr (.ref it) _ (fun n s' => ∃ j H', Inv B pins (wipe σ vs) H' s' ∧ tn j s'.heap ∧ (∀ b ∈ fp, H' b = none) ∧ W j n H') ?_ m0 s ⟨0, H, I.weak (wipe_length _ _) (fun j v e => (wipe_some e).1), st, fun b hb => (f b hb).1, w0⟩
  rintro n s1 ⟨j, H1, I1, st1, n1, w1⟩
  unfold Turn1
  rcases turn j n H1 w1 with ⟨stop, nx⟩ | ⟨go, Nx1, hN, step⟩
  · refine thnN (T.done B rfl rfl rfl hc j pins s1 _ H1 NoX I1 (f' n1) st1 stop) fun r s2 ⟨hr, I2⟩ => ?_
    subst hr
    exact k H1 s2 I2 nx n1
  · refine thnN (T.item B rfl rfl rfl hc j pins s1 _ H1 NoX I1 (f' n1) st1 go) fun r s2 ⟨u, hr, h2⟩ => ?_
    subst hr
    refine thnN h2 fun _ s3 ⟨x, H3, I3, r3, y3, st3, n3⟩ => ?_
    have I3' := I3.pinned (f' n3) (T.obj _ _ st3)
    have a := pg.run _ s3 _ H3 x u _ I3' r3 (step x H3 y3)
    rw [hx] at a
    refine thnN a fun _ s4 ⟨σ4, H4, I4, hw, q4⟩ => ?_
    have b := pt.run _ s4 σ4 H4 _ I4 q4
    rw [hx] at b
    refine thnN b fun c s5 ⟨H5, I5, q5⟩ => ?_
    have fin : ∀ (σ' : L2.St) (H' : Hp) (s' : Shared), Inv B (pins ++ pinsAt fp s3.heap) σ' H' s' → Kn vsb σ4 σ' → Nx1 H' → ∃ m, m < n ∧ ∃ j H', Inv B pins (wipe σ vs) H' s' ∧ tn j s'.heap ∧ (∀ b ∈ fp, H' b = none) ∧ W j m H' := fun σ' H' s' I' kn nx => by
      obtain ⟨m, hm, w'⟩ := hN H' nx
      have keepB : ∀ b ∈ fp, ∀ o, s3.heap.get? b = some o → s'.heap.get? b = some o ∧ H' b = none := fun b hb o e =>
        let z := I'.pin (b, o) (List.mem_append_right _ (List.mem_append_right _ (mem_pinsAt hb e)))
        ⟨z.1, z.2.1⟩
      have hl : (wipe σ vs).length = σ'.length := by rw [kn.1, ← hw, wipe_length]
      refine ⟨m, hm, j + 1, H', I'.unpinned.weak hl fun i v e => ?_, T.keep _ _ _ st3 fun b hb o e => (keepB b hb o e).1, fun b hb => ?_, w'⟩
      · rw [← hw] at e
        obtain ⟨e1, e2⟩ := wipe_some e
        exact kn.2 i v (fun z => e2 (sub i z)) e1
      · obtain ⟨o, e, _⟩ := T.obj _ _ st3 b hb
        exact (keepB b hb o e).2
    cases c with
    | false =>
      rw [if_neg (by decide)] at q5
      exact fin σ4 H5 s5 I5 Kn.rfl' q5
    | true =>
      rw [if_pos rfl] at q5
      exact bd.run _ s5 σ4 H5 Nx1 _ I5 q5 fun σ' H' s' I' kn nx => fin σ' H' s' I' kn nx
theorem body_clause {elt : Expr} {gens : List Comprehension} {scope : Scope} {pos : Pos} {l : Nat} {t i : Expr} {ifs : List Expr} {wi : TI} {g : TG} {tt : TT} {tb : TB} {vs vsb : List Nat} {Bd : Shared → (Shared → Prop) → Prop}
    (hx : B.xe = NoX) (hc : B.calm = true) (hg : gens[l]? = some ⟨t, i, ifs, 0⟩) (lr : LoopR B.prog B.w B.A (.ListComp elt gens scope pos) l B.env t ifs (.ref L) Bd) (bd : BodyR B Bd (tb L) vsb) (pi : PI B t i wi) (pg : PG B t g) (pt : PTs B ifs tt) (sub : ∀ j ∈ vsb, j ∈ vs) :
    BodyR B (BdC B.prog B.w B.A (.ListComp elt gens scope pos) l i B.env (.ref L)) (tForB wi g tt tb vs L) vs :=
  ⟨fun pins s σ H Nx P I h k => by
    have a := pi.run pins s σ H _ I h
    rw [hx] at a
    refine thnN a fun xv s1 h1 => thnN h1 fun itv s2 h2 => ?_
    obtain ⟨it, fp, tn, J, H2, e, I2, T, st2, f2, q⟩ := h2
    subst e
    have lp := turns_run (R := fun r s' => match r with | .ok _ => P s' | .error _ => False) hx hc lr bd pg pt sub T I2 st2 f2 q fun H' s' I' nx _ => k _ H' s' I' Kn.wiped nx
    exact start_any hg lp (T.self B.A 0 _ _ _ st2 lp)⟩
end
section
variable {X : Cx}
/-- the comprehension itself -/
theorem lcN_core {pins : List (Addr × Obj)} {s : Shared} {σ : L2.St} {H : Hp} {Q : VK} {elt t i : Expr} {ifs : List Expr} {gs : List Comprehension} {scope : Scope} {own : List (Str × Nat)} {vsb : List Nat} {pos pos' : Pos} {wi : TI} {g : TG} {tt : TT} {tb : TB} {use : Option (Value → Sem Unit)} {Qf : Value → Shared → Prop} {Bd : Env → Addr → Shared → (Shared → Prop) → Prop}
    (hc : X.calm = true) (hN : X.N.Nodup) (I : Inv X pins σ H s) (hi : PI X t i wi) (ok : BlkOk X.N X.env.scope scope own) (sub : ∀ j ∈ vsb, j ∈ own.map (·.2))
    (hg : ∀ (s : Shared) (H : Hp) (C : Addr) (cl : List (Str × Addr)) (fp : List Addr), PG (X.blk s H scope (compEnvC scope cl C X.env) fp) t g) (ht : ∀ (s : Shared) (H : Hp) (C : Addr) (cl : List (Str × Addr)) (fp : List Addr), PTs (X.blk s H scope (compEnvC scope cl C X.env) fp) ifs tt)
    (lr : ∀ (C : Addr) (cl : List (Str × Addr)) (L : Addr), LoopR X.prog X.w X.A (.ListComp elt (⟨t, i, ifs, 0⟩ :: gs) scope pos) 0 (compEnvC scope cl C X.env) t ifs (.ref L) (Bd (compEnvC scope cl C X.env) L))
    (bd : ∀ (s : Shared) (H : Hp) (C : Addr) (cl : List (Str × Addr)) (fp : List Addr) (L : Addr), BodyR (X.blk s H scope (compEnvC scope cl C X.env) fp) (Bd (compEnvC scope cl C X.env) L) (tb L) vsb)
    (hs : ∀ x, foldedSetIterable i X.env x = pure x) (h : tLcN wi g tt tb (own.map (·.2)) σ H Q)
    (hRR : ∀ D C s' m H', Inv X pins σ H' s' → Q (.ref D) H' → s'.heap.Ns C m → FpOk X pins H' C → compPost (model X.prog X.w) X.A X.xe use Qf (.ref D) C (.ok .next) s') :
    wpAny (model X.prog X.w) X.A (comprehension (.ListComp elt (⟨t, i, ifs, 0⟩ :: gs) scope pos) scope X.env pos' (newList []) false (eval i X.env) use) Qf X.xe s := by
  have free : ∀ y ∈ scope.names, y.2 = .free → ∃ c, X.env.cells.lookup y.1 = some c := fun y hy e => by
    rcases ok.free y hy e with z | z
    · exact I.ok.has _ (.inl z)
    · exact I.ok.has _ (.inr z)
  refine wpAny_comprehension_free (use := use) rfl hs (closure_ok free) ok.kind (fun y hy e => by rw [ok.uniq y hy, e]) (thn (hi.run pins s σ H _ I h) fun xv s1 h1 => thn h1 fun itv s2 h2 => ?_)
  obtain ⟨it, fp, tn, J, H2, e, I2, T, st2, f2, q⟩ := h2
  subst e
  refine wpAny_newObj_type (newEnv_comp ?_) (by show 0 ≤ sizeLine; decide)
  generalize eL : s2.heap.objs.size = L
  have nL : H2 L = none := I2.hok.fresh (Nat.le_of_eq eL)
  have tq := q L nL
  generalize es3 : ({ s2 with heap := s2.heap.push { cls := .type "list", data := .seq ([] : List Value).toArray } } : Shared) = s3
  have hp3 : s3.heap = s2.heap.push { cls := .type "list", data := .seq ([] : List Value).toArray } := by rw [← es3]
  have I3 : Inv X pins σ (upd H2 L (.lst [])) s3 := by
    rw [← es3]
    refine I2.laid (t' := s2.toks) (fun b o z => Heap.get?_push_of_some _ z) (Nat.le_of_eq eL) ⟨Nat.zero_le _, [], 0, .nil, ?_⟩
    rw [← eL]
    exact Heap.get?_push_size _ rfl
  have low : ∀ b ∈ fp, b < s2.heap.objs.size := fun b hb => by
    obtain ⟨o, z, _⟩ := T.obj _ _ st2 b hb
    exact Heap.lt_size z
  have f3 : ∀ b ∈ fp, FpOk X pins (upd H2 L (.lst [])) b ∧ b < s3.heap.objs.size := fun b hb => by
    refine ⟨⟨?_, (f2 b hb).2⟩, by rw [hp3, Heap.size_push]; exact Nat.lt_succ_of_lt (low b hb)⟩
    rw [upd_ne (by rw [← eL]; exact Nat.ne_of_lt (low b hb))]
    exact (f2 b hb).1
  have st3 : tn 0 s3.heap := T.keep _ _ _ st2 fun b _ o z => by rw [hp3]; exact Heap.get?_push_of_some _ z
  have I4 := block_start I3 ok hN f3
  have pg := hg s3 (upd H2 L (.lst [])) s3.heap.objs.size (cellsFrom (s3.heap.objs.size + 1) scope.names (cloFrom X.env.cells scope.names [])) fp
  have pt := ht s3 (upd H2 L (.lst [])) s3.heap.objs.size (cellsFrom (s3.heap.objs.size + 1) scope.names (cloFrom X.env.cells scope.names [])) fp
  have pb := bd s3 (upd H2 L (.lst [])) s3.heap.objs.size (cellsFrom (s3.heap.objs.size + 1) scope.names (cloFrom X.env.cells scope.names [])) fp L
  have pl := lr s3.heap.objs.size (cellsFrom (s3.heap.objs.size + 1) scope.names (cloFrom X.env.cells scope.names [])) L
  have eC : (compEnvC scope (cellsFrom (s3.heap.objs.size + 1) scope.names (cloFrom X.env.cells scope.names [])) s3.heap.objs.size X.env).locals = s3.heap.objs.size := rfl
  show codeAny _ _ (.compStart _ 0 (.ref it) (.ref L) (compEnvC scope (cellsFrom (s3.heap.objs.size + 1) scope.names (cloFrom X.env.cells scope.names [])) s3.heap.objs.size X.env)) (compPost (model X.prog X.w) X.A X.xe use Qf (.ref L) s3.heap.objs.size) { s3 with heap := pushCells (s3.heap.push { cls := .type "dict", data := .dict #[] }) scope.names }
  generalize compEnvC scope (cellsFrom (s3.heap.objs.size + 1) scope.names (cloFrom X.env.cells scope.names [])) s3.heap.objs.size X.env = ce at I4 pg pt pb pl eC ⊢
  generalize eH3 : upd H2 L (.lst []) = H3 at I3 I4 pg pt pb tq f3
  generalize es4 : ({ s3 with heap := pushCells (s3.heap.push { cls := .type "dict", data := .dict #[] }) scope.names } : Shared) = s4 at I4 ⊢
  have st4 : tn 0 s4.heap := T.keep _ _ _ st3 fun b _ o z => by rw [← es4]; exact pushCells_keeps _ _ _ _ (Heap.get?_push_of_some _ z)
  have f4 : ∀ b ∈ fp, FpOk (X.blk s3 H3 scope ce fp) [] H3 b := fun b hb =>
    ⟨(f3 b hb).1.1, (I4.ok.exf b hb).1, I4.ok.exfs b hb, .inl hb, fun x c z => (I4.ok.exf b hb).2 x c z, fun p hp => absurd (show p ∈ ([] : List (Addr × Obj)) ++ [] from hp) (by simp)⟩
  have I4' : Inv (X.blk s3 H3 scope ce fp) [] (wipe σ (own.map (·.2))) H3 s4 := I4
  have tq' : Turns J g tt tb (own.map (·.2)) L (wipe σ (own.map (·.2))) H3 fun H2 => Q (.ref L) H2 := by
    obtain ⟨W, w0, turn⟩ := tq
    refine ⟨W, w0, fun j k H1 w1 => ?_⟩
    rw [wipe_wipe]
    exact turn j k H1 w1
  have lp : codeAny (model X.prog X.w) X.A (.compLoop (.ListComp elt (⟨t, i, ifs, 0⟩ :: gs) scope pos) 0 (.ref it) (.ref L) ce) (compPost (model X.prog X.w) X.A X.xe use Qf (.ref L) s3.heap.objs.size) s4 := by
    refine turns_run (B := X.blk s3 H3 scope ce fp) rfl hc pl pb pg pt sub T I4' st4 f4 tq' fun H' s' I' qq n' => ?_
    have I7 : Inv X pins σ H' s' := I3.call' (ch := fp) I'.os I'.base I'.hok I'.bare fun b hb => ⟨(f3 b hb).1.2.2.2.1, (f3 b hb).1.2.1, (f3 b hb).1.2.2.2.2.1, (f3 b hb).1.2.2.2.2.2⟩
    have nC : H' s3.heap.objs.size = none := by
      have z : H' ce.locals = none := I'.free
      rw [eC] at z
      exact z
    obtain ⟨m, hn, _⟩ := I'.loc
    have hn : s'.heap.Ns ce.locals m := hn
    rw [eC] at hn
    exact hRR L s3.heap.objs.size s' m H' I7 qq hn (I3.fpOk (Nat.le_refl _) nC)
  exact codeAny_compStart_list lp (T.self X.A 0 _ _ _ st4 lp)
theorem pe_lcN {elt t i : Expr} {ifs : List Expr} {gs : List Comprehension} {scope : Scope} {own : List (Str × Nat)} {vsb : List Nat} {pos : Pos} {wi : TI} {g : TG} {tt : TT} {tb : TB} {Bd : Env → Addr → Shared → (Shared → Prop) → Prop}
    (hc : X.calm = true) (hN : X.N.Nodup) (hi : PI X t i wi) (ok : BlkOk X.N X.env.scope scope own) (sub : ∀ j ∈ vsb, j ∈ own.map (·.2))
    (hg : ∀ (s : Shared) (H : Hp) (C : Addr) (cl : List (Str × Addr)) (fp : List Addr), PG (X.blk s H scope (compEnvC scope cl C X.env) fp) t g) (ht : ∀ (s : Shared) (H : Hp) (C : Addr) (cl : List (Str × Addr)) (fp : List Addr), PTs (X.blk s H scope (compEnvC scope cl C X.env) fp) ifs tt)
    (lr : ∀ (C : Addr) (cl : List (Str × Addr)) (L : Addr), LoopR X.prog X.w X.A (.ListComp elt (⟨t, i, ifs, 0⟩ :: gs) scope pos) 0 (compEnvC scope cl C X.env) t ifs (.ref L) (Bd (compEnvC scope cl C X.env) L))
    (bd : ∀ (s : Shared) (H : Hp) (C : Addr) (cl : List (Str × Addr)) (fp : List Addr) (L : Addr), BodyR (X.blk s H scope (compEnvC scope cl C X.env) fp) (Bd (compEnvC scope cl C X.env) L) (tb L) vsb)
    (hs : ∀ x, foldedSetIterable i X.env x = pure x := by intro _; rfl) : PE X (.ListComp elt (⟨t, i, ifs, 0⟩ :: gs) scope pos) (tLcN wi g tt tb (own.map (·.2))) := by
  refine ⟨fun pins s σ H Q I h => ?_⟩
  rw [eval_ListComp]
  refine lcN_core hc hN I hi ok sub hg ht lr bd hs h fun D C s' m H' I' q hn f => ⟨m, hn, fun h'' sb => ?_⟩
  obtain ⟨f0, f1, f2, f3, f4, f5⟩ := f
  exact ⟨.ref D, H', I'.turned (t' := s'.toks) (fun b o hb z => (sb.2 b hb).trans z) f0 f1 f3 f4 f5, rfl, q⟩
end
end Y

/-! X9: comprehensions of several clauses over data. -/
namespace Y
open PySem PySem.Spec PyProof.Rows L2
/-- the heap but for L -/
noncomputable def dl (L : Addr) (F : Hp) : Hp := fun a => if a = L then none else F a
section
variable {K : PySem.W.Frag} {L : Addr} {B F B' F' : Hp}
theorem dl_ne {a : Addr} (h : a ≠ L) : dl L F a = F a := if_neg h
theorem dl_at : dl L F L = none := if_pos rfl
theorem dl_id (h : F L = none) : dl L F = F := by
  funext a
  by_cases z : a = L
  · subst z; rw [dl_at, h]
  · rw [dl_ne z]
theorem dl_upd {o : HO} : dl L (upd F L o) = dl L F := by
  funext a
  by_cases z : a = L
  · subst z; rw [dl_at, dl_at]
  · rw [dl_ne z, dl_ne z, upd_ne z]
theorem same_undl (h : Same B (dl L F)) : Same B F := fun a o e => by
  have := h a o e
  by_cases z : a = L
  · subst z; rw [dl_at] at this; cases this
  · rw [dl_ne z] at this; exact this
theorem same_dl (h : Same B F) (hl : B L = none) : Same B (dl L F) := fun a o e => by
  rw [dl_ne (ne_of_none e hl)]; exact h a o e
theorem gr_dl (g : Gr B F B' F') (hl : B' L = none) : Gr B (dl L F) B' (dl L F') :=
  ⟨g.b, same_dl g.f hl, fun a o e => by
    by_cases z : a = L
    · subst z; rw [dl_at] at e; cases e
    · rw [dl_ne z] at e ⊢; exact g.s a o e, fun a h1 h2 => by
    rw [dl_ne (fun z => h1 (by rw [z]; exact hl))]; exact g.n a h1 h2⟩
theorem vs_undl {σ : L2.St} {env : List Slot} (h : Vs K B (dl L F) σ env) : Vs K B F σ env := by
  obtain ⟨Ps, h⟩ := h
  refine ⟨Ps, h.len, fun i => (h.ok i).mono (Same.refl B) fun a ha => ?_, h.dis, h.out⟩
  have := (h.ok i).has a ha
  by_cases z : a = L
  · subst z; rw [dl_at] at this; exact absurd rfl this
  · rw [dl_ne z]
end
/-- what a clause's body adds to the list at L -/
def EvB (K : PySem.W.Frag) (tb : TB) (env : List Slot) (ds : List D) : Prop := ∀ (B F : Hp) (σ : L2.St) (L : Addr) (ws : List V) (acc : List D), Same B F → Vs K B (dl L F) σ env → B L = none → F L = some (.lst ws) → Reps K B acc ws → acc.length + ds.length ≤ 100000 →
  ∀ Nx : Hp → Prop, (∀ B' F' ws', Gr B (dl L F) B' (dl L F') → B' L = none → F' L = some (.lst ws') → Reps K B' (acc ++ ds) ws' → Nx F') → tb L σ F Nx
def pickedL {α : Type} (f : Nat → Bool) (v : Nat → List α) : Nat → List α
  | 0 => []
  | n + 1 => pickedL f v n ++ (if f n = true then v n else [])
theorem pickedL_le {α : Type} (f : Nat → Bool) (v : Nat → List α) : ∀ n m, n ≤ m → (pickedL f v n).length ≤ (pickedL f v m).length
  | n, 0, h => by have : n = 0 := by omega
                  subst this; exact Nat.le_refl _
  | n, m + 1, h => by
    by_cases z : n = m + 1
    · subst z; exact Nat.le_refl _
    · have := pickedL_le f v n m (by omega)
      show _ ≤ (pickedL f v m ++ _).length
      rw [List.length_append]; omega
section
variable {K : PySem.W.Frag} {env : List Slot} {te : TE} {tb : TB} {d : D}
theorem eb_elt (h : EvE K te env d) : EvB K (tElt te) env [d] := fun B F σ L ws acc hs vs bl fl ra hz Nx k =>
  h B F σ hs (vs_undl vs) _ fun B1 F1 x g r => by
    have nf : F L ≠ none := by rw [fl]; simp
    have b1 := g.out bl nf
    have f1 : F1 L = some (.lst ws) := g.s _ _ fl
    have ra1 := ra.mono g.b
    refine ⟨ws, f1, by rw [ra.len]; simp at hz; exact smallZ (by omega), k B1 _ (ws ++ [x]) ?_ b1 upd_same (ra1.append (Reps.cons r Reps.nil))⟩
    rw [dl_upd]
    exact gr_dl g b1
theorem turns_ev {J : It} {g : TG} {tt : TT} {vs : List Nat} {ds : List D} {B F B1 F1 : Hp} {σ : L2.St} {L : Addr} {ws : List V} {acc : List D} {Nx : Hp → Prop} (us : Nat → List (Nat × D)) (f : Nat → Bool) (v : Nat → List D)
    (hg : ∀ i d, ds[i]? = some d → EvG K g d (us i)) (hj : ∀ i, i < ds.length → ∀ j ∈ (us i).map (·.1), j ∈ vs)
    (ht : ∀ i, i < ds.length → EvT K tt (sets (wipeE env vs) (us i)) (f i)) (he : ∀ i, i < ds.length → f i = true → EvB K tb (sets (wipeE env vs) (us i)) (v i))
    (hvs : Vs K B (dl L F) σ env) (g1 : Gr B (dl L F) B1 (dl L F1)) (w : Wk K J B1 ds) (b1 : B1 L = none) (f1 : F1 L = some (.lst ws)) (ra : Reps K B1 acc ws) (hz : acc.length + (pickedL f v ds.length).length ≤ 100000)
    (k : ∀ B' F' ws', Gr B1 (dl L F1) B' (dl L F') → B' L = none → F' L = some (.lst ws') → Reps K B' (acc ++ pickedL f v ds.length) ws' → Nx F') : Turns J g tt tb vs L σ F1 Nx := by
  obtain ⟨G, Y, wk, hG, hY⟩ := w.w
  let Iv : Nat → Hp → Prop := fun i F2 => ∃ B2 ws2, Gr B1 (dl L F1) B2 (dl L F2) ∧ B2 L = none ∧ F2 L = some (.lst ws2) ∧ Reps K B2 (acc ++ pickedL f v i) ws2
  refine ⟨fun i m F2 => i + m = ds.length ∧ Iv i F2, ⟨ds.length, by omega, B1, ws, Gr.refl g1.f, b1, f1, by unfold pickedL; simpa using ra⟩, ?_⟩
  rintro i m F2 ⟨hm, B2, ws2, g2, b2, f2, r2⟩
  have hGF : G F2 := hG F2 fun a o e => same_undl g2.f a o (g2.b a o e)
  by_cases hi : i < ds.length
  · refine .inr ⟨wk.goes i F2 hi hGF, Iv (i + 1), fun F' h => ⟨m - 1, by omega, by omega, h⟩, fun x F3 hy => ?_⟩
    obtain ⟨B3, d, g3, ed, rx⟩ := hY i B2 F2 x F3 g2.b (same_undl g2.f) (wk.yields i F2 x F3 hi hGF hy)
    have n2 : F2 L ≠ none := by rw [f2]; simp
    have b3 := g3.out b2 n2
    refine hg i d ed B3 F3 _ x g3.f rx _ fun xs rxs => ?_
    refine ⟨(wipe_setsV (hj i hi)).trans wipe_wipe, ?_⟩
    have vs3 := ((hvs.grow ((g1.trans g2).trans (gr_dl g3 b3))).wiped (vs := vs)).sets (σ := σ) rxs
    refine ht i hi B3 F3 _ g3.f (vs_undl vs3) _ fun B4 F4 g4 => ?_
    have b4 := g4.out b3 (by rw [g3.s _ _ f2]; simp)
    have f4 : F4 L = some (.lst ws2) := g4.s _ _ (g3.s _ _ f2)
    have gg : Gr B1 (dl L F1) B4 (dl L F4) := (g2.trans (gr_dl g3 b3)).trans (gr_dl g4 b4)
    have r4 := r2.mono (g3.b.trans g4.b)
    cases hf : f i with
    | true =>
      rw [if_pos rfl]
      refine he i hi hf B4 F4 _ L ws2 (acc ++ pickedL f v i) (same_undl gg.f) (vs3.grow (gr_dl g4 b4)) b4 f4 r4 ?_ _ fun B5 F5 ws5 g5 b5 f5 r5 => ⟨B5, ws5, gg.trans g5, b5, f5, ?_⟩
      · have := pickedL_le f v (i + 1) ds.length (by omega)
        have e : (pickedL f v (i + 1)).length = (pickedL f v i).length + (v i).length := by
          show (pickedL f v i ++ _).length = _
          rw [if_pos hf, List.length_append]
        rw [List.length_append]; omega
      · have e : pickedL f v (i + 1) = pickedL f v i ++ v i := by
          show pickedL f v i ++ _ = _
          rw [if_pos hf]
        rw [e, ← List.append_assoc]; exact r5
    | false =>
      rw [if_neg (by decide)]
      refine ⟨B4, ws2, gg, b4, f4, ?_⟩
      have e : pickedL f v (i + 1) = pickedL f v i := by
        show pickedL f v i ++ _ = _
        rw [if_neg (by rw [hf]; decide), List.append_nil]
      rw [e]; exact r4
  · have e : i = ds.length := by omega
    subst e
    exact .inl ⟨wk.stops F2 hGF, k B2 F2 ws2 g2 b2 f2 r2⟩
theorem eb_for {wi : TI} {g : TG} {tt : TT} {vs : List Nat} {ds : List D} (us : Nat → List (Nat × D)) (f : Nat → Bool) (v : Nat → List D) (hi : EvI K wi env ds)
    (hg : ∀ i d, ds[i]? = some d → EvG K g d (us i)) (hj : ∀ i, i < ds.length → ∀ j ∈ (us i).map (·.1), j ∈ vs)
    (ht : ∀ i, i < ds.length → EvT K tt (sets (wipeE env vs) (us i)) (f i)) (he : ∀ i, i < ds.length → f i = true → EvB K tb (sets (wipeE env vs) (us i)) (v i)) : EvB K (tForB wi g tt tb vs) env (pickedL f v ds.length) :=
  fun B F σ L ws acc hs hvs bl fl ra hz Nx k => hi B F σ hs (vs_undl hvs) _ fun B1 F1 J g1 w => by
    have b1 := g1.out bl (by rw [fl]; simp)
    have gd := gr_dl g1 b1
    exact turns_ev us f v hg hj ht he hvs gd w b1 (g1.s _ _ fl) (ra.mono g1.b) hz fun B' F' ws' g2 b2 f2 r2 => k B' F' ws' (gd.trans g2) b2 f2 r2
theorem ex_lcN {wi : TI} {g : TG} {tt : TT} {vs : List Nat} {ds : List D} (us : Nat → List (Nat × D)) (f : Nat → Bool) (v : Nat → List D) (hi : EvI K wi env ds)
    (hg : ∀ i d, ds[i]? = some d → EvG K g d (us i)) (hj : ∀ i, i < ds.length → ∀ j ∈ (us i).map (·.1), j ∈ vs)
    (ht : ∀ i, i < ds.length → EvT K tt (sets (wipeE env vs) (us i)) (f i)) (he : ∀ i, i < ds.length → f i = true → EvB K tb (sets (wipeE env vs) (us i)) (v i)) (hz : (pickedL f v ds.length).length ≤ 100000) :
    EvN K (tLcN wi g tt tb vs) env (pickedL f v ds.length) := fun B F σ hs hvs Q q => hi B F σ hs hvs _ fun B1 F1 J g1 w L hL => by
  have hF := g1.s.free hL
  have bL := g1.f.free hL
  have e1 : dl L (upd F1 L (.lst [])) = F1 := by rw [dl_upd, dl_id hL]
  have g1' : Gr B (dl L F) B1 (dl L (upd F1 L (.lst []))) := by rw [e1, dl_id hF]; exact g1
  refine turns_ev us f v hg hj ht he (by rw [dl_id hF]; exact hvs) g1' w bL upd_same Reps.nil (by simpa using hz) fun B' F' ws' g2 b2 f2 r2 => ?_
  rw [e1] at g2
  have r2 : Reps K B' (pickedL f v ds.length) ws' := by simpa using r2
  have gg := g1.trans g2
  refine q B' F' (.ref L) (fun a => a = L ∨ False) ⟨gg.b, same_undl gg.f, fun a o e => same_undl gg.s a o e, gg.n⟩ ?_ fun a ha => ?_
  · unfold Own
    refine ⟨L, _, ws', fun _ => False, rfl, f2, rfl, ?_, fun h => h, fun a => Iff.rfl⟩
    exact owns_fr r2
  · rcases ha with rfl | ha
    · exact ⟨hF, b2⟩
    · exact ha.elim
end
/-! ### typed -/
namespace G
variable {α β : Type}
def cat (xs : List α) (c : α → G Bool) (f : α → G (List β)) : G (List β) := ⟨∀ x ∈ xs, (c x).ok ∧ ((c x).val = true → (f x).ok), (xs.filter fun x => (c x).val).flatMap fun x => (f x).val⟩
def one (m : G β) : G (List β) := ⟨m.ok, [m.val]⟩
def top (m : G (List β)) : G (List β) := ⟨m.ok ∧ m.val.length ≤ 100000, m.val⟩
end G
section
variable {K : PySem.W.Frag} {env : List Slot} {te : TE} {tb : TB} {α β : Type}
def XB (K : PySem.W.Frag) (tb : TB) (env : List Slot) (m : G (List β)) (e : β → D) : Prop := m.ok → EvB K tb env (m.val.map e)
theorem xb_elt {m : G β} {e : β → D} (h : XE K te env m e) : XB K (tElt te) env (.one m) e := fun ok => eb_elt (h ok)
theorem pickedL_typed {γ : Type} (xs : List α) (c : α → Bool) (f : α → List γ) : ∀ n, n ≤ xs.length → pickedL (fun i => (xs[i]?.map c).getD false) (fun i => (xs[i]?.map f).getD []) n = ((xs.take n).filter c).flatMap f
  | 0, _ => by simp [pickedL]
  | n + 1, hn => by
    have hl : n < xs.length := by omega
    unfold pickedL
    rw [pickedL_typed xs c f n (by omega), List.take_add_one, List.filter_append, List.flatMap_append, List.getElem?_eq_getElem hl]
    congr 1
    show (if c xs[n] = true then f xs[n] else []) = List.flatMap f (List.filter c [xs[n]])
    by_cases h : c xs[n] = true <;> simp [h]
theorem cat_val {xs : List α} {c : α → G Bool} {f : α → G (List β)} {e : β → D} : (G.cat xs c f).val.map e = pickedL (fun i => (xs[i]?.map fun x => (c x).val).getD false) (fun i => (xs[i]?.map fun x => (f x).val.map e).getD []) xs.length := by
  rw [pickedL_typed xs (fun x => (c x).val) (fun x => (f x).val.map e) xs.length (Nat.le_refl _), List.take_length]
  show List.map e (List.flatMap _ _) = _
  rw [List.map_flatMap]
theorem xb_for {wi : TI} {g : TG} {tt : TT} {vs : List Nat} {rep : α → D} {xs : List α} {e : β → D} {c : α → G Bool} {f : α → G (List β)} (us : α → List (Nat × D)) (hi : EvI K wi env (xs.map rep))
    (hg : ∀ x, EvG K g (rep x) (us x)) (hj : ∀ x, ∀ j ∈ (us x).map (·.1), j ∈ vs) (ht : ∀ x, XT K tt (sets (wipeE env vs) (us x)) (c x)) (he : ∀ x, XB K tb (sets (wipeE env vs) (us x)) (f x) e) : XB K (tForB wi g tt tb vs) env (.cat xs c f) e := fun ok => by
  rw [cat_val]
  have key := eb_for (K := K) (tb := tb) (tt := tt) (g := g) (vs := vs) (fun i => (xs[i]?.map us).getD []) (fun i => (xs[i]?.map fun x => (c x).val).getD false) (fun i => (xs[i]?.map fun x => (f x).val.map e).getD []) hi ?_ ?_ ?_ ?_
  · rw [List.length_map] at key; exact key
  · intro i d h
    rw [List.getElem?_map] at h
    cases z : xs[i]? with
    | none => rw [z] at h; cases h
    | some x => rw [z] at h; cases h; exact hg x
  · intro i h
    have h : i < xs.length := by simpa using h
    simp only [List.getElem?_eq_getElem h]
    exact hj _
  · intro i h
    have h : i < xs.length := by simpa using h
    simp only [List.getElem?_eq_getElem h]
    exact ht _ (ok _ (List.getElem_mem h)).1
  · intro i h hf
    have h : i < xs.length := by simpa using h
    simp only [List.getElem?_eq_getElem h] at hf ⊢
    exact he _ ((ok _ (List.getElem_mem h)).2 hf)
theorem xo_lcN {wi : TI} {g : TG} {tt : TT} {vs : List Nat} {rep : α → D} {xs : List α} {e : β → D} {c : α → G Bool} {f : α → G (List β)} (us : α → List (Nat × D)) (hi : EvI K wi env (xs.map rep))
    (hg : ∀ x, EvG K g (rep x) (us x)) (hj : ∀ x, ∀ j ∈ (us x).map (·.1), j ∈ vs) (ht : ∀ x, XT K tt (sets (wipeE env vs) (us x)) (c x)) (he : ∀ x, XB K tb (sets (wipeE env vs) (us x)) (f x) e) : XO K (tLcN wi g tt tb vs) env (.top (.cat xs c f)) (oL (oF e)) := fun ok => by
  have hv : (G.top (G.cat xs c f)).val = (G.cat xs c f).val := rfl
  rw [hv, ol_eq, cat_val]
  have key := ex_lcN (K := K) (tb := tb) (tt := tt) (g := g) (vs := vs) (fun i => (xs[i]?.map us).getD []) (fun i => (xs[i]?.map fun x => (c x).val).getD false) (fun i => (xs[i]?.map fun x => (f x).val.map e).getD []) hi ?_ ?_ ?_ ?_ ?_
  · rw [List.length_map] at key; exact key
  · intro i d h
    rw [List.getElem?_map] at h
    cases z : xs[i]? with
    | none => rw [z] at h; cases h
    | some x => rw [z] at h; cases h; exact hg x
  · intro i h
    have h : i < xs.length := by simpa using h
    simp only [List.getElem?_eq_getElem h]
    exact hj _
  · intro i h
    have h : i < xs.length := by simpa using h
    simp only [List.getElem?_eq_getElem h]
    exact ht _ (ok.1 _ (List.getElem_mem h)).1
  · intro i h hf
    have h : i < xs.length := by simpa using h
    simp only [List.getElem?_eq_getElem h] at hf ⊢
    exact he _ ((ok.1 _ (List.getElem_mem h)).2 hf)
  · rw [List.length_map, ← cat_val, List.length_map]
    exact ok.2
end
end Y

/-! X10: instances: fields, methods, making. -/
namespace Y
open PySem PySem.Spec PyProof.Rows L2
section
variable {K : PySem.W.Frag} {env : List Slot} {ta tb te : TE} {d d1 d2 : D}
theorem zip_lookup {H : Hp} {f : Str} : ∀ {ns : List Str} {ds : List D} {vs : List V} {d : D}, Reps K H ds vs → (ns.zip ds).lookup f = some d → ∃ v, (ns.zip vs).lookup f = some v ∧ Rep K H d v
  | [], ds, vs, d, r, h => by simp at h
  | n :: ns, [], vs, d, r, h => by simp at h
  | n :: ns, e :: ds, vs, d, r, h => by
    unfold Reps at r
    obtain ⟨x, ws, rfl, h1, h2⟩ := r
    rw [List.zip_cons_cons, List.lookup_cons] at h ⊢
    cases hb : f == n with
    | true =>
      rw [hb] at h
      obtain rfl := Option.some.inj h
      exact ⟨x, rfl, h1⟩
    | false =>
      rw [hb] at h
      exact zip_lookup h2 h
theorem zip_none {α : Type} {f : Str} : ∀ {ns : List Str} {vs : List α}, f ∉ ns → (ns.zip vs).lookup f = none
  | [], vs, _ => by simp
  | n :: ns, [], _ => by simp
  | n :: ns, v :: vs, h => by
    rw [List.zip_cons_cons, List.lookup_cons]
    have hn : (f == n) = false := by
      apply Bool.eq_false_iff.mpr
      intro e
      exact h (by rw [eq_of_beq e]; exact List.mem_cons_self)
    rw [hn]
    exact zip_none fun hm => h (List.mem_cons_of_mem _ hm)
/-- a field of an instance -/
theorem ee_fld {C : Addr} {ns : List Str} {ds : List D} {f : Str} (h : EvE K ta env (.ins C ns ds)) (c : Cls K C) (n : NoAttr K C f) (hf : (ns.zip ds).lookup f = some d) : EvE K (tFld K ta f) env d := fun B F σ hs vs Q q => h B F σ hs vs _ fun B1 F1 x g r => by
  unfold Rep at r
  obtain ⟨a, dx, ws, rfl, e1, e2, e3⟩ := r
  obtain ⟨v, hv, rv⟩ := zip_lookup e3 hf
  exact ⟨a, C, dx, _, v, rfl, g.f _ _ e1, c, n, hv, q B1 F1 v g rv⟩
/-- a method of an instance, by its promise -/
theorem ex_meth {C : Addr} {ns : List Str} {ds es : List D} {m : Str} {R : List D → O → Prop} {E : XK} {t : TA} {o : O} (h : EvE K ta env (.ins C ns ds)) (hm : m ∉ ns) (ha : EvA K t env es) (hr : R (.ins C ns ds :: es) o) : EvX K (tMeth C m (spX K R) [] E ta t) env o := fun B F σ hs vs Q q =>
  h B F σ hs vs _ fun B1 F1 x g r => by
    have r' := r
    unfold Rep at r'
    obtain ⟨a, dx, ws, rfl, e1, e2, e3⟩ := r'
    refine ⟨a, dx, _, rfl, g.f _ _ e1, zip_none hm, ha B1 F1 σ g.f (vs.grow g) _ fun B2 F2 ys g2 r2 => ?_⟩
    have gg := g.trans g2
    exact ⟨B2, .ins C ns ds :: es, o, g2.f, by simpa using Reps.cons (r.mono g2.b) r2, hr, fun B3 F3 z P g3 w p => q B3 F3 z P (gg.trans g3) w fun a ha => ⟨gg.s.free (p a ha).1, (p a ha).2⟩⟩
theorem xo_meth {C : Addr} {ns : List Str} {ds es : List D} {m : Str} {R : List D → O → Prop} {E : XK} {t : TA} {ρ : Type} {g : G ρ} {o : ρ → O} (h : EvE K ta env (.ins C ns ds)) (hm : m ∉ ns) (ha : EvA K t env es) (hr : g.ok → R (.ins C ns ds :: es) (o g.val)) : XO K (tMeth C m (spX K R) [] E ta t) env g o := fun ok => ex_meth h hm ha (hr ok)
end
theorem owns_reps {K : PySem.W.Frag} {B F : Hp} : ∀ {ds : List D} {ws : List V} {P : Fp}, Owns K B F (ds.map O.fr) ws P → Reps K B ds ws
  | [], ws, P, h => by
    simp only [List.map_nil] at h
    unfold Owns at h
    rw [h.1]; exact Reps.nil
  | d :: ds, ws, P, h => by
    simp only [List.map_cons] at h
    unfold Owns at h
    obtain ⟨x, us, P1, P2, rfl, h1, h2, _, _⟩ := h
    unfold Own at h1
    exact Reps.cons h1.1 (owns_reps h2)
/-! ### an object under construction -/
section
variable {K : PySem.W.Frag} {B F : Hp} {σ : L2.St} {env : List Slot} {Ps : Nat → Fp} {H0 H1 : Hp}
theorem VsP.weakObj (h : VsP K B F σ env Ps) {i : Nat} {x : V} {o : O} (e : env[i]? = some (.obj x o)) : VsP K B F σ (env.set i (.own o)) Ps := by
  refine ⟨by rw [List.length_set]; exact h.len, fun j => ?_, h.dis, h.out⟩
  have hj := h.ok j
  by_cases z : i = j
  · subst z
    have hi := (List.getElem?_eq_some_iff.mp e).1
    rw [List.getElem?_set_self hi]
    rw [e] at hj
    exact ⟨x, hj.1, hj.2⟩
  · rw [List.getElem?_set_ne z]; exact hj
theorem VsP.obj (h : VsP K B F σ env Ps) {i : Nat} {x : V} {o : O} (e : env[i]? = some (.obj x o)) : σ[i]? = some (some x) ∧ Own K B F o x (Ps i) := by
  have := h.ok i
  rw [e] at this
  exact this
theorem State.weakObj (h : State K H0 H1 B F σ env) {i : Nat} {x : V} {o : O} (e : env[i]? = some (.obj x o)) : State K H0 H1 B F σ (env.set i (.own o)) ∧ σ[i]? = some (some x) := by
  obtain ⟨gr, Ps, vs, hp⟩ := h
  exact ⟨⟨gr, Ps, vs.weakObj e, hp⟩, (vs.obj e).1⟩
theorem State.upObj (h : State K H0 H1 B F σ env) {i : Nat} {x : V} {o : O} (e : env[i]? = some (.own o)) (hx : σ[i]? = some (some x)) : State K H0 H1 B F σ (env.set i (.obj x o)) := by
  obtain ⟨gr, Ps, vs, hp⟩ := h
  refine ⟨gr, Ps, ⟨by rw [List.length_set]; exact vs.len, fun j => ?_, vs.dis, vs.out⟩, hp⟩
  have hj := vs.ok j
  by_cases z : i = j
  · subst z
    have hi := (List.getElem?_eq_some_iff.mp e).1
    rw [List.getElem?_set_self hi]
    rw [e] at hj
    obtain ⟨y, h1, h2⟩ := hj
    rw [hx] at h1; cases h1
    exact ⟨hx, h2⟩
  · rw [List.getElem?_set_ne z]; exact hj
/-- self.f where self is being made -/
theorem ee_fldS {i : Nat} {x : V} {C : Addr} {ns : List Str} {ds : List D} {f : Str} {d : D} (e : env[i]? = some (.obj x (.ow (.ins C ns) (ds.map .fr)))) (c : Cls K C) (n : NoAttr K C f) (hf : (ns.zip ds).lookup f = some d) : EvE K (tFld K (tVar i) f) env d := fun B F σ hs vs Q q => by
  obtain ⟨Ps, vs⟩ := vs
  obtain ⟨h1, h2⟩ := vs.obj e
  unfold Own at h2
  obtain ⟨p, u, ws, P', rfl, h3, ⟨hl, dx, rfl⟩, h5, _⟩ := h2
  have r := owns_reps h5
  obtain ⟨v, hv, rv⟩ := zip_lookup r hf
  exact ⟨_, h1, p, C, dx, _, v, rfl, h3, c, n, hv, q B F v (Gr.refl hs) rv⟩
theorem putF_new {f : Str} {y : V} : ∀ {ns : List Str} {vs : List V}, ns.length = vs.length → f ∉ ns → putF f y (ns.zip vs) = (ns ++ [f]).zip (vs ++ [y])
  | [], [], _, _ => rfl
  | n :: ns, v :: vs, hl, h => by
    have hn : ¬ n = f := fun e => h (by rw [e]; exact List.mem_cons_self)
    have ih := putF_new (y := y) (ns := ns) (vs := vs) (by simpa using hl) (fun hm => h (List.mem_cons_of_mem _ hm))
    simp only [List.zip_cons_cons, putF, List.cons_append, ih]
    simp [hn]
  | [], _ :: _, hl, _ => by simp at hl
  | _ :: _, [], hl, _ => by simp at hl
theorem set_set {α : Type} {l : List α} {i : Nat} {a b : α} : (l.set i a).set i b = l.set i b := by simp
/-- self.f = e, f new -/
theorem go_fldS {E : Ends} {te : TE} {i : Nat} {x : V} {C : Addr} {ns : List Str} {ds : List D} {f : Str} {d : D} (e : env[i]? = some (.obj x (.ow (.ins C ns) (ds.map .fr)))) (h : EvE K te env d) (c : Cls K C) (n : NoAttr K C f) (hf : f ∉ ns) (hz : ns.length < 900)
    (k : Nx K H0 H1 E.nx (env.set i (.obj x (.ow (.ins C (ns ++ [f])) ((ds ++ [d]).map .fr))))) : Go K H0 H1 (sFld K (tVar i) te f) E env := fun B F σ st => h B F σ st.gr.f st.vs _ fun B1 F1 y g r => by
  obtain ⟨sw, hx⟩ := (st.grow g).weakObj e
  have hi := (List.getElem?_eq_some_iff.mp e).1
  have eo : (env.set i (.own (.ow (.ins C ns) (ds.map .fr))))[i]? = some (.own (.ow (.ins C ns) (ds.map .fr))) := List.getElem?_set_self hi
  obtain ⟨p, u, vs, Po, rfl, h2, ⟨hl, dx, rfl⟩, h4, h5, h6, h7⟩ := sw.chg (js := []) (Gr.refl sw.gr.f) eo rfl hx rfl
  refine ⟨_, hx, p, C, dx, _, rfl, h2, c, n, by rw [List.length_zip]; omega, ?_⟩
  rw [putF_new hl hf]
  have rr := owns_reps h4
  have st2 := h7 (.ins C (ns ++ [f])) ((ds ++ [d]).map .fr) (.ins C dx ((ns ++ [f]).zip (vs ++ [y]))) (vs ++ [y]) (fun _ => False) ⟨by simp [hl], dx, rfl⟩ (owns_fr (rr.append (Reps.cons r Reps.nil))) fun a ha => ha.elim
  have e3 : (env.set i (.own (.ow (.ins C ns) (ds.map .fr)))).set i (.own (setAt (.ow (.ins C ns) (ds.map .fr)) [] (.ow (.ins C (ns ++ [f])) ((ds ++ [d]).map .fr)))) = env.set i (.own (.ow (.ins C (ns ++ [f])) ((ds ++ [d]).map .fr))) := by rw [set_set]; rfl
  rw [e3] at st2
  have st3 := st2.upObj (i := i) (x := .ref p) (o := .ow (.ins C (ns ++ [f])) ((ds ++ [d]).map .fr)) (List.getElem?_set_self hi) hx
  rw [set_set] at st3
  exact k B1 _ σ st3
/-- what must be shown at the end of an __init__ -/
def PIn (K : PySem.W.Frag) {τ : Type} (a C : Addr) (ns : List Str) (ob : τ → List D) : Phi τ := fun H0 H1 E v => ∀ env : List Slot, env[0]? = some (.obj (.ref a) (.ow (.ins C ns) ((ob v).map .fr))) → Nx K H0 H1 E.nx env
end
/-! ### the promise of an __init__ -/
def spI (K : PySem.W.Frag) (C : Addr) (R : List D → List Str × List D → Prop) : Sp := fun vs F Q _ => ∃ B a dx ws ds r, vs = .ref a :: ws ∧ F a = some (.ins C dx []) ∧ B a = none ∧ Same B F ∧ Reps K B ds ws ∧ R ds r ∧
  ∀ B' G us dx', Gr B (dl a F) B' (dl a G) → B' a = none → G a = some (.ins C dx' (r.1.zip us)) → Reps K B' r.2 us → r.1.length = r.2.length → Q .non G
section
variable {K : PySem.W.Frag} {env : List Slot}
theorem make_end {C x dx : Addr} {B F B1 F1 : Hp} {r : List Str × List D} {Q : VK} (g : Gr B F B1 F1) (hx : F1 x = none) (hdx : F1 dx = none) (hne : dx ≠ x) (q : ∀ B' F' y, Gr B F B' F' → Rep K B' (.ins C r.1 r.2) y → Q y F')
    {B2 G : Hp} {us : List V} {dx' : Addr} (g2 : Gr B1 (dl x (upd (upd F1 dx (.own x)) x (.ins C dx []))) B2 (dl x G)) (b2 : B2 x = none) (hG : G x = some (.ins C dx' (r.1.zip us))) (r2 : Reps K B2 r.2 us) (hl : r.1.length = r.2.length) : Q (.ref x) G := by
  have e0 : dl x (upd (upd F1 dx (.own x)) x (.ins C dx [])) = upd F1 dx (.own x) := by
    rw [dl_upd, dl_id]
    rw [upd_ne (Ne.symm hne)]; exact hx
  rw [e0] at g2
  have g1 : Gr B1 F1 B1 (upd F1 dx (.own x)) := ⟨Same.refl _, same_out g.f (g.f.free hdx), same_new hdx, fun a h1 h2 => absurd h2 h1⟩
  have gg : Gr B F B2 (dl x G) := (g.trans g1).trans g2
  refine q (upd B2 x (.ins C dx' (r.1.zip us))) G (.ref x) ⟨gg.b.trans (same_new b2), fun a o h => ?_, fun a o h => same_undl gg.s a o h, fun a h1 h2 => ?_⟩ ?_
  · by_cases z : a = x
    · subst z; rw [upd_same] at h; cases h; exact hG
    · rw [upd_ne z] at h; exact same_undl gg.f a o h
  · by_cases z : a = x
    · subst z; exact g.s.free hx
    · rw [upd_ne z] at h1; exact gg.n a h1 h2
  · unfold Rep
    exact ⟨x, dx', us, rfl, upd_same, hl, r2.mono (same_new b2)⟩
theorem ee_make {C : Addr} {R : List D → List Str × List D → Prop} {E : XK} {t : TA} {es : List D} {r : List Str × List D} (ha : EvA K t env es) (hr : R es r) : EvE K (tMake C (spI K C R) [] E t) env (.ins C r.1 r.2) := fun B F σ hs vs Q q =>
  ha B F σ hs vs _ fun B1 F1 ys g ry => fun x dx hx hdx hne => by
    have bx : B1 x = none := g.f.free hx
    refine ⟨B1, x, dx, ys ++ [], es, r, rfl, upd_same, bx, ?_, by simpa using ry, hr, fun B2 G us dx' g2 b2 hG r2 hl => ⟨rfl, make_end g hx hdx hne q g2 b2 hG r2 hl⟩⟩
    exact (same_out g.f (g.f.free hdx)).trans (same_new (by rw [upd_ne (Ne.symm hne)]; exact hx))
end
def startI (x : V) (C : Addr) (N : List Str) (ds : List D) : List Slot := .obj x (.ow (.ins C []) []) :: (ds.map .val ++ List.replicate (N.length - (ds.length + 1)) .no)
section
variable {P : Program} {w : World} {K : PySem.W.Frag} {mg : Str → Option Value} {base : Heap}
theorem start_stateI {C : Addr} {N : List Str} {B F : Hp} {a dx : Addr} {ds : List D} {vs : List V} (s : Same B F) (hb : B a = none) (hf : F a = some (.ins C dx [])) (r : Reps K B ds vs) :
    State K B (dl a F) B F (L2.start N (.ref a :: vs)) (startI (.ref a) C N ds) := by
  have hl := r.len
  have st : L2.start N (.ref a :: vs) = some (.ref a) :: (vs.map some ++ List.replicate (N.length - (ds.length + 1)) none) := by
    unfold L2.start
    simp [hl]
  rw [st]
  refine ⟨⟨Same.refl _, s, fun b o h => ?_, fun b h1 h2 => absurd h2 h1⟩, fun i b => i = 0 ∧ b = a, ⟨by simp [startI, hl], fun i => ?_, fun i j b n h1 h2 => n (by omega), fun i b h => by rw [h.2]; exact hb⟩, fun i b h => by rw [h.2]; exact dl_at⟩
  · by_cases z : b = a
    · subst z; rw [dl_at] at h; cases h
    · rw [dl_ne z] at h; exact h
  · cases i with
    | zero =>
      refine ⟨rfl, ?_⟩
      unfold Own
      exact ⟨a, _, [], fun _ => False, rfl, hf, ⟨rfl, dx, rfl⟩, by unfold Owns; exact ⟨rfl, fun _ h => h⟩, fun h => h, fun b => by simp⟩
    | succ i =>
      simp only [startI, List.getElem?_cons_succ]
      by_cases hi : i < ds.length
      · obtain ⟨x, h1, h2⟩ := r.get (List.getElem?_eq_getElem hi)
        have a1 : (vs.map some ++ List.replicate (N.length - (ds.length + 1)) none)[i]? = some (some x) := by
          rw [List.getElem?_append_left (by simp [hl, hi]), List.getElem?_map, h1]; rfl
        have a2 : (ds.map Slot.val ++ List.replicate (N.length - (ds.length + 1)) Slot.no)[i]? = some (.val ds[i]) := by
          rw [List.getElem?_append_left (by simpa using hi), List.getElem?_map, List.getElem?_eq_getElem hi]; rfl
        rw [a1, a2]
        exact ⟨⟨x, rfl, h2⟩, fun b h => by omega⟩
      · have a2 : (ds.map Slot.val ++ List.replicate (N.length - (ds.length + 1)) Slot.no)[i]? = (List.replicate (N.length - (ds.length + 1)) Slot.no)[i - (ds.map Slot.val).length]? := List.getElem?_append_right (by simpa using hi)
        rw [a2]
        generalize hs : (List.replicate (N.length - (ds.length + 1)) Slot.no)[i - (ds.map Slot.val).length]? = sl
        cases sl with
        | none => exact fun b h => by omega
        | some z =>
          have := List.mem_of_getElem? hs
          simp at this
          rw [this.2]
          exact fun b h => by omega
theorem ok_init {C : Addr} {x qual : Str} {st : Stmt} {f : Addr} {fd : FuncData} {N ps : List Str} {k : Nat} {R : List D → List Str × List D → Prop} (F : Fun K x qual st f fd) (S : FnScope N ps (defScope st)) (len : ∀ ds r, R ds r → ds.length + 1 = ps.length)
    (hbody : ∀ (cdv : Value) (A : Around) (outer : List Env) (s : Shared) (H : Hp) (E : XK), Room k (A.deeper (envOfC qual (defScope st) s.heap.objs.size f cdv)) →
      ∃ t, PSs (cxOf CX0 P w K mg base N qual (defScope st) f cdv A outer s H E).nox (defBody st) t ∧ ∀ ds r, R ds r → r.1.length = r.2.length ∧ ∀ (a : Addr) H0 H1 (rt : VK), (∀ env : List Slot, env[0]? = some (.obj (.ref a) (.ow (.ins C r.1) (r.2.map .fr))) → Nx K H0 H1 (fun _ H' => rt .non H') env) → Go K H0 H1 t { nx := fun _ H' => rt .non H', rt := rt } (startI (.ref a) C N ds)) :
    FnOk P w K mg base CX0 (k + 1) f fd ps (spI K C R) := by
  refine F.ok S (fun vs H Q E h => ?_) (fun cdv A outer s H vs Q E hr h => ?_)
  · obtain ⟨B, a, dx, ws, ds, r, rfl, _, _, _, h2, h3, _⟩ := h
    rw [List.length_cons, h2.len, len ds r h3]
  · obtain ⟨t, ht, hg⟩ := hbody cdv A outer s H E hr
    obtain ⟨B, a, dx, ws, ds, r, rfl, hf, hb, hs, h2, h3, h4⟩ := h
    obtain ⟨hl, hg⟩ := hg ds r h3
    refine ⟨t, ht, hg a B (dl a H) Q (fun env he B' G σ st => ?_) B H _ (start_stateI hs hb hf h2)⟩
    obtain ⟨Ps, vs, hp⟩ := st.ex
    obtain ⟨_, w1⟩ := vs.obj he
    unfold Own at w1
    obtain ⟨p, u, us, P', e1, e2, ⟨e3, dx', rfl⟩, e4, e5, e6⟩ := w1
    cases e1
    have b1 : B' a = none := vs.out 0 a ((e6 a).2 (.inl rfl))
    refine h4 B' G us dx' ⟨st.gr.b, same_dl st.gr.f b1, fun b o z => ?_, st.gr.n⟩ b1 e2 (owns_reps e4) hl
    have zb : b ≠ a := fun e => by rw [e, dl_at] at z; cases z
    rw [dl_ne zb]
    exact st.gr.s b o z
end
section
variable {K : PySem.W.Frag} {env : List Slot} {T : Ends → Prop}
theorem xi_end {τ : Type} {a C : Addr} {ns : List Str} {ob : τ → List D} {v : τ} (h : env[0]? = some (.obj (.ref a) (.ow (.ins C ns) ((ob v).map .fr)))) : Blk K T (PIn K a C ns ob) tNext env (.p v) := fun H0 H1 E _ _ hΦ => hΦ env h
end
end Y

/-! X11: sorted(xs) of tuples of ints and texts. -/
namespace Y
open PySem PySem.Spec PyProof.Rows L2
inductive Sc where
  | i (n : Int) | s (x : Str)
deriving DecidableEq
def Sc.lt : Sc → Sc → Bool
  | .i a, .i b => decide (a < b)
  | .s x, .s y => decide (x.cps.toList < y.cps.toList)
  | .i _, .s _ => true
  | .s _, .i _ => false
theorem str_ext {x y : Str} (h : x.cps.toList = y.cps.toList) : x = y := by
  obtain ⟨a⟩ := x
  obtain ⟨b⟩ := y
  have : a = b := Array.toList_inj.mp h
  rw [this]
theorem Sc.irr (a : Sc) : Sc.lt a a = false := by
  cases a with
  | i n => simp [Sc.lt]
  | s x => unfold Sc.lt; exact decide_eq_false (List.lt_irrefl _)
theorem Sc.asym {a b : Sc} (h : Sc.lt a b = true) : Sc.lt b a = false := by
  cases a <;> cases b <;> unfold Sc.lt at h ⊢
  · simp at h ⊢; omega
  · rfl
  · cases h
  · exact decide_eq_false (List.lt_asymm (of_decide_eq_true h))
theorem Sc.tri {a b : Sc} (h : Sc.lt a b = false) (h2 : Sc.lt b a = false) : a = b := by
  cases a <;> cases b <;> unfold Sc.lt at h h2
  · simp at h h2; congr 1; omega
  · cases h
  · cases h2
  · congr 1
    exact str_ext (List.le_antisymm (List.not_lt.mp (of_decide_eq_false h2)) (List.not_lt.mp (of_decide_eq_false h)))
theorem Sc.trans {a b c : Sc} (h : Sc.lt a b = true) (h2 : Sc.lt b c = true) : Sc.lt a c = true := by
  match a, b, c, h, h2 with
  | .i a, .i b, .i c, h, h2 => simp [Sc.lt] at h h2 ⊢; omega
  | .i a, .i b, .s c, h, h2 => rfl
  | .i a, .s b, .i c, h, h2 => cases h2
  | .i a, .s b, .s c, h, h2 => rfl
  | .s a, .i b, _, h, h2 => cases h
  | .s a, .s b, .i c, h, h2 => cases h2
  | .s a, .s b, .s c, h, h2 =>
    unfold Sc.lt at h h2 ⊢
    exact decide_eq_true (List.lt_trans (of_decide_eq_true h) (of_decide_eq_true h2))
def lexS : List Sc → List Sc → Bool
  | [], [] => false
  | [], _ :: _ => true
  | _ :: _, [] => false
  | x :: xs, y :: ys => if x = y then lexS xs ys else Sc.lt x y
theorem lexS_irr : ∀ a : List Sc, lexS a a = false
  | [] => rfl
  | x :: xs => by unfold lexS; rw [if_pos rfl]; exact lexS_irr xs
theorem lexS_asym : ∀ a b : List Sc, lexS a b = true → lexS b a = false
  | [], [], h => rfl
  | [], _ :: _, h => rfl
  | _ :: _, [], h => by cases h
  | x :: xs, y :: ys, h => by
    unfold lexS at h ⊢
    by_cases e : x = y
    · rw [if_pos e] at h; rw [if_pos e.symm]; exact lexS_asym xs ys h
    · rw [if_neg e] at h; rw [if_neg (Ne.symm e)]; exact Sc.asym h
theorem lexS_tri : ∀ a b : List Sc, lexS a b = false → lexS b a = false → a = b
  | [], [], _, _ => rfl
  | [], _ :: _, h, _ => by cases h
  | _ :: _, [], _, h => by cases h
  | x :: xs, y :: ys, h, h2 => by
    unfold lexS at h h2
    by_cases e : x = y
    · rw [if_pos e] at h; rw [if_pos e.symm] at h2; rw [e, lexS_tri xs ys h h2]
    · rw [if_neg e] at h; rw [if_neg (Ne.symm e)] at h2; exact absurd (Sc.tri h h2) e
theorem lexS_trans : ∀ a b c : List Sc, lexS a b = true → lexS b c = true → lexS a c = true
  | [], [], _, h, _ => by cases h
  | [], _ :: _, [], _, h => by cases h
  | [], _ :: _, _ :: _, _, _ => rfl
  | _ :: _, [], _, h, _ => by cases h
  | _ :: _, _ :: _, [], _, h => by cases h
  | x :: xs, y :: ys, z :: zs, h, h2 => by
    unfold lexS at h h2 ⊢
    by_cases e : x = y
    · rw [if_pos e] at h
      subst e
      by_cases e2 : x = z
      · rw [if_pos e2] at h2 ⊢; exact lexS_trans xs ys zs h h2
      · rw [if_neg e2] at h2 ⊢; exact h2
    · rw [if_neg e] at h
      by_cases e2 : y = z
      · subst e2
        rw [if_neg e]; exact h
      · rw [if_neg e2] at h2
        have := Sc.trans h h2
        by_cases e3 : x = z
        · subst e3; rw [Sc.irr] at this; cases this
        · rw [if_neg e3]; exact this
theorem lexS_le {a b c : List Sc} (h : lexS b a = false) (h2 : lexS c b = false) : lexS c a = false := by
  cases h3 : lexS c a with
  | false => rfl
  | true =>
    cases h4 : lexS a b with
    | true => rw [lexS_trans c a b h3 h4] at h2; cases h2
    | false =>
      have := lexS_tri a b h4 h
      subst this
      rw [h3] at h2; cases h2
theorem swoS {α : Type} (k : α → List Sc) : SrtO.Swo fun v u => lexS (k v) (k u) := ⟨fun x y h => lexS_asym _ _ h, fun x y z h1 h2 => lexS_le h1 h2⟩
/-- insertion -/
def insS {α : Type} (k : α → List Sc) (x : α) : List α → List α
  | [] => [x]
  | y :: ys => if lexS (k y) (k x) = true then y :: insS k x ys else x :: y :: ys
def sortS {α : Type} (k : α → List Sc) : List α → List α
  | [] => []
  | x :: xs => insS k x (sortS k xs)
section
variable {α : Type} {k : α → List Sc}
theorem insS_perm (x : α) : ∀ ys, (insS k x ys).Perm (x :: ys)
  | [] => .refl _
  | y :: ys => by
    unfold insS
    split
    · exact ((insS_perm x ys).cons y).trans (.swap x y ys)
    · exact .refl _
theorem sortS_perm : ∀ xs, (sortS k xs).Perm xs
  | [] => .refl _
  | x :: xs => (insS_perm x _).trans ((sortS_perm xs).cons x)
abbrev SrS (k : α → List Sc) (l : List α) : Prop := l.Pairwise fun a b => lexS (k b) (k a) = false
theorem insS_sorted (x : α) : ∀ ys, SrS k ys → SrS k (insS k x ys)
  | [], _ => by simp [insS, SrS]
  | y :: ys, h => by
    unfold insS
    have h := List.pairwise_cons.1 h
    split
    · rename_i hy
      refine List.pairwise_cons.2 ⟨fun z hz => ?_, insS_sorted x ys h.2⟩
      rcases List.mem_cons.1 ((insS_perm x ys).mem_iff.1 hz) with rfl | hz
      · exact lexS_asym _ _ hy
      · exact h.1 z hz
    · rename_i hy
      have hy : lexS (k y) (k x) = false := by simpa using hy
      refine List.pairwise_cons.2 ⟨fun z hz => ?_, List.pairwise_cons.2 h⟩
      rcases List.mem_cons.1 hz with rfl | hz
      · exact hy
      · exact lexS_le hy (h.1 z hz)
theorem sortS_sorted : ∀ xs, SrS k (sortS k xs)
  | [] => .nil
  | x :: xs => insS_sorted x _ (sortS_sorted xs)
end
theorem sorted_uniq : ∀ {l m : List (List Sc)}, SrS id l → SrS id m → l.Perm m → l = m
  | [], m, _, _, h => by rw [h.symm.eq_nil]
  | a :: l, [], _, _, h => by cases h.symm.length_eq.symm.trans rfl <;> simp at *
  | a :: l, b :: m, h1, h2, h => by
    have q1 := List.pairwise_cons.1 h1
    have q2 := List.pairwise_cons.1 h2
    have e : a = b := by
      have m1 : a ∈ b :: m := h.mem_iff.1 (by simp)
      have m2 : b ∈ a :: l := h.mem_iff.2 (by simp)
      rcases List.mem_cons.1 m1 with e | m1
      · exact e
      · rcases List.mem_cons.1 m2 with e | m2
        · exact e.symm
        · exact lexS_tri a b (q2.1 a m1) (q1.1 b m2)
    subst e
    rw [sorted_uniq q1.2 q2.2 (List.perm_cons a |>.1 h)]
/-! ### on the heap -/
def ScV : Sc → Value → Prop
  | .i n, v => ∃ t, v = .int n t
  | .s x, v => ∃ t, v = .str x t
def ScVs : List Sc → List Value → Prop
  | [], vs => vs = []
  | k :: ks, vs => ∃ v us, vs = v :: us ∧ ScV k v ∧ ScVs ks us
def Kd : Sc → Bool
  | .i _ => true
  | .s _ => false
def IsRow (h : Heap) (v : Value) (ks : List Sc) : Prop := ∃ (a : Addr) (o : Obj) (us : List Value) (n : Nat), v = .ref a ∧ h.get? a = some o ∧ o.cls = .type "tuple" ∧ o.data = .seq us.toArray n ∧ ScVs ks us
theorem IsRow.keeps {h h' : Heap} {v : Value} {ks : List Sc} (x : IsRow h v ks) (k : ∀ b o, h.get? b = some o → o.cls = .type "tuple" → h'.get? b = some o) : IsRow h' v ks := by
  obtain ⟨a, o, us, n, e, h1, h2, h3, h4⟩ := x
  exact ⟨a, o, us, n, e, k a o h1 h2, h2, h3, h4⟩
theorem ScVs.len : ∀ {ks : List Sc} {us : List Value}, ScVs ks us → us.length = ks.length
  | [], us, h => by have h : us = [] := h; rw [h]; rfl
  | k :: ks, us, h => by
    obtain ⟨v, ws, rfl, _, h2⟩ := h
    simp [h2.len]
section
variable {prog : Program} {w : World} {A : Around} {s : Shared}
theorem lex_run {b fin : Bool} {Q : Bool → Shared → Prop} (hfin : fin = false) : ∀ (ks ls : List Sc) (us ws : List Value) (i : Nat), ScVs ks us → ScVs ls ws → ks.map Kd = ls.map Kd → Q (lexS ks ls) s → PySem.W.KatLex prog w A b fin Q (us.zip ws) i s
  | [], [], us, ws, i, h1, h2, _, q => by
    have h1 : us = [] := h1
    have h2 : ws = [] := h2
    subst h1 h2
    exact PySem.W.kat_nil (by rw [hfin]; exact q)
  | [], _ :: _, _, _, _, _, _, h, _ => by simp at h
  | _ :: _, [], _, _, _, _, _, h, _ => by simp at h
  | k :: ks, l :: ls, us, ws, i, h1, h2, h, q => by
    obtain ⟨u, us, rfl, a1, a2⟩ := h1
    obtain ⟨v, ws, rfl, b1, b2⟩ := h2
    simp only [List.map_cons, List.cons.injEq] at h
    have ih := fun q' => lex_run (b := b) (fin := fin) (Q := Q) hfin ks ls us ws (i + 1) a2 b2 h.2 q'
    rw [List.zip_cons_cons]
    refine PySem.W.kat_cons ?_
    unfold lexS at q
    cases k with
    | i m =>
      cases l with
      | s y => exact absurd h.1 (by simp [Kd])
      | i n =>
        obtain ⟨t, rfl⟩ := a1
        obtain ⟨t', rfl⟩ := b1
        refine SeqAt.EqAt.int_int m t n t' prog w _ _ (PySem.W.kat_go (fun e => PySem.W.kat_yes (ih ?_)) (fun e => PySem.W.kat_no ?_))
        · have e : m = n := by simpa using e
          rw [if_pos (by rw [e])] at q; exact q
        · have e : ¬ m = n := by simpa using e
          rw [if_neg (fun z => e (Sc.i.inj z))] at q
          have q : Q (decide (m < n)) s := q
          cases b && i == 0 with
          | true => exact oneLt_int q
          | false => exact PySem.W.kat_one _ _ (PyProof.Rows.lt_int q)
    | s x =>
      cases l with
      | i n => exact absurd h.1 (by simp [Kd])
      | s y =>
        obtain ⟨t, rfl⟩ := a1
        obtain ⟨t', rfl⟩ := b1
        refine SeqAt.EqAt.str_str x t y t' prog w _ _ (PySem.W.kat_go (fun e => PySem.W.kat_yes (ih ?_)) (fun e => PySem.W.kat_no ?_))
        · have e : x = y := by simpa using e
          rw [if_pos (by rw [e])] at q; exact q
        · have e : ¬ x = y := by simpa using e
          rw [if_neg (fun z => e (Sc.s.inj z))] at q
          have q : Q (decide (x.cps.toList < y.cps.toList)) s := q
          cases b && i == 0 with
          | true => exact oneLt_str q
          | false => exact PySem.W.kat_one _ _ (PyProof.Rows.lt_str q)
theorem row_cmp {vs : List Value} {k : Value → List Sc} {sh : List Bool} (hp : ∀ v ∈ vs, IsRow s.heap v (k v) ∧ (k v).map Kd = sh) : SrtO.Cmp prog w A s (tuples' true) (fun p => p.1 ∈ vs) (SrtO.lt2 fun v u => lexS (k v) (k u)) := by
  intro p q hm hm'
  obtain ⟨h1, e1⟩ := hp _ hm
  obtain ⟨h2, e2⟩ := hp _ hm'
  show wpAny (model prog w) A (keyLt' (tuples' true) p.1 q.1) (fun r s' => s' = s ∧ r = lexS (k p.1) (k q.1)) (fun _ _ => False) s
  obtain ⟨a, o, us, n, ea, ho, hc, hd, hs⟩ := h1
  obtain ⟨a', o', us', n', ea', ho', hc', hd', hs'⟩ := h2
  rw [ea] at e1 hs ⊢
  rw [ea'] at e2 hs' ⊢
  refine PySem.W.kat_lt ho hd ho' hd' ?_
  have hl : us.length = us'.length := by
    have := congrArg List.length (e1.trans e2.symm)
    simp only [List.length_map] at this
    rw [hs.len, hs'.len, this]
  refine lex_run (by simp [hl]) (k (.ref a)) (k (.ref a')) us us' 0 hs hs' (e1.trans e2.symm) ⟨rfl, rfl⟩
theorem rows_firsts {h : Heap} {k : Value → List Sc} : ∀ vs : List Value, (∀ v ∈ vs, IsRow h v (k v) ∧ (k v) ≠ []) → ∃ fs, PySem.W.KatTups h vs fs ∧ fs.length = vs.length ∧ ∀ f ∈ fs, ∃ v ∈ vs, ∃ c r, k v = c :: r ∧ ScV c f
  | [], _ => ⟨[], PySem.W.KatTups.nil, rfl, fun f hf => (by cases hf)⟩
  | v :: vs, hp => by
    obtain ⟨fs, h1, h2, h3⟩ := rows_firsts vs fun u hu => hp u (List.mem_cons_of_mem _ hu)
    obtain ⟨⟨a, o, us, n, rfl, ho, hc, hd, hs⟩, hne⟩ := hp v (List.mem_cons_self ..)
    cases e : k (.ref a) with
    | nil => exact absurd e hne
    | cons c r =>
      rw [e] at hs
      obtain ⟨x, ws, rfl, x1, x2⟩ := hs
      refine ⟨x :: fs, PySem.W.KatTups.cons ho hc hd (by simp) h1, by simp [h2], fun f hf => ?_⟩
      rcases List.mem_cons.1 hf with rfl | hf
      · exact ⟨.ref a, List.mem_cons_self .., c, r, e, x1⟩
      · obtain ⟨u, hu, z⟩ := h3 f hf
        exact ⟨u, List.mem_cons_of_mem _ hu, z⟩
theorem rows_sortable {a : Addr} {vs : List Value} {k : Value → List Sc} {b : Bool} {sh : List Bool} (h0 : 0 < vs.length) (hp : ∀ v ∈ vs, IsRow s.heap v (k v) ∧ (k v).map Kd = b :: sh) (ha : ∀ o, s.heap.get? a = some o → o.cls ≠ .type "tuple") : SrtO.SortableO prog w A s a vs fun v u => lexS (k v) (k u) := by
  intro h' keep
  have hp' : ∀ v ∈ vs, IsRow h' v (k v) ∧ (k v).map Kd = b :: sh := fun v hm => ⟨(hp v hm).1.keeps fun c o e z => keep c o (fun y => by subst y; exact ha o e z) e, (hp v hm).2⟩
  obtain ⟨fs, h1, h2, h3⟩ := rows_firsts vs fun v hm => ⟨(hp' v hm).1, fun e => by have := (hp' v hm).2; rw [e] at this; cases this⟩
  refine ⟨tuples' true, fun Q E hq => ?_, row_cmp hp'⟩
  have key : ∀ T : Value, (T = .type "int" ∧ b = true) ∨ (T = .type "str" ∧ b = false) → ∀ f ∈ fs, PySem.W.Looks (model prog w) h' (typeOf f) T := fun T hT f hf => by
    obtain ⟨v, hv, c, r, e, x⟩ := h3 f hf
    have e2 := (hp' v hv).2
    rw [e] at e2
    simp only [List.map_cons, List.cons.injEq] at e2
    rcases hT with ⟨rfl, rfl⟩ | ⟨rfl, rfl⟩
    · cases c with
      | i m => obtain ⟨t, rfl⟩ := x; exact PySem.W.Looks.now
      | s y => exact absurd e2.1 (by simp [Kd])
    · cases c with
      | s y => obtain ⟨t, rfl⟩ := x; exact PySem.W.Looks.now
      | i m => exact absurd e2.1 (by simp [Kd])
  cases b with
  | true =>
    refine PySem.W.kat_kind (T := .type "int") h1 (by omega) (key _ (.inl ⟨rfl, rfl⟩)) (by rfl) ?_
    have e : (Value.type "int" != Value.type "tuple") = true := by first | decide +kernel | rfl | decide
    rw [e]
    exact hq
  | false =>
    refine PySem.W.kat_kind (T := .type "str") h1 (by omega) (key _ (.inr ⟨rfl, rfl⟩)) (by rfl) ?_
    have e : (Value.type "str" != Value.type "tuple") = true := by first | decide +kernel | rfl | decide
    rw [e]
    exact hq
end
def scV : Sc → V
  | .i n => .int n
  | .s x => .str x
theorem scv_of : ∀ {ks : List Sc} {us : List Value}, Vals (ks.map scV) us → ScVs ks us
  | [], us, h => by cases h; rfl
  | k :: ks, us, h => by
    cases h with
    | cons r rr =>
      refine ⟨_, _, rfl, ?_, scv_of rr⟩
      cases k with
      | i n => exact r
      | s x => exact r
def toSc : Value → Sc
  | .int n _ => .i n
  | .str x _ => .s x
  | _ => .i 0
theorem toSc_of : ∀ {ks : List Sc} {us : List Value}, ScVs ks us → us.map toSc = ks
  | [], us, h => by have h : us = [] := h; rw [h]; rfl
  | k :: ks, us, h => by
    obtain ⟨v, ws, rfl, h1, h2⟩ := h
    rw [List.map_cons, toSc_of h2]
    cases k with
    | i n => obtain ⟨t, rfl⟩ := h1; rfl
    | s x => obtain ⟨t, rfl⟩ := h1; rfl
/-- what the row at v holds -/
def rowOf (h : Heap) (v : Value) : List Sc := match v with
  | .ref a => match h.get? a with
    | some o => match o.data with
      | .seq us _ => us.toList.map toSc
      | _ => []
    | none => []
  | _ => []
theorem IsRow.of {h : Heap} {v : Value} {ks : List Sc} (x : IsRow h v ks) : rowOf h v = ks := by
  obtain ⟨a, o, us, n, rfl, h1, h2, h3, h4⟩ := x
  unfold rowOf
  simp only [h1, h3]
  exact toSc_of h4
/-- sorted(xs): kss the rows at xs, all of one shape; ps the sorted rows with their addresses -/
def rSortedRow (K : PySem.W.Frag) : List V → Hp → VK → Prop := fun vs H Q => ∃ (a : Addr) (xs : List V) (kss : List (List Sc)) (b : Bool) (sh : List Bool), vs = [V.ref a] ∧ SqL K H a xs ∧ xs.length = kss.length ∧ (∀ q ∈ xs.zip kss, (∃ t, q.1 = V.ref t ∧ SqT K H t (q.2.map scV)) ∧ q.2.map Kd = b :: sh) ∧
  ∀ (ps : List (V × List Sc)) (p : Addr), ps.Perm (xs.zip kss) → SrS id (ps.map (·.2)) → H p = none → Q (.ref p) (upd H p (.lst (ps.map (·.1))))
section
variable {X : Cx}
theorem cr_sortedRow : CallR X (.builtin "sorted") (rSortedRow X.K) := by
  intro pins s σ H vs us Q I r h
  obtain ⟨a, xs, kss, b, sh, rfl, hs, hl, hx, q⟩ := h
  obtain ⟨its, rv, hli, hz⟩ := I.list hs
  obtain ⟨u, rfl, ru⟩ := vals1 r
  obtain rfl : u = Value.ref a := ru
  have hmem : ∀ x ∈ xs, ∃ ks, (x, ks) ∈ xs.zip kss := fun x hm => by
    obtain ⟨i, hi⟩ := List.mem_iff_getElem?.1 hm
    have hil := (List.getElem?_eq_some_iff.1 hi).1
    have : (xs.zip kss)[i]? = some (x, kss[i]) := by
      rw [List.getElem?_zip_eq_some]
      exact ⟨hi, List.getElem?_eq_getElem (by omega)⟩
    exact ⟨_, List.mem_iff_getElem?.2 ⟨i, this⟩⟩
  obtain ⟨e1, e2⟩ := refs_back rv fun x m => by
    obtain ⟨ks, hk⟩ := hmem x m
    obtain ⟨⟨t, e, _⟩, _⟩ := hx _ hk
    exact ⟨t, e⟩
  have row : ∀ (t : Addr) (ks : List Sc), (V.ref t, ks) ∈ xs.zip kss → IsRow s.heap (.ref t) ks := fun t ks hk => by
    obtain ⟨⟨t', e, ht⟩, _⟩ := hx _ hk
    cases e
    obtain ⟨its2, r2, ⟨o, ho, hc, n, hd⟩, _⟩ := I.tuple ht
    exact ⟨t, o, its2, n, rfl, ho, hc, hd, scv_of r2⟩
  have rows : ∀ v ∈ its, IsRow s.heap v (rowOf s.heap v) ∧ (rowOf s.heap v).map Kd = b :: sh := fun v hv => by
    obtain ⟨t, rfl⟩ := e2 v hv
    have hm : V.ref t ∈ xs := by rw [e1]; exact List.mem_map.mpr ⟨_, hv, rfl⟩
    obtain ⟨ks, hk⟩ := hmem _ hm
    have z := row t ks hk
    rw [z.of]
    exact ⟨z, (hx _ hk).2⟩
  refine SrtO.sorted_ord (swoS (rowOf s.heap)) hli.isList (by rw [← rv.length]; exact hz) (fun h2 h₁ d hd kk => ?_) fun out h1 h2 => ?_
  · refine rows_sortable (s := { s with heap := h₁ }) (b := b) (sh := sh) (by omega) (fun v hm => ⟨(rows v hm).1.keeps fun c o e _ => (kk c o e).2, (rows v hm).2⟩) fun o e => ?_
    have e' := e.symm.trans hd
    cases e'
    intro c
    exact absurd (Value.type.inj c) (by decide)
  · obtain ⟨n, hn⟩ := sortedAll_at s.heap its out.toArray
    have h3 : ∀ u ∈ out, ∃ a, u = Value.ref a := fun u hu => e2 u (h2.perm.mem_iff.mp hu)
    have exs : xs.zip kss = its.map fun v => (backV v, rowOf s.heap v) := by
      apply List.ext_getElem?
      intro i
      rw [List.getElem?_map]
      by_cases hi : i < xs.length
      · have hi2 : i < its.length := by rw [← rv.length]; exact hi
        have a1 : (xs.zip kss)[i]? = some (xs[i], kss[i]) := by
          rw [List.getElem?_zip_eq_some]
          exact ⟨List.getElem?_eq_getElem hi, List.getElem?_eq_getElem (by omega)⟩
        rw [a1, List.getElem?_eq_getElem hi2]
        have a2 : xs[i] = backV its[i] := by
          have := congrArg (fun l => l[i]?) e1
          simp only [List.getElem?_map, List.getElem?_eq_getElem hi, List.getElem?_eq_getElem hi2] at this
          simpa using this
        obtain ⟨t, ht⟩ := e2 its[i] (List.getElem_mem hi2)
        have a3 : (V.ref t, kss[i]) ∈ xs.zip kss := by
          have : xs[i] = V.ref t := by rw [a2, ht]; rfl
          rw [← this]
          exact List.mem_iff_getElem?.2 ⟨i, a1⟩
        have := (row t _ a3).of
        rw [← ht] at this
        show some _ = some (backV its[i], rowOf s.heap its[i])
        rw [a2, this]
      · rw [List.getElem?_eq_none (by rw [List.length_zip]; omega), List.getElem?_eq_none (by rw [← rv.length]; omega)]; rfl
    have q' := q (out.map fun v => (backV v, rowOf s.heap v)) (s.heap.objs.size + 1) (by rw [exs]; exact h2.perm.map _) ?_ (I.hok.fresh (Nat.le_succ _))
    · have em : (out.map fun v => (backV v, rowOf s.heap v)).map (·.1) = out.map backV := by rw [List.map_map]; rfl
      rw [em] at q'
      have h3' := vals_back h3
      refine ⟨.ref _, upd H (s.heap.objs.size + 1) (.lst (out.map backV)), I.laid (t' := s.toks) (fun b o e => sortedAll_old e) (Nat.le_succ _) ⟨?_, out, n, h3', hn⟩, rfl, q'⟩
      rw [List.length_map, h2.perm.length_eq, ← rv.length]
      exact hz
    · rw [List.map_map]
      exact List.pairwise_map.2 h1
theorem k_sortedRow (K : PySem.W.Frag) (h : X.K = K := by rfl) : CallR X (.builtin "sorted") (rSortedRow K) := by subst h; exact cr_sortedRow
end
/-! ### data -/
def scD : Sc → D
  | .i n => .int n
  | .s x => .str x
theorem reps_scD {K : PySem.W.Frag} {H : Hp} : ∀ {ks : List Sc} {vs : List V}, Reps K H (ks.map scD) vs → vs = ks.map scV
  | [], vs, h => by simpa [Reps] using h
  | k :: ks, vs, h => by
    rw [List.map_cons] at h
    unfold Reps at h
    obtain ⟨x, us, rfl, h2, h3⟩ := h
    rw [reps_scD h3, List.map_cons]
    cases k with
    | i n => have h2 : Rep K H (.int n) x := h2; unfold Rep at h2; rw [h2]; rfl
    | s y => have h2 : Rep K H (.str y) x := h2; unfold Rep at h2; rw [h2]; rfl
/-- a type whose data are tuples of scalars, told by k -/
structure RowC {α : Type} (e : α → D) (k : α → List Sc) (b : Bool) (sh : List Bool) : Prop where
  e : ∀ a, e a = .tup ((k a).map scD)
  sh : ∀ a, (k a).map Kd = b :: sh
  inj : ∀ a a', k a = k a' → a = a'
theorem ex_sortRows {K : PySem.W.Frag} {env : List Slot} {te : TE} {α : Type} {e : α → D} {k : α → List Sc} {b : Bool} {sh : List Bool} (c : RowC e k b sh) {xs : List α} (h : EvE K te env (eL e xs)) : EvX K (tCB (rSortedRow K) (tCons te tNil)) env (oL (oF e) (sortS k xs)) := fun B F σ hs vs Q q => (ea_cons h ea_nil) B F σ hs vs _ fun B1 F1 ys g r => by
  obtain ⟨x, rfl, r1⟩ := reps1 r
  have r1 : Rep K B1 (.lst (xs.map e)) x := r1
  unfold Rep at r1
  obtain ⟨a, ws, rfl, e1, e2⟩ := r1
  have hl : ws.length = xs.length := by rw [e2.len, List.length_map]
  have each : ∀ i x w, xs[i]? = some x → ws[i]? = some w → Rep K B1 (e x) w := fun i x w hx hw => by
    obtain ⟨w', h1, h2⟩ := e2.get (d := e x) (i := i) (by rw [List.getElem?_map, hx]; rfl)
    rw [hw] at h1; cases h1; exact h2
  refine ⟨a, ws, xs.map k, b, sh, rfl, g.f.seq e1, by rw [List.length_map]; exact hl, fun q hq => ?_, fun ps p hp hsr hpn => ?_⟩
  · obtain ⟨i, hi⟩ := List.mem_iff_getElem?.1 hq
    obtain ⟨w, ks⟩ := q
    obtain ⟨h1, h2⟩ := List.getElem?_zip_eq_some.1 hi
    rw [List.getElem?_map] at h2
    cases hx : xs[i]? with
    | none => rw [hx] at h2; cases h2
    | some x =>
      rw [hx] at h2; cases h2
      have rr := each i x w hx h1
      rw [c.e] at rr
      unfold Rep at rr
      obtain ⟨t, us, rfl, e3, e4⟩ := rr
      rw [reps_scD e4] at e3
      exact ⟨⟨t, rfl, sqt_mono g.f e3⟩, c.sh x⟩
  · have es : ps.map (·.2) = (sortS k xs).map k := by
      refine sorted_uniq hsr ?_ ?_
      · exact List.pairwise_map.2 (sortS_sorted xs)
      · have h1 : (ps.map (·.2)).Perm ((ws.zip (xs.map k)).map (·.2)) := hp.map _
        rw [List.map_snd_zip (by rw [List.length_map]; omega)] at h1
        exact h1.trans ((sortS_perm xs).map k).symm
    have rp : Reps K B1 ((sortS k xs).map e) (ps.map (·.1)) := by
      have gen : ∀ (ps : List (V × List Sc)) (ss : List α), (∀ q ∈ ps, ∃ x, k x = q.2 ∧ Rep K B1 (e x) q.1) → ps.map (·.2) = ss.map k → Reps K B1 (ss.map e) (ps.map (·.1)) := by
        intro ps
        induction ps with
        | nil =>
          intro ss _ h
          cases ss with
          | nil => exact Reps.nil
          | cons s ss => simp at h
        | cons q ps ih =>
          intro ss hq h
          cases ss with
          | nil => simp at h
          | cons s ss =>
            simp only [List.map_cons, List.cons.injEq] at h ⊢
            obtain ⟨x, hx, rx⟩ := hq q (by simp)
            have : x = s := c.inj _ _ (hx.trans h.1)
            subst this
            exact Reps.cons rx (ih ss (fun q' hq' => hq q' (by simp [hq'])) h.2)
      refine gen ps (sortS k xs) (fun q hq => ?_) es
      have hm := hp.mem_iff.1 hq
      obtain ⟨i, hi⟩ := List.mem_iff_getElem?.1 hm
      obtain ⟨w, ks⟩ := q
      obtain ⟨h1, h2⟩ := List.getElem?_zip_eq_some.1 hi
      rw [List.getElem?_map] at h2
      cases hx : xs[i]? with
      | none => rw [hx] at h2; cases h2
      | some x =>
        rw [hx] at h2; cases h2
        exact ⟨x, rfl, each i x w hx h1⟩
    have w := en_new (K := K) (ds := (sortS k xs).map e) (Q := Q) g hpn rp
    rw [ol_eq] at q
    exact w q
end Y

/-! X12: small rules: max and min with a default, texts sorted, dicts asked, truth. -/
namespace Y
open PySem PySem.Spec PyProof.Rows L2
section
variable {X : Cx}
def rMM (K : PySem.W.Frag) (f : List Int → Int) : List V → List V → Hp → VK → Prop := fun vs zs H Q => ∃ (a : Addr) (ns : List Int), vs = [V.ref a] ∧ zs = [.non] ∧ SqL K H a (ns.map V.int) ∧ Q (if ns = [] then .non else .int (f ns)) H
theorem reads_ints {h : Heap} : ∀ {vs : List Value} {ns : List Int}, IntsAre vs ns → ∃ as, PySem.ReadsAll h vs (ns.map PySem.W.Datum.toD) as
  | vs, [], hi => by cases hi; exact ⟨[], PySem.ReadsAll.nil⟩
  | vs, n :: ns, hi => by
    cases hi with
    | cons _ _ r =>
      obtain ⟨as, h2⟩ := reads_ints (h := h) r
      exact ⟨_, PySem.ReadsAll.cons (PySem.Reads.int _ _) h2⟩
theorem maxOf_int : ∀ (ys : List Int) (y : Int), PySem.W.maxOf y ys = ys.foldl max y
  | [], y => rfl
  | z :: ys, y => by
    show List.foldl _ (if PySem.W.DatumOrd.lt y z = true then z else y) ys = List.foldl max (max y z) ys
    have e : (if PySem.W.DatumOrd.lt y z = true then z else y) = max y z := by
      show (if decide (y < z) = true then z else y) = max y z
      by_cases h : y < z
      · rw [if_pos (decide_eq_true h), Int.max_eq_right (by omega)]
      · rw [if_neg (by simpa using h), Int.max_eq_left (by omega)]
    rw [e]; exact maxOf_int ys _
theorem minOf_int : ∀ (ys : List Int) (y : Int), PySem.W.minOf y ys = ys.foldl min y
  | [], y => rfl
  | z :: ys, y => by
    show List.foldl _ (if PySem.W.DatumOrd.lt z y = true then z else y) ys = List.foldl min (min y z) ys
    have e : (if PySem.W.DatumOrd.lt z y = true then z else y) = min y z := by
      show (if decide (z < y) = true then z else y) = min y z
      by_cases h : z < y
      · rw [if_pos (decide_eq_true h), Int.min_eq_right (by omega)]
      · rw [if_neg (by simpa using h), Int.min_eq_left (by omega)]
    rw [e]; exact minOf_int ys _
theorem cr_maxD (hc : X.calm = true) (hu : X.A.units + 1 < cLine) : CallRK X (.builtin "max") [Str.ofString "default"] (rMM X.K maxL) := by
  intro pins s σ H vs zs us ws Q inv r rz h
  obtain ⟨a, ns, rfl, rfl, hs, q⟩ := h
  obtain rfl := Vals.ref1 r
  obtain ⟨w1, rfl, e1⟩ := vals1 rz
  obtain rfl : w1 = Value.none := e1
  obtain ⟨its, rv, hl, hz⟩ := inv.list hs
  refine PySem.W.max_list_datum_default (α := Int) (inv.ok.hd hc) hl.isList (reads_ints rv.ints) (by show X.A.units + 1 + 0 < cLine; omega) (fun e h' tk k => ?_) fun y ys i v h' tk e _ hold k => ?_
  · rw [if_pos e] at q
    exact ⟨.non, H, inv.kept k, rfl, q⟩
  · rw [if_neg (by rw [e]; simp)] at q
    obtain ⟨as, rd⟩ := hold
    rw [maxOf_int] at rd
    have rd' : PySem.Reads h' v (.int (ys.foldl max y)) as := rd
    cases rd' with
    | int _ t =>
      have : maxL ns = ys.foldl max y := by rw [e]; rfl
      rw [this] at q
      exact ⟨.int _, H, inv.kept k, ⟨_, rfl⟩, q⟩
theorem cr_minD (hc : X.calm = true) (hu : X.A.units + 1 < cLine) : CallRK X (.builtin "min") [Str.ofString "default"] (rMM X.K minL) := by
  intro pins s σ H vs zs us ws Q inv r rz h
  obtain ⟨a, ns, rfl, rfl, hs, q⟩ := h
  obtain rfl := Vals.ref1 r
  obtain ⟨w1, rfl, e1⟩ := vals1 rz
  obtain rfl : w1 = Value.none := e1
  obtain ⟨its, rv, hl, hz⟩ := inv.list hs
  refine PySem.W.min_list_datum_default (α := Int) (inv.ok.hd hc) hl.isList (reads_ints rv.ints) (by show X.A.units + 1 + 0 < cLine; omega) (fun e h' tk k => ?_) fun y ys i v h' tk e _ hold k => ?_
  · rw [if_pos e] at q
    exact ⟨.non, H, inv.kept k, rfl, q⟩
  · rw [if_neg (by rw [e]; simp)] at q
    obtain ⟨as, rd⟩ := hold
    rw [minOf_int] at rd
    have rd' : PySem.Reads h' v (.int (ys.foldl min y)) as := rd
    cases rd' with
    | int _ t =>
      have : minL ns = ys.foldl min y := by rw [e]; rfl
      rw [this] at q
      exact ⟨.int _, H, inv.kept k, ⟨_, rfl⟩, q⟩
theorem k_maxD (K : PySem.W.Frag) (hu : X.A.units + 1 < cLine) (h : X.K = K := by rfl) (hc : X.calm = true := by rfl) : CallRK X (.builtin "max") [Str.ofString "default"] (rMM K maxL) := by subst h; exact cr_maxD hc hu
theorem k_minD (K : PySem.W.Frag) (hu : X.A.units + 1 < cLine) (h : X.K = K := by rfl) (hc : X.calm = true := by rfl) : CallRK X (.builtin "min") [Str.ofString "default"] (rMM K minL) := by subst h; exact cr_minD hc hu
end
section
variable {K : PySem.W.Frag} {env : List Slot} {te ta tb td ty tx tk : TE} {d : D} {α β : Type}
def optL (f : List Int → Int) (ns : List Int) : Option Int := if ns = [] then none else some (f ns)
theorem ee_mmD {f : List Int → Int} {ns : List Int} (h : EvE K te env (eL D.int ns)) : EvE K (tCKw (rMM K f) (tCons te tNil) (tCons (tC .non) tNil)) env (eN D.int (optL f ns)) := fun B F σ hs vs Q q =>
  (ea_cons h ea_nil) B F σ hs vs _ fun B1 F1 xs g r => by
    obtain ⟨x, rfl, r1⟩ := reps1 r
    have r1 : Rep K B1 (.lst (ns.map .int)) x := r1
    unfold Rep at r1
    obtain ⟨a, ws, rfl, e1, e2⟩ := r1
    have := e2.ints
    subst this
    refine (ea_cons ee_non ea_nil) B1 F1 σ g.f (vs.grow g) _ fun B2 F2 ys g2 r2 => ?_
    obtain ⟨y, rfl, r3⟩ := reps1 r2
    unfold Rep at r3; subst r3
    refine ⟨a, ns, rfl, rfl, g2.s.seq (g.f.seq e1), q B2 F2 _ (g.trans g2) ?_⟩
    unfold optL
    by_cases z : ns = []
    · rw [if_pos z, if_pos z]; unfold eN Rep; rfl
    · rw [if_neg z, if_neg z]; unfold eN Rep; rfl
/-! texts -/
def kX (l : List Nat) : List Sc := [.s (S l)]
theorem S_cps (l : List Nat) : (S l).cps.toList = l := by simp [S, SX.S]
theorem lexX (a b : List Nat) : lexS (kX a) (kX b) = decide (a < b) := by
  unfold kX lexS
  by_cases h : a = b
  · subst h
    rw [if_pos rfl]
    show false = _
    exact (decide_eq_false (List.lt_irrefl _)).symm
  · rw [if_neg (fun z => h (SX.S_inj (Sc.s.inj z)))]
    show decide ((S a).cps.toList < (S b).cps.toList) = _
    rw [S_cps, S_cps]
theorem rising_sr : ∀ (p : List Nat) (ys : List (List Nat)), risingS (S p) (ys.map S) = true → SrS kX (p :: ys)
  | p, [], _ => by simp [SrS]
  | p, y :: ys, h => by
    have h : (!ltCps (S y).cps.toList (S p).cps.toList && risingS (S y) (ys.map S)) = true := h
    rw [Bool.and_eq_true, S_cps, S_cps, ltCps_eq] at h
    have ih := rising_sr y ys h.2
    have hy : lexS (kX y) (kX p) = false := by rw [lexX]; simpa using h.1
    refine List.pairwise_cons.2 ⟨fun z hz => ?_, ih⟩
    rcases List.mem_cons.1 hz with rfl | hz
    · exact hy
    · exact lexS_le hy ((List.pairwise_cons.1 ih).1 z hz)
theorem sorted_sr {ys : List (List Nat)} (h : sortedS (ys.map S) = true) : SrS kX ys := by
  cases ys with
  | nil => exact .nil
  | cons y ys => exact rising_sr y ys h
theorem kX_inj {a b : List Nat} (h : kX a = kX b) : a = b := by
  unfold kX at h
  exact SX.S_inj (Sc.s.inj (List.cons.inj h).1)
theorem sortX_uniq {xs ys : List (List Nat)} (h : ys.Perm xs) (h2 : SrS kX ys) : ys = sortS kX xs := by
  have e := sorted_uniq (l := ys.map kX) (m := (sortS kX xs).map kX) (List.pairwise_map.2 h2) (List.pairwise_map.2 (sortS_sorted xs)) ((h.trans (sortS_perm xs).symm).map kX)
  have inj : ∀ (a b : List (List Nat)), a.map kX = b.map kX → a = b := by
    intro a
    induction a with
    | nil => intro b hb; cases b with
      | nil => rfl
      | cons _ _ => simp at hb
    | cons x a ih => intro b hb; cases b with
      | nil => simp at hb
      | cons y b => simp only [List.map_cons, List.cons.injEq] at hb; rw [kX_inj hb.1, ih b hb.2]
  exact inj _ _ e
theorem strs_S (ys : List Str) : ∃ zs : List (List Nat), ys = zs.map S := ⟨ys.map fun y => y.cps.toList, by
  rw [List.map_map]
  conv => lhs; rw [← List.map_id ys]
  exact List.map_congr_left fun a _ => (SX.S_tl a).symm⟩
theorem perm_S {ys : List (List Nat)} {xs : List (List Nat)} (h : (ys.map S).Perm (xs.map S)) : ys.Perm xs := by
  have := h.map fun y => y.cps.toList
  rw [List.map_map, List.map_map] at this
  have e : ∀ zs : List (List Nat), zs.map ((fun y : Str => y.cps.toList) ∘ S) = zs := fun zs => by
    conv => rhs; rw [← List.map_id zs]
    exact List.map_congr_left fun a _ => S_cps a
  rwa [e, e] at this
abbrev rSortDS : List V → Hp → VK → Prop := fun xs H Q => ∃ (a : Addr) (kvs : List (Key × V)) (ks : List Str), xs = [.ref a] ∧ Rd H a (.dK kvs) ∧ kvs.map (·.1) = ks.map Sum.inr ∧ ks.length < 64 ∧ ∀ ys p, ys.Perm ks → sortedS ys = true → H p = none → Q (.ref p) (upd H p (.lst (ys.map V.str)))
abbrev kkS : List Nat → Key := fun l => Sum.inr (S l)
theorem inj_kkS : Inj kkS := fun a b h => SX.S_inj (Sum.inr.inj h)
theorem reps_stx {H : Hp} (xs : List (List Nat)) : Reps K H (xs.map stx) ((xs.map S).map V.str) := by
  have : xs.map stx = (xs.map S).map D.str := by rw [List.map_map]; rfl
  rw [this]; exact reps_strs _
/-- sorted(d), keys texts -/
theorem ex_sortDX {e : α → D} {d : List (List Nat × α)} (h : EvDic K te env (d.map fun q => kkS q.1) (d.map fun q => e q.2)) (c : d.length < 64) : EvX K (tCB rSortDS (tCons te tNil)) env (oL (oF stx) (sortS kX (d.map (·.1)))) := fun B F σ hs vs Q q =>
  show te σ F _ from h B F σ hs vs _ fun B1 F1 a ws g hr hl r => by
    show tNil σ F1 _
    refine ⟨a, _, d.map fun q => S q.1, rfl, hr, ?_, by simpa using c, fun ys p h1 h2 hp => ?_⟩
    · rw [List.map_fst_zip (by omega), List.map_map]; rfl
    · obtain ⟨zs, rfl⟩ := strs_S ys
      have e1 : (d.map fun q => S q.1) = (d.map (·.1)).map S := by rw [List.map_map]; rfl
      rw [e1] at h1
      have := sortX_uniq (perm_S h1) (sorted_sr h2)
      subst this
      have w := en_new (K := K) (ds := (sortS kX (d.map (·.1))).map stx) (Q := Q) g hp (reps_stx _)
      rw [ol_eq] at q
      exact w q
/-- sorted(xs) of texts -/
theorem ex_sortLX {xs : List (List Nat)} (h : EvE K te env (eL stx xs)) (c : xs.length < 64) : EvX K (tCB (rSortedS K) (tCons te tNil)) env (oL (oF stx) (sortS kX xs)) := fun B F σ hs vs Q q => (ea_cons h ea_nil) B F σ hs vs _ fun B1 F1 us g r => by
  obtain ⟨x, rfl, r1⟩ := reps1 r
  have e0 : xs.map stx = (xs.map S).map D.str := by rw [List.map_map]; rfl
  have r1 : Rep K B1 (.lst (xs.map stx)) x := r1
  rw [e0] at r1
  unfold Rep at r1
  obtain ⟨a, ws, rfl, e1, e2⟩ := r1
  have := e2.strs
  subst this
  refine ⟨a, xs.map S, rfl, g.f.seq e1, by simpa using c, fun ys p h1 h2 hp => ?_⟩
  obtain ⟨zs, rfl⟩ := strs_S ys
  have := sortX_uniq (perm_S h1) (sorted_sr h2)
  subst this
  have w := en_new (K := K) (ds := (sortS kX xs).map stx) (Q := Q) g hp (reps_stx _)
  rw [ol_eq] at q
  exact w q
theorem k_sortedS (K : PySem.W.Frag) {X : Cx} (h : X.K = K := by rfl) : CallR X (.builtin "sorted") (rSortedS K) := by subst h; exact cr_sortedS
/-! dicts -/
variable {κ : Type} [DecidableEq κ] {kk : κ → Key}
theorem dhas_dget {d : List (κ × α)} {k : κ} : dhas d k = (dget d k).isSome := by
  unfold dhas dget
  induction d with
  | nil => rfl
  | cons q d ih =>
    rw [List.any_cons, List.find?_cons]
    by_cases h : q.1 = k
    · simp [h]
    · simp only [h, decide_false, Bool.false_or]; exact ih
theorem ee_dget2T (hi : Inj kk) {e : α → D} {d : List (κ × α)} {k : κ} {v : α} (h : EvDic K td env (d.map fun q => kk q.1) (d.map fun q => e q.2)) (hk : EvE K ty env (kD (kk k))) (hx : EvE K tx env (e v)) : EvE K (tDGet2 td ty tx) env (e ((dget d k).getD v)) := fun B F σ hs vs Q q =>
  h B F σ hs vs _ fun B1 F1 a ws g hr hl r => ⟨a, rfl, .inl ⟨_, hr⟩, hk B1 F1 σ g.f (vs.grow g) _ fun B2 F2 y g2 r2 => hx B2 F2 σ g2.f (vs.grow (g.trans g2)) _ fun B3 F3 z g3 r3 => by
    have := rep_key r2
    subst this
    refine ⟨_, .inl ⟨_, kk k, rd_mono (g2.s.trans g3.s) hr, rfl, rfl⟩, ?_⟩
    have gg := (g.trans g2).trans g3
    have hv := valV_has (k := kk k) hl
    rw [hasK_map hi, dhas_dget] at hv
    cases hg : dget d k with
    | none =>
      rw [hg] at hv q
      have hv : valV ((d.map fun q => kk q.1).zip ws) (kk k) = none := by simpa using hv
      rw [hv]
      exact q B3 F3 z gg r3
    | some u =>
      have hd : dataV (d.map fun q => kk q.1) (d.map fun q => e q.2) (kk k) = some (e u) := by rw [dataV_map hi, hg]; rfl
      obtain ⟨v', hv1, hv2⟩ := dataV_rep r hd
      rw [hv1]
      rw [hg] at q
      exact q B3 F3 v' gg (hv2.mono (g2.b.trans g3.b))⟩
/-- truth of a dict of one's own -/
theorem et_truOwn {i : Nat} {e : α → D} {d : List (κ × α)} (he : env[i]? = some (.own (oK kk e d))) : EvT K (fun σ H Q => (tVar i) σ H fun x H' => ∃ k, TruV K x H' k ∧ Q k H') env (!d.isEmpty) := fun B F σ hs ⟨Ps, vs⟩ Q q => by
  obtain ⟨x, h1, h2⟩ := vs.own i _ he
  unfold Own at h2
  obtain ⟨p, u, ws, P', rfl, a2, ⟨l, rfl⟩, a4, a5, a6⟩ := h2
  refine ⟨_, h1, !((d.map fun q => kk q.1).zip ws).isEmpty, .inr (.inr ⟨_, a2, rfl⟩), ?_⟩
  have e1 : ((d.map fun q => kk q.1).zip ws).isEmpty = d.isEmpty := by
    cases d with
    | nil => rfl
    | cons q d =>
      cases ws with
      | nil => simp at l
      | cons w ws => rfl
  rw [e1]
  exact q B F (Gr.refl hs)
/-! texts in lists and tuples -/
theorem eqV_S {a b : List Nat} : eqV (.str (S a)) (.str (S b)) = decide (a = b) := by
  show (S a == S b) = _
  by_cases h : a = b
  · subst h; simp
  · have : S a ≠ S b := fun z => h (SX.S_inj z)
    simp [h, this]
theorem inV_strs {l : List Nat} : ∀ xs : List (List Nat), inV (.str (S l)) ((xs.map S).map V.str) = decide (l ∈ xs)
  | [] => by simp [inV]
  | x :: xs => by
    have ih := inV_strs (l := l) xs
    unfold inV at ih ⊢
    rw [List.map_cons, List.map_cons, List.any_cons, ih, eqV_S]
    by_cases h : x = l
    · subst h; simp
    · have : ¬ l = x := fun z => h z.symm
      simp [h, this]
theorem flat_strs : ∀ xs : List Str, (xs.map V.str).all flatV = true
  | [] => rfl
  | x :: xs => by rw [List.map_cons, List.all_cons, flat_strs xs]; rfl
theorem ee_inXT {neg : Bool} {l : List Nat} {xs : List (List Nat)} (h1 : EvE K ta env (stx l)) (h2 : EvE K tb env (eU stx xs)) : EvE K (tOp (rIn K neg) ta tb) env (.bl (if neg then !decide (l ∈ xs) else decide (l ∈ xs))) := ee_op h1 h2 fun B F x y hf r1 r2 Q q => by
  have e0 : xs.map stx = (xs.map S).map D.str := by rw [List.map_map]; rfl
  have r1 : Rep K B (.str (S l)) x := r1
  have r2 : Rep K B (.tup (xs.map stx)) y := r2
  rw [e0] at r2
  unfold Rep at r1 r2
  subst r1
  obtain ⟨a, ws, rfl, e1, e2⟩ := r2
  have := e2.strs
  subst this
  refine ⟨a, _, rfl, .inr (sqt_mono hf e1), rfl, flat_strs _, ?_⟩
  rw [inV_strs]
  exact q B F _ (Gr.refl hf) (rp_bl B)
/-- x is True, x is not True -/
theorem ee_isB {neg : Bool} {a b : Bool} (h1 : EvE K ta env (.bl a)) (h2 : EvE K tb env (.bl b)) : EvE K (tOp (fun x y H Q => ∃ a b, x = .bl a ∧ y = .bl b ∧ Q (.bl (if neg then !decide (a = b) else decide (a = b))) H) ta tb) env (.bl (if neg then !decide (a = b) else decide (a = b))) := ee_op h1 h2 fun B F x y hf r1 r2 Q q => by
  unfold Rep at r1 r2
  subst r1 r2
  exact ⟨a, b, rfl, rfl, q B F _ (Gr.refl hf) (rp_bl B)⟩
theorem op_isB {X : Cx} : OpR X (compareOp .Is) (fun x y H Q => ∃ a b, x = .bl a ∧ y = .bl b ∧ Q (.bl (if false then !decide (a = b) else decide (a = b))) H) := op_is_bl
theorem op_notB {X : Cx} : OpR X (compareOp .IsNot) (fun x y H Q => ∃ a b, x = .bl a ∧ y = .bl b ∧ Q (.bl (if true then !decide (a = b) else decide (a = b))) H) := op_isnot_bl
theorem ee_isiX {n : String} {b : Bool} {l : List Nat} (h : EvE K te env (stx l)) (hb : PySem.W.kitOne K (.type "str") (.type n) = some b) : EvE K (tCB (rIsi K) (tCons te (tCons (tC (.ty n)) tNil))) env (.bl b) :=
  ee_isi (v := .str (S l)) (t := "str") h rfl (fun H => .base (by first | exact .str _ | constructor)) hb
end
end Y

/-! X13: dict comprehensions. -/
namespace Y
open PySem PySem.Spec PyProof.Rows L2
section
variable {K : PySem.W.Frag} {env : List Slot} {tk tv : TE} {α β κ : Type} [DecidableEq κ] {kk : κ → Key}
/-- the pairs put in, one after another -/
def putAll (d : List (κ × β)) : List (κ × β) → List (κ × β)
  | [] => d
  | q :: qs => putAll (dput d q.1 q.2) qs
theorem putAll_append (d : List (κ × β)) : ∀ ps qs, putAll d (ps ++ qs) = putAll (putAll d ps) qs
  | [], qs => rfl
  | p :: ps, qs => putAll_append _ ps qs
theorem dput_len (d : List (κ × β)) (k : κ) (v : β) : (dput d k v).length ≤ d.length + 1 := by
  unfold dput
  split <;> simp
theorem putAll_len : ∀ (qs d : List (κ × β)), (putAll d qs).length ≤ d.length + qs.length
  | [], d => Nat.le_refl _
  | q :: qs, d => by
    have h1 := putAll_len qs (dput d q.1 q.2)
    have h2 := dput_len d q.1 q.2
    show (putAll (dput d q.1 q.2) qs).length ≤ _
    rw [List.length_cons]; omega
theorem ex_dcT {wi : TI} {g : TG} {tt : TT} {vs : List Nat} {rep : α → D} {xs : List α} {e : β → D} (us : α → List (Nat × D)) (c : α → Bool) (f : α → κ × β) (hi : EvI K wi env (xs.map rep)) (hk : Inj kk) (hz : xs.length ≤ 100000)
    (hg : ∀ x ∈ xs, EvG K g (rep x) (us x)) (hj : ∀ x ∈ xs, ∀ j ∈ (us x).map (·.1), j ∈ vs) (ht : ∀ x ∈ xs, EvT K tt (sets (wipeE env vs) (us x)) (c x))
    (h1 : ∀ x ∈ xs, c x = true → EvE K tk (sets (wipeE env vs) (us x)) (kD (kk (f x).1))) (h2 : ∀ x ∈ xs, c x = true → EvE K tv (sets (wipeE env vs) (us x)) (e (f x).2)) : EvX K (tDc wi g tt tk tv vs) env (oK kk e (putAll [] ((xs.filter c).map f))) := fun B F σ hs hvs Q q =>
  hi B F σ hs hvs _ fun B1 F1 J g1 w L hL => by
    have hF := g1.s.free hL
    have bL := g1.f.free hL
    obtain ⟨G, Y, wk, hG, hY⟩ := w.w
    let dd : Nat → List (κ × β) := fun i => putAll [] (((xs.take i).filter c).map f)
    have dd_s : ∀ i (h : i < xs.length), dd (i + 1) = if c xs[i] = true then dput (dd i) (f xs[i]).1 (f xs[i]).2 else dd i := fun i h => by
      show putAll [] (((xs.take (i + 1)).filter c).map f) = _
      rw [List.take_add_one, List.getElem?_eq_getElem h, List.filter_append, List.map_append, putAll_append]
      by_cases z : c xs[i] = true
      · rw [if_pos z]
        have : List.map f (List.filter c (some xs[i]).toList) = [f xs[i]] := by simp [z]
        rw [this]; rfl
      · rw [if_neg z]
        have : List.map f (List.filter c (some xs[i]).toList) = [] := by simp [z]
        rw [this]; rfl
    have dd_l : ∀ i, i ≤ xs.length → (dd i).length ≤ i := fun i h => by
      have := putAll_len (((xs.take i).filter c).map f) ([] : List (κ × β))
      have h2 := List.length_filter_le c (xs.take i)
      rw [List.length_map, List.length_nil] at this
      rw [List.length_take] at h2
      show (putAll [] _).length ≤ i
      omega
    have e1 : ∀ o, dl L (upd F1 L o) = F1 := fun o => by rw [dl_upd, dl_id hL]
    let Iv : Nat → Hp → Prop := fun i F2 => ∃ B2 ws, Gr B1 F1 B2 (dl L F2) ∧ B2 L = none ∧ F2 L = some (.dK (((dd i).map fun q => kk q.1).zip ws)) ∧ (dd i).length = ws.length ∧ Reps K B2 ((dd i).map fun q => e q.2) ws
    refine ⟨fun i m F2 => i + m = xs.length ∧ Iv i F2, ⟨xs.length, by omega, B1, [], by rw [e1]; exact Gr.refl g1.f, bL, upd_same, rfl, Reps.nil⟩, ?_⟩
    rintro i m F2 ⟨hm, B2, ws, g2, b2, f2, l2, r2⟩
    have hGF : G F2 := hG F2 fun a o e => same_undl g2.f a o (g2.b a o e)
    by_cases hi : i < xs.length
    · have hi' : i < (xs.map rep).length := by simpa using hi
      refine .inr ⟨wk.goes i F2 hi' hGF, Iv (i + 1), fun F' h => ⟨m - 1, by omega, by omega, h⟩, fun x F3 hy => ?_⟩
      obtain ⟨B3, d, g3, ed, rx⟩ := hY i B2 F2 x F3 g2.b (same_undl g2.f) (wk.yields i F2 x F3 hi' hGF hy)
      have n2 : F2 L ≠ none := by rw [f2]; simp
      have b3 := g3.out b2 n2
      have hx : xs[i] ∈ xs := List.getElem_mem hi
      rw [List.getElem?_map, List.getElem?_eq_getElem hi] at ed
      cases ed
      refine hg xs[i] hx B3 F3 _ x g3.f rx _ fun ys rys => ?_
      refine ⟨(wipe_setsV (hj xs[i] hx)).trans wipe_wipe, ?_⟩
      have gg3 : Gr B1 F1 B3 (dl L F3) := g2.trans (gr_dl g3 b3)
      have vs3 := ((hvs.grow (g1.trans gg3)).wiped (vs := vs)).sets (σ := σ) rys
      refine ht xs[i] hx B3 F3 _ g3.f (vs_undl vs3) _ fun B4 F4 g4 => ?_
      have b4 := g4.out b3 (by rw [g3.s _ _ f2]; simp)
      have f4 : F4 L = _ := g4.s _ _ (g3.s _ _ f2)
      have gg : Gr B1 F1 B4 (dl L F4) := gg3.trans (gr_dl g4 b4)
      have vs4 := vs3.grow (gr_dl g4 b4)
      cases hc : c xs[i] with
      | true =>
        rw [if_pos rfl]
        refine h1 xs[i] hx hc B4 F4 _ g4.f (vs_undl vs4) _ fun B5 F5 y g5 r5 => ?_
        have := rep_key r5
        subst this
        have b5 := g5.out b4 (by rw [f4]; simp)
        have f5 := g5.s _ _ f4
        have vs5 := vs4.grow (gr_dl g5 b5)
        refine h2 xs[i] hx hc B5 F5 _ g5.f (vs_undl vs5) _ fun B6 F6 z g6 r6 => ?_
        have b6 := g6.out b5 (by rw [f5]; simp)
        have f6 := g6.s _ _ f5
        have hlz : ((dd i).map fun q => kk q.1).length = ws.length := by rw [List.length_map]; exact l2
        refine ⟨_, kk (f xs[i]).1, rfl, f6, ?_, B6, putDs ((dd i).map fun q => kk q.1) ws (kk (f xs[i]).1) z, ?_, b6, ?_, ?_, ?_⟩
        · rw [List.length_zip, List.length_map]
          have := dd_l i (by omega)
          exact Nat.lt_of_le_of_lt (Nat.min_le_left _ _) (smallZ (by omega))
        · rw [dl_upd]; exact (gg.trans (gr_dl g5 b5)).trans (gr_dl g6 b6)
        · rw [upd_same, putK_zip hlz, putKs_map hk (dd i) (f xs[i]).1 (f xs[i]).2, dd_s i hi, if_pos hc]
        · rw [dd_s i hi, if_pos hc]
          have := putDs_len (k := kk (f xs[i]).1) (y := z) hlz
          rw [putKs_map hk (dd i) (f xs[i]).1 (f xs[i]).2, List.length_map] at this
          exact this
        · rw [dd_s i hi, if_pos hc, ← putDs_map hk e (dd i) (f xs[i]).1 (f xs[i]).2]
          exact reps_putDs r6 (r2.mono (((g3.b.trans g4.b).trans g5.b).trans g6.b))
      | false =>
        rw [if_neg (by decide)]
        have e2 : dd (i + 1) = dd i := by rw [dd_s i hi, if_neg (by rw [hc]; decide)]
        refine ⟨B4, ws, gg, b4, by rw [e2]; exact f4, by rw [e2]; exact l2, by rw [e2]; exact r2.mono (g3.b.trans g4.b)⟩
    · have ei : i = xs.length := by omega
      subst ei
      have hlm : (xs.map rep).length = xs.length := List.length_map _
      have st := wk.stops F2 hGF
      rw [hlm] at st
      refine .inl ⟨st, ?_⟩
      have ed : dd xs.length = putAll [] ((xs.filter c).map f) := by show putAll [] (((xs.take xs.length).filter c).map f) = _; rw [List.take_length]
      rw [ed] at f2 l2 r2
      have gq := g1.trans g2
      refine q B2 F2 (.ref L) (fun a => a = L ∨ False) ⟨gq.b, same_undl gq.f, fun a o e => same_undl gq.s a o e, gq.n⟩ ?_ fun a ha => ?_
      · unfold Own
        refine ⟨L, _, ws, fun _ => False, rfl, f2, ⟨by rw [List.length_map]; exact l2, rfl⟩, ?_, fun h => h, fun a => Iff.rfl⟩
        exact owns_fr r2
      · rcases ha with rfl | ha
        · exact ⟨hF, b2⟩
        · exact ha.elim
end
/-! typed -/
namespace G
variable {α β κ : Type} [DecidableEq κ]
def dcomp (xs : List α) (c : α → G Bool) (k : α → G κ) (f : α → G β) : G (List (κ × β)) := ⟨xs.length ≤ 100000 ∧ ∀ x ∈ xs, (c x).ok ∧ ((c x).val = true → (k x).ok ∧ (f x).ok), putAll [] ((xs.filter fun x => (c x).val).map fun x => ((k x).val, (f x).val))⟩
end G
theorem xo_dc {K : PySem.W.Frag} {env : List Slot} {tk tv : TE} {α β κ : Type} [DecidableEq κ] {kk : κ → Key} {wi : TI} {g : TG} {tt : TT} {vs : List Nat} {rep : α → D} {xs : List α} {e : β → D} {c : α → G Bool} {k : α → G κ} {f : α → G β} (hk : Inj kk) (us : α → List (Nat × D)) (hi : EvI K wi env (xs.map rep))
    (hg : ∀ x, EvG K g (rep x) (us x)) (hj : ∀ x, ∀ j ∈ (us x).map (·.1), j ∈ vs) (ht : ∀ x, XT K tt (sets (wipeE env vs) (us x)) (c x)) (h1 : ∀ x, XE K tk (sets (wipeE env vs) (us x)) (k x) (fun a => kD (kk a))) (h2 : ∀ x, XE K tv (sets (wipeE env vs) (us x)) (f x) e) :
    XO K (tDc wi g tt tk tv vs) env (.dcomp xs c k f) (oK kk e) := fun ok =>
  ex_dcT us (fun x => (c x).val) (fun x => ((k x).val, (f x).val)) hi hk ok.1 (fun x _ => hg x) (fun x _ => hj x) (fun x hx => ht x (ok.2 x hx).1) (fun x hx hc => h1 x ((ok.2 x hx).2 hc).1) (fun x hx hc => h2 x ((ok.2 x hx).2 hc).2)
end Y

/-! X14: {**a, **b}. -/
namespace Y
open PySem PySem.Spec PyProof.Rows L2
section
variable {prog : Program} {w : World} {A : Around} {E : Value → Shared → Prop} {s : Shared}
abbrev MK (prog : Program) (w : World) := mixKind prog w
theorem put_pairs {d : Addr} {kvs : List (Key × Value)} {k : Key} {key v : Value} {Q : Unit → Shared → Prop} (hkey : (MK prog w).is k key = true) (hm : s.heap.DictOf (MK prog w) d kvs) (hsz : kvs.length ≤ sizeLine)
    (hQ : ∀ h', h'.DictOf (MK prog w) d (stored kvs k v) → Heap.SameBut d s.heap h' → Q () { s with heap := h' }) : wpAny (model prog w) A (dictPut d ((MK prog w).hash k) key v) Q E s := by
  obtain ⟨o, es, ep, ho, hc, hd, hk, hp, hn⟩ := hm
  have hes : es.size ≤ sizeLine := by
    have q1 := hp.length
    have q2 : es.toList.length = es.size := by simp
    omega
  unfold dictPut
  refine wpAny_bind (wpAny_dictFind_of hkey ho hd hk ?_)
  have hix : (es.findIdx? fun e => (MK prog w).is k e.key) = kvs.findIdx? fun kv => decide (kv.1 = k) := by
    rw [← hp.findIdx k]
    obtain ⟨l⟩ := es
    simp
  cases hi : es.findIdx? fun e => (MK prog w).is k e.key with
  | some i =>
    refine wpAny_updateDict ho hd (hQ _ ⟨_, _, ep, Heap.get?_update_self _ ho (Obj.isFreed_of_dict (Obj.data_mapDict hd _)), hc.mapDict _, Obj.data_mapDict hd _, hk.modify _ _, ?_, ?_⟩ (Heap.SameBut.update ..))
    · rw [stored, if_pos (any_of_findIdx_some (hix ▸ hi))]
      have hl : (es.toList.findIdx? fun e => (MK prog w).is k e.key) = some i := by
        rw [← hi]
        obtain ⟨l⟩ := es
        simp
      have z := hp.modify hn hl v
      obtain ⟨l⟩ := es
      simpa using z
    · rw [stored, if_pos (any_of_findIdx_some (hix ▸ hi)), keys_map_store]
      exact hn
  | none =>
    have nk : k ∉ kvs.map (·.1) := not_mem_of_findIdx_none (hix ▸ hi)
    have na : ¬ (kvs.any fun kv => decide (kv.1 = k)) = true := by
      rw [List.any_eq_true]
      rintro ⟨kv, m, z⟩
      exact nk (List.mem_map.mpr ⟨kv, m, of_decide_eq_true z⟩)
    refine wpAny_updateDictKeys (hz := hes) ho hd (hQ _ ⟨_, _, ep + 1, Heap.get?_update_self _ ho (Obj.isFreed_of_dict (Obj.data_mapDictKeys hd _)), hc.mapDictKeys _, Obj.data_mapDictKeys hd _, hk.push hkey _, ?_, ?_⟩ (Heap.SameBut.update ..))
    · rw [stored, if_neg na]
      have z := hp.append hkey ((MK prog w).hash k) v
      obtain ⟨l⟩ := es
      simpa using z
    · rw [stored, if_neg na, List.map_append, List.nodup_append]
      refine ⟨hn, by simp, fun a ha b hb e => ?_⟩
      have hb : b = k := by simpa using hb
      exact nk (by rw [← hb, ← e]; exact ha)
/-- the keys of a dict of ints and texts are no addresses -/
theorem key_flat {k : Key} {v : Value} (h : (MK prog w).is k v = true) : ∀ a, v ≠ .ref a := fun a e => by
  subst e
  have h : keyIs k (.ref a) = true := h
  rcases keyIs_shape h with ⟨i, t, _, z⟩ | ⟨x, t, _, z⟩ <;> cases z
theorem merge_map {d o : Addr} {kvs more : List (Key × Value)} {Q : Unit → Shared → Prop} (hdo : d ≠ o) (hoS : (o == sysModules) = false) (hd : s.heap.DictOf (MK prog w) d kvs) (ho : s.heap.DictOf (MK prog w) o more) (hsz : kvs.length + more.length ≤ sizeLine)
    (hQ : ∀ h', h'.DictOf (MK prog w) d (merged kvs more) → Heap.SameBut d s.heap h' → Q () { s with heap := h' }) : wpAny (model prog w) A (mergeMapping d (.ref o) false) Q E s := by
  obtain ⟨od, esd, epd, hod, hcd, hdd, hkd, hpd, hnd⟩ := id hd
  obtain ⟨oo, eso, epo, hoo, hco, hdo', hko, hpo, hno⟩ := id ho
  have hlen : more.length = eso.size := by rw [← hpo.length]; simp
  unfold mergeMapping
  refine wpAny_bind (wpAny_isInstance ho.typeIs isSubtype_dict_dict ?_)
  rw [if_pos rfl]
  refine wpAny_bind (wpAny_specialOf ho.typeIs F.slot_dict_iter.lookup (wpAny_bind (wpAny_pure ?_)))
  have e1 : ((some (Value.builtin "dict.__iter__")) == some (.builtin "dict.__iter__")) = true := by decide +kernel
  rw [e1]
  dsimp only
  rw [hoS]
  simp only [Bool.false_eq_true, if_false]
  refine wpAny_bind (wpAny_dictEntries hod hdd ?_)
  have main : ∀ {Q' : PUnit → Shared → Prop}, (∀ u s', Q u s' → Q' u s') → wpAny (model prog w) A (do
      let es ← dictEntries o
      let epoch ← dictEpoch o
      let _ ← forIn (List.range es.size) PUnit.unit fun i (_ : PUnit) => (do
        let l' ← dictEntries o
        match l'[i]? with
          | some e => do
            holding [e.key, e.val] (dictPut d e.hash e.key e.val)
            let ep' ← dictEpoch o
            if (ep' != epoch) = true then do
                (unsupported "dict.changed-during-merge" : Sem PUnit)
                pure (ForInStep.yield PUnit.unit)
              else pure (ForInStep.yield PUnit.unit)
          | _ => do
            (unsupported "dict.changed-during-merge" : Sem PUnit)
            pure (ForInStep.yield PUnit.unit) : Sem (ForInStep PUnit))
      pure ()) Q' E s := by
    intro Q' hQ'
    refine wpAny_bind (wpAny_dictEntries hoo hdo' ?_)
    refine wpAny_bind (wpAny_dictEpoch hoo hdo' ?_)
    refine wpAny_bind ?_
    refine wpAny_forIn_list _ (fun rest _ s' => ∃ h' i, s' = { s with heap := h' } ∧ rest = (List.range eso.size).drop i ∧ i ≤ eso.size ∧ h'.DictOf (MK prog w) d (merged kvs (more.take i)) ∧ h'.get? o = some oo ∧ Heap.SameBut d s.heap h') _ ?_ ?_ _ _ ⟨s.heap, 0, rfl, rfl, Nat.zero_le _, by simpa [merged] using hd, hoo, Heap.SameBut.refl _ _⟩
    · rintro x rest b s' ⟨h', i, rfl, hr, hi, hd', hoo', hs'⟩
      have hlt : i < eso.size := by
        rcases Nat.lt_or_ge i eso.size with z | z
        · exact z
        · rw [List.drop_eq_nil_of_le (by simpa using z)] at hr; cases hr
      rw [List.drop_eq_getElem_cons (by simpa using hlt), List.getElem_range] at hr
      obtain ⟨rfl, hrest⟩ := List.cons.inj hr
      refine wpAny_bind (wpAny_dictEntries hoo' hdo' ?_)
      rw [Array.getElem?_eq_getElem hlt]
      obtain ⟨kv, hkv⟩ : ∃ kv, more[x]? = some kv := ⟨_, List.getElem?_eq_getElem (by rw [hlen]; exact hlt)⟩
      obtain ⟨k, v⟩ := kv
      obtain ⟨hkey, hval⟩ := hpo.get? (e := eso[x]) (by simp [hlt]) hkv
      obtain ⟨k', hkey', hhash⟩ := hko eso[x] (Array.getElem_mem hlt)
      obtain rfl : k' = k := (MK prog w).inj _ _ _ hkey' hkey
      show wpAny _ _ (holding [eso[x].key, eso[x].val] (dictPut d eso[x].hash eso[x].key eso[x].val) >>= _) _ _ _
      rw [hhash, hval]
      have hmx : (merged kvs (more.take x)).length ≤ sizeLine := by
        have q1 := merged_length_le kvs (more.take x)
        have q2 : (more.take x).length ≤ more.length := by rw [List.length_take]; omega
        omega
      refine wpAny_bind (wpAny_holding (put_pairs hkey hd' hmx fun h'' hd'' hs'' => ?_))
      have hoo'' : h''.get? o = some oo := (hs''.2 o (Ne.symm hdo)).trans hoo'
      refine wpAny_bind (wpAny_dictEpoch hoo'' hdo' ?_)
      rw [if_neg (by simp)]
      exact wpAny_pure ⟨h'', x + 1, rfl, hrest, hlt, by rw [merged_take_succ kvs more x (k', v) hkv]; exact hd'', hoo'', hs'.trans hs''⟩
    · rintro b s' ⟨h', i, rfl, hr, hi, hd', hoo', hs'⟩
      have hin : i = eso.size := by
        rcases Nat.lt_or_ge i eso.size with z | z
        · rw [List.drop_eq_getElem_cons (by simpa using z)] at hr; cases hr
        · omega
      rw [hin, ← hlen, List.take_length] at hd'
      exact wpAny_pure (hQ' _ _ (hQ h' hd' hs'))
  split
  · refine wpAny_bind (wpAny_dictEntries hoo hdo' ?_)
    refine wpAny_bind ?_
    rw [← Array.forIn_toList]
    refine wpAny_forIn_list _ (fun rest _ s' => s' = s ∧ ∀ e ∈ rest, e ∈ eso) _ ?_ ?_ _ _ ⟨rfl, fun e he => by simpa using he⟩
    · rintro x rest b s' ⟨rfl, hr⟩
      obtain ⟨k, hk, _⟩ := hko x (hr x (by simp))
      have hn := key_flat hk
      cases hx : x.key with
      | ref a => exact absurd hx (hn a)
      | _ => exact wpAny_pure ⟨rfl, fun e he => hr e (by simp [he])⟩
    · rintro b s' ⟨rfl, _⟩
      exact main fun _ _ z => z
  · exact main fun _ _ z => z
end
end Y

/-! X15: dicts whose keys are pairs of ints, by comprehension. -/
namespace Y
open PySem PySem.Spec PyProof.Rows L2
/-! the machine -/
section
variable {prog : Program} {w : World} {A : Around} {kx vx t i : Expr} {ifs : List Expr} {scope : Scope} {pos : Pos} {env : Env} {L : Addr}
def BdD (prog : Program) (w : World) (A : Around) (kx vx : Expr) (env : Env) (L : Addr) : Shared → (Shared → Prop) → Prop := fun s P =>
  wpAny (model prog w) A (eval kx env) (fun k s1 => wpAny (model prog w) A (eval vx env) (fun v s2 => wpAny (model prog w) A (dictSet L k v) (fun _ s3 => P s3) NoX s2) NoX s1) NoX s
theorem loop_dict : LoopR prog w A (.DictComp kx vx [⟨t, i, ifs, 0⟩] scope pos) 0 env t ifs (.ref L) (BdD prog w A kx vx env L) := by
  intro it R I turn n s h
  refine codeAny_loop rfl I (fun m s1 hI => ?_) n h
  have T := turn m s1 hI
  refine wpAny_noted (m := compTurn (.DictComp kx vx [⟨t, i, ifs, 0⟩] scope pos) 0 it (.ref L) env) ?_
  rw [compTurn_dict]
  refine wpAny_bind (wpAny_standAt (wpAny_bind (thnN T fun r s2 h2 => ?_)))
  cases r with
  | none => exact wpAny_pure h2
  | some v =>
    refine wpAny_bind (thnN h2 fun _ s3 h3 => wpAny_bind (thnN h3 fun _ s4 h4 => wpAny_bind (thnN h4 fun k s5 h5 => ?_)))
    cases k with
    | false => exact wpAny_pure ⟨rfl, h5⟩
    | true =>
      have h5 : BdD prog w A kx vx env L s5 _ := h5
      exact wpAny_bind (wpAny_bind (thnN h5 fun a s6 h6 => wpAny_bind (wpAny_holding (thnN h6 fun b s7 h7 => wpAny_bind (wpAny_standAt (wpAny_holding (thnN h7 fun _ s8 h8 => wpAny_pure ⟨rfl, h8⟩)))))))
end
section
variable {X : Cx} {pins : List (Addr × Obj)} {σ : L2.St} {H : Hp} {s : Shared} {E : Value → Shared → Prop} {L b : Addr} {kvs : List (List Key × V)} {ks : List Key} {v : V} {u r : Value}
theorem put_pair {Q : Unit → Shared → Prop} (hu : X.A.units < cLine) (I : Inv X pins σ H s) (hL : H L = some (.dT kvs)) (hb : H b = some (.tup (ks.map kV))) (hz : kvs.length < sizeLine) (ru : u = .ref b) (rv : RelV v r)
    (h : ∀ s', Inv X pins σ (upd H L (.dT (putK kvs ks v))) s' → Q () s') : wpAny (model X.prog X.w) X.A (dictSet L u r) Q E s := by
  subst ru
  obtain ⟨z, hd, xs, rel, dd⟩ := dt_of I.hok hL
  have z1 : xs.length ≤ sizeLine := by rw [← Paired.length rel]; exact z
  have z2 : (putK kvs ks v).length ≤ sizeLine := by have := length_putK kvs ks v; omega
  refine wpAny_dictSet_heap (hsz := z1) hu (key_of I.hok hb) dd fun h' dd' hs => h _ ?_
  obtain ⟨q, es, ep, h1, h2, h3, h4, _, h5⟩ := dd'
  refine d_write I (by rw [hL]; exact True.intro) hs ⟨q, h1⟩ ⟨z2, hd, _, (rel.put ks hb rv).keeps fun c ys ec => ?_, q, es, ep, h1, h2, h3, h4, h5⟩
  rw [upd_ne fun e => by subst e; rw [hL] at ec; cases ec]
  exact ec
end
def tPut (tk tv : TE) : TB := fun L σ H Nx => tk σ H fun y H1 => tv σ H1 fun z H2 => ∃ kvs ks b, y = .ref b ∧ H2 b = some (.tup (ks.map kV)) ∧ H2 L = some (.dT kvs) ∧ kvs.length < sizeLine ∧ Nx (upd H2 L (.dT (putK kvs ks z)))
theorem body_put {B : Cx} {L : Addr} {kx vx : Expr} {tk tv : TE} (hx : B.xe = NoX) (hu : B.A.units < cLine) (hk : PE B kx tk) (hv : PE B vx tv) : BodyR B (BdD B.prog B.w B.A kx vx B.env L) (tPut tk tv L) [] :=
  ⟨fun pins s σ H Nx P I h k => by
    have r := hk.run pins s σ H _ I h
    rw [hx] at r
    refine thnN r fun a s1 ⟨y, H1, I1, r1, q1⟩ => ?_
    have r' := hv.run pins s1 σ H1 _ I1 q1
    rw [hx] at r'
    refine thnN r' fun c s2 ⟨z, H2, I2, r2, kvs, ks, b, ey, hb, hL, hz, nx⟩ => ?_
    subst ey
    exact put_pair hu I2 hL hb hz r1 r2 fun s3 I3 => k σ _ s3 I3 Kn.rfl' nx⟩
def tDcP (wi : TI) (g : TG) (tt : TT) (tb : TB) (vs : List Nat) : TE := fun σ H Q => wi σ H fun J H1 => ∀ L, H1 L = none → Turns J g tt tb vs L σ (upd H1 L (.dT [])) fun H2 => Q (.ref L) H2
section
variable {X : Cx}
theorem dcP_core {pins : List (Addr × Obj)} {s : Shared} {σ : L2.St} {H : Hp} {Q : VK} {kx vx t i : Expr} {ifs : List Expr} {scope : Scope} {own : List (Str × Nat)} {vsb : List Nat} {pos pos' : Pos} {wi : TI} {g : TG} {tt : TT} {tb : TB} {use : Option (Value → Sem Unit)} {Qf : Value → Shared → Prop} {Bd : Env → Addr → Shared → (Shared → Prop) → Prop}
    (hc : X.calm = true) (hN : X.N.Nodup) (I : Inv X pins σ H s) (hi : PI X t i wi) (ok : BlkOk X.N X.env.scope scope own) (sub : ∀ j ∈ vsb, j ∈ own.map (·.2))
    (hg : ∀ (s : Shared) (H : Hp) (C : Addr) (cl : List (Str × Addr)) (fp : List Addr), PG (X.blk s H scope (compEnvC scope cl C X.env) fp) t g) (ht : ∀ (s : Shared) (H : Hp) (C : Addr) (cl : List (Str × Addr)) (fp : List Addr), PTs (X.blk s H scope (compEnvC scope cl C X.env) fp) ifs tt)
    (lr : ∀ (C : Addr) (cl : List (Str × Addr)) (L : Addr), LoopR X.prog X.w X.A (.DictComp kx vx [⟨t, i, ifs, 0⟩] scope pos) 0 (compEnvC scope cl C X.env) t ifs (.ref L) (Bd (compEnvC scope cl C X.env) L))
    (bd : ∀ (s : Shared) (H : Hp) (C : Addr) (cl : List (Str × Addr)) (fp : List Addr) (L : Addr), BodyR (X.blk s H scope (compEnvC scope cl C X.env) fp) (Bd (compEnvC scope cl C X.env) L) (tb L) vsb)
    (hs : ∀ x, foldedSetIterable i X.env x = pure x) (h : tDcP wi g tt tb (own.map (·.2)) σ H Q)
    (hRR : ∀ D C s' m H', Inv X pins σ H' s' → Q (.ref D) H' → s'.heap.Ns C m → FpOk X pins H' C → compPost (model X.prog X.w) X.A X.xe use Qf (.ref D) C (.ok .next) s') :
    wpAny (model X.prog X.w) X.A (comprehension (.DictComp kx vx [⟨t, i, ifs, 0⟩] scope pos) scope X.env pos' newDict false (eval i X.env) use) Qf X.xe s := by
  have free : ∀ y ∈ scope.names, y.2 = .free → ∃ c, X.env.cells.lookup y.1 = some c := fun y hy e => by
    rcases ok.free y hy e with z | z
    · exact I.ok.has _ (.inl z)
    · exact I.ok.has _ (.inr z)
  refine wpAny_comprehension_free (use := use) rfl hs (closure_ok free) ok.kind (fun y hy e => by rw [ok.uniq y hy, e]) (thn (hi.run pins s σ H _ I h) fun xv s1 h1 => thn h1 fun itv s2 h2 => ?_)
  obtain ⟨it, fp, tn, J, H2, e, I2, T, st2, f2, q⟩ := h2
  subst e
  refine wpAny_newObj_type (newEnv_comp ?_)
  generalize eL : s2.heap.objs.size = L
  have nL : H2 L = none := I2.hok.fresh (Nat.le_of_eq eL)
  have tq := q L nL
  generalize es3 : ({ s2 with heap := s2.heap.push { cls := .type "dict", data := .dict #[] } } : Shared) = s3
  have hp3 : s3.heap = s2.heap.push { cls := .type "dict", data := .dict #[] } := by rw [← es3]
  have I3 : Inv X pins σ (upd H2 L (.dT [])) s3 := by
    rw [← es3]
    refine I2.laid (t' := s2.toks) (fun b o z => Heap.get?_push_of_some _ z) (Nat.le_of_eq eL) ?_
    rw [← eL]
    exact dt_empty s2.heap I2.big
  have low : ∀ b ∈ fp, b < s2.heap.objs.size := fun b hb => by
    obtain ⟨o, z, _⟩ := T.obj _ _ st2 b hb
    exact Heap.lt_size z
  have f3 : ∀ b ∈ fp, FpOk X pins (upd H2 L (.dT [])) b ∧ b < s3.heap.objs.size := fun b hb => by
    refine ⟨⟨?_, (f2 b hb).2⟩, by rw [hp3, Heap.size_push]; exact Nat.lt_succ_of_lt (low b hb)⟩
    rw [upd_ne (by rw [← eL]; exact Nat.ne_of_lt (low b hb))]
    exact (f2 b hb).1
  have st3 : tn 0 s3.heap := T.keep _ _ _ st2 fun b _ o z => by rw [hp3]; exact Heap.get?_push_of_some _ z
  have I4 := block_start I3 ok hN f3
  have pg := hg s3 (upd H2 L (.dT [])) s3.heap.objs.size (cellsFrom (s3.heap.objs.size + 1) scope.names (cloFrom X.env.cells scope.names [])) fp
  have pt := ht s3 (upd H2 L (.dT [])) s3.heap.objs.size (cellsFrom (s3.heap.objs.size + 1) scope.names (cloFrom X.env.cells scope.names [])) fp
  have pb := bd s3 (upd H2 L (.dT [])) s3.heap.objs.size (cellsFrom (s3.heap.objs.size + 1) scope.names (cloFrom X.env.cells scope.names [])) fp L
  have pl := lr s3.heap.objs.size (cellsFrom (s3.heap.objs.size + 1) scope.names (cloFrom X.env.cells scope.names [])) L
  have eC : (compEnvC scope (cellsFrom (s3.heap.objs.size + 1) scope.names (cloFrom X.env.cells scope.names [])) s3.heap.objs.size X.env).locals = s3.heap.objs.size := rfl
  show codeAny _ _ (.compStart _ 0 (.ref it) (.ref L) (compEnvC scope (cellsFrom (s3.heap.objs.size + 1) scope.names (cloFrom X.env.cells scope.names [])) s3.heap.objs.size X.env)) (compPost (model X.prog X.w) X.A X.xe use Qf (.ref L) s3.heap.objs.size) { s3 with heap := pushCells (s3.heap.push { cls := .type "dict", data := .dict #[] }) scope.names }
  generalize compEnvC scope (cellsFrom (s3.heap.objs.size + 1) scope.names (cloFrom X.env.cells scope.names [])) s3.heap.objs.size X.env = ce at I4 pg pt pb pl eC ⊢
  generalize eH3 : upd H2 L (.dT []) = H3 at I3 I4 pg pt pb tq f3
  generalize es4 : ({ s3 with heap := pushCells (s3.heap.push { cls := .type "dict", data := .dict #[] }) scope.names } : Shared) = s4 at I4 ⊢
  have st4 : tn 0 s4.heap := T.keep _ _ _ st3 fun b _ o z => by rw [← es4]; exact pushCells_keeps _ _ _ _ (Heap.get?_push_of_some _ z)
  have f4 : ∀ b ∈ fp, FpOk (X.blk s3 H3 scope ce fp) [] H3 b := fun b hb =>
    ⟨(f3 b hb).1.1, (I4.ok.exf b hb).1, I4.ok.exfs b hb, .inl hb, fun x c z => (I4.ok.exf b hb).2 x c z, fun p hp => absurd (show p ∈ ([] : List (Addr × Obj)) ++ [] from hp) (by simp)⟩
  have I4' : Inv (X.blk s3 H3 scope ce fp) [] (wipe σ (own.map (·.2))) H3 s4 := I4
  have tq' : Turns J g tt tb (own.map (·.2)) L (wipe σ (own.map (·.2))) H3 fun H2 => Q (.ref L) H2 := by
    obtain ⟨W, w0, turn⟩ := tq
    refine ⟨W, w0, fun j k H1 w1 => ?_⟩
    rw [wipe_wipe]
    exact turn j k H1 w1
  have lp : codeAny (model X.prog X.w) X.A (.compLoop (.DictComp kx vx [⟨t, i, ifs, 0⟩] scope pos) 0 (.ref it) (.ref L) ce) (compPost (model X.prog X.w) X.A X.xe use Qf (.ref L) s3.heap.objs.size) s4 := by
    refine turns_run (B := X.blk s3 H3 scope ce fp) rfl hc pl pb pg pt sub T I4' st4 f4 tq' fun H' s' I' qq n' => ?_
    have I7 : Inv X pins σ H' s' := I3.call' (ch := fp) I'.os I'.base I'.hok I'.bare fun b hb => ⟨(f3 b hb).1.2.2.2.1, (f3 b hb).1.2.1, (f3 b hb).1.2.2.2.2.1, (f3 b hb).1.2.2.2.2.2⟩
    have nC : H' s3.heap.objs.size = none := by
      have z : H' ce.locals = none := I'.free
      rw [eC] at z
      exact z
    obtain ⟨m, hn, _⟩ := I'.loc
    have hn : s'.heap.Ns ce.locals m := hn
    rw [eC] at hn
    exact hRR L s3.heap.objs.size s' m H' I7 qq hn (I3.fpOk (Nat.le_refl _) nC)
  exact codeAny_compStart_dict lp (T.self X.A 0 _ _ _ st4 lp)
theorem pe_dcP {kx vx t i : Expr} {ifs : List Expr} {scope : Scope} {own : List (Str × Nat)} {pos : Pos} {wi : TI} {g : TG} {tt : TT} {tk tv : TE} (hu : X.A.units + 1 < cLine)
    (hc : X.calm = true) (hN : X.N.Nodup) (hi : PI X t i wi) (ok : BlkOk X.N X.env.scope scope own)
    (hg : ∀ (s : Shared) (H : Hp) (C : Addr) (cl : List (Str × Addr)) (fp : List Addr), PG (X.blk s H scope (compEnvC scope cl C X.env) fp) t g) (ht : ∀ (s : Shared) (H : Hp) (C : Addr) (cl : List (Str × Addr)) (fp : List Addr), PTs (X.blk s H scope (compEnvC scope cl C X.env) fp) ifs tt)
    (hk : ∀ (s : Shared) (H : Hp) (C : Addr) (cl : List (Str × Addr)) (fp : List Addr), PE (X.blk s H scope (compEnvC scope cl C X.env) fp) kx tk) (hv : ∀ (s : Shared) (H : Hp) (C : Addr) (cl : List (Str × Addr)) (fp : List Addr), PE (X.blk s H scope (compEnvC scope cl C X.env) fp) vx tv)
    (hs : ∀ x, foldedSetIterable i X.env x = pure x := by intro _; rfl) : PE X (.DictComp kx vx [⟨t, i, ifs, 0⟩] scope pos) (tDcP wi g tt (tPut tk tv) (own.map (·.2))) := by
  refine ⟨fun pins s σ H Q I h => ?_⟩
  rw [arm_eval_DictComp]
  refine dcP_core (vsb := []) (Bd := fun env L => BdD X.prog X.w X.A kx vx env L) hc hN I hi ok (fun j hj => by cases hj) hg ht (fun C cl L => loop_dict) (fun s H C cl fp L => body_put (B := X.blk s H scope (compEnvC scope cl C X.env) fp) rfl (by show X.A.units < cLine; omega) (hk s H C cl fp) (hv s H C cl fp)) hs h fun D C s' m H' I' q hn f => ⟨m, hn, fun h'' sb => ?_⟩
  obtain ⟨f0, f1, f2, f3, f4, f5⟩ := f
  exact ⟨.ref D, H', I'.turned (t' := s'.toks) (fun b o hb z => (sb.2 b hb).trans z) f0 f1 f3 f4 f5, rfl, q⟩
end
end Y

/-! X16: pairs of ints as keys; small rules. -/
namespace Y
open PySem PySem.Spec PyProof.Rows L2
section
variable {κ α η : Type} [DecidableEq κ] [DecidableEq η] {kk : κ → η}
theorem hasK_mapG (hi : ∀ a b, kk a = kk b → a = b) (k : κ) : ∀ d : List (κ × α), hasK (d.map fun q => kk q.1) (kk k) = dhas d k
  | [] => rfl
  | (n, v) :: d => by
    have ih := hasK_mapG hi k d
    unfold hasK dhas at ih ⊢
    rw [List.map_cons, List.any_cons, List.any_cons, ih]
    congr 1
    by_cases h : n = k
    · subst h; simp
    · have : ¬ kk n = kk k := fun e => h (hi _ _ e)
      simp [h, this]
theorem putKs_mapG (hi : ∀ a b, kk a = kk b → a = b) (d : List (κ × α)) (k : κ) (v : α) : putKs (d.map fun q => kk q.1) (kk k) = (dput d k v).map fun q => kk q.1 := by
  unfold putKs dput
  rw [hasK_mapG hi]
  split
  · rw [List.map_map]
    apply List.map_congr_left
    intro q _
    show kk q.1 = kk (if q.1 = k then (q.1, v) else q).1
    split <;> rfl
  · rw [List.map_append]; rfl
theorem putDs_mapG (hi : ∀ a b, kk a = kk b → a = b) {γ : Type} (e : α → γ) (d : List (κ × α)) (k : κ) (v : α) : putDs (d.map fun q => kk q.1) (d.map fun q => e q.2) (kk k) (e v) = (dput d k v).map fun q => e q.2 := by
  have this : (d.map fun q => kk q.1).zip (d.map fun q => e q.2) = d.map fun q => (kk q.1, e q.2) := by
    clear v
    induction d with
    | nil => rfl
    | cons x d ih => simp only [List.map_cons, List.zip_cons_cons]; rw [ih]
  unfold putDs dput
  rw [hasK_mapG hi]
  split
  · rw [this, List.map_map, List.map_map]
    apply List.map_congr_left
    intro q _
    show (if kk q.1 = kk k then e v else e q.2) = e (if q.1 = k then (q.1, v) else q).2
    by_cases h : q.1 = k
    · simp [h]
    · have : ¬ kk q.1 = kk k := fun e => h (hi _ _ e)
      simp [h, this]
  · rw [List.map_append]; rfl
end
/-- a pair of ints as a key -/
abbrev kP (p : Int × Int) : List Key := [.inl p.1, .inl p.2]
theorem inj_P : ∀ a b, kP a = kP b → a = b := fun a b h => by
  have h1 := List.cons.inj h
  have h2 := List.cons.inj h1.2
  exact Prod.ext (Sum.inl.inj h1.1) (Sum.inl.inj h2.1)
abbrev eP : Int × Int → D := fun p => .tt (kP p)
abbrev eKP {α : Type} (e : α → D) : List ((Int × Int) × α) → D := fun d => .dit (d.map fun q => kP q.1) (d.map fun q => e q.2)
section
variable {K : PySem.W.Frag} {env : List Slot} {te ta tb tk tv td ty : TE} {α β : Type}
theorem ee_tt2 {t : TA} {i j : Int} (h : EvA K t env [.int i, .int j]) : EvE K (tTup t) env (eP (i, j)) := fun B F σ hs vs Q q => h B F σ hs vs _ fun B1 F1 xs g r => by
  have e : xs = [V.int i, V.int j] := by
    have := Reps.ints (ns := [i, j]) r
    exact this
  subst e
  refine ⟨by show 2 ≤ sizeLine; decide, fun p hp => q _ _ _ (g.trans (Gr.new g.f hp)) ?_⟩
  unfold Rep
  exact ⟨p, rfl, upd_same⟩
theorem ee_dinP {e : α → D} {d : List ((Int × Int) × α)} {k : Int × Int} (hk : EvE K ty env (eP k)) (h : EvE K td env (eKP e d)) : EvE K (tDIn ty td) env (.bl (dhas d k)) := fun B F σ hs vs Q q =>
  hk B F σ hs vs _ fun B1 F1 y g r2 => h B1 F1 σ g.f (vs.grow g) _ fun B2 F2 x g2 r => by
    unfold Rep at r2 r
    obtain ⟨b, rfl, hb⟩ := r2
    obtain ⟨a, ws, rfl, hr, hl, _⟩ := r
    have hl' : (d.map fun q => kP q.1).length = ws.length := by
      have := Reps.len (by assumption : Reps K B2 _ ws)
      rw [this]; exact hl
    refine ⟨a, _, rfl, .inr ⟨_, kP k, b, rd_mono g2.f hr, rfl, g2.f _ _ (g2.b _ _ hb), rfl⟩, ?_⟩
    rw [valV_has hl', hasK_mapG inj_P]
    exact q B2 F2 _ (g.trans g2) (rp_bl B2)
theorem ee_dninP {e : α → D} {d : List ((Int × Int) × α)} {k : Int × Int} (hk : EvE K ty env (eP k)) (h : EvE K td env (eKP e d)) : EvE K (tDNotIn ty td) env (.bl (!dhas d k)) := fun B F σ hs vs Q q =>
  hk B F σ hs vs _ fun B1 F1 y g r2 => h B1 F1 σ g.f (vs.grow g) _ fun B2 F2 x g2 r => by
    unfold Rep at r2 r
    obtain ⟨b, rfl, hb⟩ := r2
    obtain ⟨a, ws, rfl, hr, hl, _⟩ := r
    have hl' : (d.map fun q => kP q.1).length = ws.length := by
      have := Reps.len (by assumption : Reps K B2 _ ws)
      rw [this]; exact hl
    refine ⟨a, _, rfl, .inr ⟨_, kP k, b, rd_mono g2.f hr, rfl, g2.f _ _ (g2.b _ _ hb), rfl⟩, ?_⟩
    rw [valV_has hl', hasK_mapG inj_P]
    exact q B2 F2 _ (g.trans g2) (rp_bl B2)
theorem ee_dcP {wi : TI} {g : TG} {vs : List Nat} {rep : α → D} {xs : List α} {e : β → D} (us : α → List (Nat × D)) (f : α → (Int × Int) × β) (hi : EvI K wi env (xs.map rep)) (hz : xs.length ≤ 100000)
    (hg : ∀ x ∈ xs, EvG K g (rep x) (us x)) (hj : ∀ x ∈ xs, ∀ j ∈ (us x).map (·.1), j ∈ vs)
    (h1 : ∀ x ∈ xs, EvE K tk (sets (wipeE env vs) (us x)) (eP (f x).1)) (h2 : ∀ x ∈ xs, EvE K tv (sets (wipeE env vs) (us x)) (e (f x).2)) : EvE K (tDcP wi g tYes (tPut tk tv) vs) env (eKP e (putAll [] (xs.map f))) := fun B F σ hs hvs Q q =>
  hi B F σ hs hvs _ fun B1 F1 J g1 w L hL => by
    have hF := g1.s.free hL
    have bL := g1.f.free hL
    have bB : B L = none := hs.free hF
    obtain ⟨G, Y, wk, hG, hY⟩ := w.w
    let dd : Nat → List ((Int × Int) × β) := fun i => putAll [] ((xs.take i).map f)
    have dd_s : ∀ i (h : i < xs.length), dd (i + 1) = dput (dd i) (f xs[i]).1 (f xs[i]).2 := fun i h => by
      show putAll [] ((xs.take (i + 1)).map f) = _
      rw [List.take_add_one, List.getElem?_eq_getElem h, List.map_append, putAll_append]; rfl
    have dd_l : ∀ i, i ≤ xs.length → (dd i).length ≤ i := fun i h => by
      have := putAll_len ((xs.take i).map f) ([] : List ((Int × Int) × β))
      rw [List.length_map, List.length_nil, List.length_take] at this
      show (putAll [] _).length ≤ i
      omega
    have e1 : ∀ o, dl L (upd F1 L o) = F1 := fun o => by rw [dl_upd, dl_id hL]
    let Iv : Nat → Hp → Prop := fun i F2 => ∃ B2 ws, Gr B1 F1 B2 (dl L F2) ∧ B2 L = none ∧ F2 L = some (.dT (((dd i).map fun q => kP q.1).zip ws)) ∧ (dd i).length = ws.length ∧ Reps K B2 ((dd i).map fun q => e q.2) ws
    refine ⟨fun i m F2 => i + m = xs.length ∧ Iv i F2, ⟨xs.length, by omega, B1, [], by rw [e1]; exact Gr.refl g1.f, bL, upd_same, rfl, Reps.nil⟩, ?_⟩
    rintro i m F2 ⟨hm, B2, ws, g2, b2, f2, l2, r2⟩
    have hGF : G F2 := hG F2 fun a o e => same_undl g2.f a o (g2.b a o e)
    by_cases hi : i < xs.length
    · have hi' : i < (xs.map rep).length := by simpa using hi
      refine .inr ⟨wk.goes i F2 hi' hGF, Iv (i + 1), fun F' h => ⟨m - 1, by omega, by omega, h⟩, fun x F3 hy => ?_⟩
      obtain ⟨B3, d, g3, ed, rx⟩ := hY i B2 F2 x F3 g2.b (same_undl g2.f) (wk.yields i F2 x F3 hi' hGF hy)
      have n2 : F2 L ≠ none := by rw [f2]; simp
      have b3 := g3.out b2 n2
      have hx : xs[i] ∈ xs := List.getElem_mem hi
      rw [List.getElem?_map, List.getElem?_eq_getElem hi] at ed
      cases ed
      refine hg xs[i] hx B3 F3 _ x g3.f rx _ fun ys rys => ?_
      refine ⟨(wipe_setsV (hj xs[i] hx)).trans wipe_wipe, ?_⟩
      have gg3 : Gr B1 F1 B3 (dl L F3) := g2.trans (gr_dl g3 b3)
      have vs3 := ((hvs.grow (g1.trans gg3)).wiped (vs := vs)).sets (σ := σ) rys
      show (if (true : Bool) = true then tPut tk tv L _ F3 (Iv (i + 1)) else Iv (i + 1) F3)
      rw [if_pos rfl]
      have f3 : F3 L = _ := g3.s _ _ f2
      refine h1 xs[i] hx B3 F3 _ g3.f (vs_undl vs3) _ fun B5 F5 y g5 r5 => ?_
      unfold Rep at r5
      obtain ⟨b, rfl, hb⟩ := r5
      have b5 := g5.out b3 (by rw [f3]; simp)
      have f5 := g5.s _ _ f3
      have vs5 := vs3.grow (gr_dl g5 b5)
      refine h2 xs[i] hx B5 F5 _ g5.f (vs_undl vs5) _ fun B6 F6 z g6 r6 => ?_
      have b6 := g6.out b5 (by rw [f5]; simp)
      have f6 := g6.s _ _ f5
      have hlz : ((dd i).map fun q => kP q.1).length = ws.length := by rw [List.length_map]; exact l2
      refine ⟨_, kP (f xs[i]).1, b, rfl, g6.f _ _ (g6.b _ _ hb), f6, ?_, B6, putDs ((dd i).map fun q => kP q.1) ws (kP (f xs[i]).1) z, ?_, b6, ?_, ?_, ?_⟩
      · rw [List.length_zip, List.length_map]
        have := dd_l i (by omega)
        exact Nat.lt_of_le_of_lt (Nat.min_le_left _ _) (smallZ (by omega))
      · rw [dl_upd]; exact (gg3.trans (gr_dl g5 b5)).trans (gr_dl g6 b6)
      · rw [upd_same, putK_zip hlz, putKs_mapG inj_P (dd i) (f xs[i]).1 (f xs[i]).2, dd_s i hi]
      · rw [dd_s i hi]
        have := putDs_len (k := kP (f xs[i]).1) (y := z) hlz
        rw [putKs_mapG inj_P (dd i) (f xs[i]).1 (f xs[i]).2, List.length_map] at this
        exact this
      · rw [dd_s i hi, ← putDs_mapG inj_P e (dd i) (f xs[i]).1 (f xs[i]).2]
        exact reps_putDs r6 (r2.mono ((g3.b.trans g5.b).trans g6.b))
    · have ei : i = xs.length := by omega
      subst ei
      have hlm : (xs.map rep).length = xs.length := List.length_map _
      have st := wk.stops F2 hGF
      rw [hlm] at st
      refine .inl ⟨st, ?_⟩
      have ed : dd xs.length = putAll [] (xs.map f) := by show putAll [] ((xs.take xs.length).map f) = _; rw [List.take_length]
      rw [ed] at f2 l2 r2
      have gq := g1.trans g2
      refine q (upd B2 L (.dT (((putAll [] (xs.map f)).map fun q => kP q.1).zip ws))) F2 (.ref L) ⟨fun a o h => ?_, fun a o h => ?_, fun a o e => same_undl gq.s a o e, fun a h1 h2 => ?_⟩ ?_
      · rw [upd_ne (fun z => by subst z; rw [bB] at h; cases h)]
        exact gq.b a o h
      · by_cases z : a = L
        · subst z; rw [upd_same] at h; rw [f2]; exact h
        · rw [upd_ne z] at h
          exact same_undl gq.f a o h
      · by_cases z : a = L
        · subst z; exact hF
        · rw [upd_ne z] at h1
          exact gq.n a h1 h2
      · unfold Rep
        refine ⟨L, ws, rfl, .inl upd_same, by rw [List.length_map, List.length_map], r2.mono fun a o h => ?_⟩
        rw [upd_ne (fun z => by subst z; rw [b2] at h; cases h)]
        exact h
end
theorem xe_dcP {K : PySem.W.Frag} {env : List Slot} {tk tv : TE} {α β : Type} {wi : TI} {g : TG} {vs : List Nat} {rep : α → D} {xs : List α} {e : β → D} {k : α → G (Int × Int)} {f : α → G β} (us : α → List (Nat × D)) (hi : EvI K wi env (xs.map rep))
    (hg : ∀ x, EvG K g (rep x) (us x)) (hj : ∀ x, ∀ j ∈ (us x).map (·.1), j ∈ vs) (h1 : ∀ x, XE K tk (sets (wipeE env vs) (us x)) (k x) eP) (h2 : ∀ x, XE K tv (sets (wipeE env vs) (us x)) (f x) e) :
    XE K (tDcP wi g tYes (tPut tk tv) vs) env (.dcomp xs (fun _ => .p true) k f) (eKP e) := fun ok => by
  have e1 : (G.dcomp xs (fun _ => G.p true) k f).val = putAll [] (xs.map fun x => ((k x).val, (f x).val)) := by
    show putAll [] ((xs.filter fun _ => true).map _) = _
    have : xs.filter (fun _ => true) = xs := by simp
    rw [this]
  rw [e1]
  exact ee_dcP us (fun x => ((k x).val, (f x).val)) hi ok.1 (fun x _ => hg x) (fun x _ => hj x) (fun x hx => h1 x ((ok.2 x hx).2 rfl).1) (fun x hx => h2 x ((ok.2 x hx).2 rfl).2)
/-! small rules -/
section
variable {K : PySem.W.Frag} {env : List Slot} {te ta tb tk : TE} {α : Type} {i j : Int}
theorem ee_shl (h1 : EvE K ta env (.int i)) (h2 : EvE K tb env (.int j)) (hc : CPow i j) : EvE K (tOp (rI CPow fun i j => .int (i * 2 ^ j.toNat)) ta tb) env (.int (i * 2 ^ j.toNat)) := ee_I h1 h2 hc rp_int
theorem ee_shr (h1 : EvE K ta env (.int i)) (h2 : EvE K tb env (.int j)) (hc : 0 ≤ j) : EvE K (tOp (rI (fun _ j => 0 ≤ j) fun i j => .int (i / 2 ^ j.toNat)) ta tb) env (.int (i / 2 ^ j.toNat)) := ee_I (C := fun _ j => 0 ≤ j) h1 h2 hc rp_int
theorem ee_and1 (h1 : EvE K ta env (.int i)) (hc : 0 ≤ i) : EvE K (tOp (rI0 fun i j => .int (Builtin.bitAnd i j)) ta (tC (.int 1))) env (.int (i % 2)) := by
  have e : Builtin.bitAnd i 1 = i % 2 := by
    obtain ⟨n, rfl⟩ : ∃ n : Nat, i = n := ⟨i.toNat, by omega⟩
    show (((n : Int).toNat &&& (1 : Int).toNat : Nat) : Int) = _
    rw [Int.toNat_natCast, show (1 : Int).toNat = 1 from rfl, Nat.and_one_is_mod]
    omega
  rw [← e]
  exact ee_I0 h1 ee_int rp_int
theorem et_truI (h : EvE K te env (.int i)) : EvT K (fun σ H Q => te σ H fun x H' => ∃ k, TruV K x H' k ∧ Q k H') env (!decide (i = 0)) := fun B F σ hs vs Q q => h B F σ hs vs _ fun B1 F1 x g r => by
  unfold Rep at r; subst r
  refine ⟨i != 0, rfl, ?_⟩
  have : (i != 0) = !decide (i = 0) := by
    by_cases z : i = 0
    · subst z; rfl
    · simp [z, bne_iff_ne]
  rw [this]
  exact q B1 F1 g
theorem ee_lstT {t : TA} {ds : List D} {e : α → D} {xs : List α} (h : EvA K t env ds) (he : ds = xs.map e) (hz : xs.length ≤ 100000) : EvE K (tLst t) env (eL e xs) := by
  subst he
  exact ee_lst h (by rw [List.length_map]; exact hz)
theorem k_revL (K : PySem.W.Frag) {X : Cx} {e : Expr} {te : TE} {k : Nat} {p1 p2 p3 pos : Pos} (he : PE X e te) (h : X.K = K := by rfl) : PE X (.Subscript e (.Slice none none (some (.UnaryOp .USub (.Constant (.int 1) k p1) p2)) p3) pos) (tRevL K te) := by subst h; exact pe_revL he
theorem ex_rev {e : α → D} {xs : List α} (h : EvE K te env (eL e xs)) : EvX K (tRevL K te) env (oL (oF e) xs.reverse) := fun B F σ hs vs Q q => h B F σ hs vs _ fun B1 F1 x g r => by
  unfold Rep at r
  obtain ⟨a, ws, rfl, h1, h2⟩ := r
  refine ⟨a, ws, rfl, g.f.seq h1, fun p hp => ?_⟩
  have w2 := en_new (K := K) (Q := Q) g hp (ds := (xs.map e).reverse) h2.rev
  rw [← List.map_reverse] at w2
  rw [ol_eq] at q
  exact w2 q
theorem ex_listRg {n : Int} (h : EvE K ta env (.int n)) (hc : InI n ∧ n ≤ 100000) : EvX K (tLstRg (tRg1 ta)) env (oL (oF D.int) (rangeZ 0 n)) := fun B F σ hs vs Q q => h B F σ hs vs _ fun B1 F1 x g r => by
  unfold Rep at r; subst r
  obtain ⟨⟨c1, c2⟩, c3⟩ := hc
  refine ⟨n, rfl, ⟨by omega, by omega, c1, c2, by omega⟩, fun p hp => ?_⟩
  have e : rgV 0 n = (rangeZ 0 n).map V.int := by
    unfold rgV rangeZ
    rw [List.map_map]; rfl
  rw [e]
  have w2 := en_new (K := K) (Q := Q) g hp (ds := (rangeZ 0 n).map D.int) (reps_ints _)
  rw [ol_eq] at q
  exact w2 q
/-- xss[k][k2] = e -/
theorem st_set2 [Inhabited α] {i : Nat} {o : α → O} {xss : List (List α)} {k k2 : Int} {v : α} {tk2 : TE} (e : env[i]? = some (.own (oL (oL o) xss))) (hk : EvE K tk env (.int k)) (hk2 : EvE K tk2 env (.int k2)) (h : EvX K te env (o v)) :
    St K (tAsg te (gSub (tOp (rIxL K) (tVar i) tk) tk2 rSetL)) env ⟨InR xss.length k ∧ InR (ix xss k).length k2, setI xss k (setI (ix xss k) k2 v)⟩ (fun ys => env.set i (.own (oL (oL o) ys))) := by
  have key : InR xss.length k → (xss.map (oL o))[ixJ xss.length k]? = some (oL o (ix xss k)) := fun c => by
    obtain ⟨h1, h2⟩ := inR_j c
    unfold ix
    rw [List.getElem?_map, List.getElem?_eq_getElem h2, List.getD_eq_getElem?_getD, List.getElem?_eq_getElem h2]; rfl
  refine st_setL (js := [ixJ xss.length k]) (xs := (ix xss k).map o) (o2 := o v) (j := ixJ (ix xss k).length k2) e (fun c => ?_) (fun c => ?_) (fun _ => h) hk2 (fun c => by rw [List.length_map]; exact (inR_j c.2).1) (fun c => ?_)
  · obtain ⟨h1, h2⟩ := inR_j c.1
    exact el_ix (js := []) (xs := xss.map (oL o)) e (el_var e) hk rfl (by rw [List.length_map]; exact h1) (by rw [List.length_map]; exact h2)
  · show (match (xss.map (oL o))[ixJ xss.length k]? with | none => none | some o => nodeAt o []) = _
    rw [key c.1]; rfl
  · show (match (xss.map (oL o))[ixJ xss.length k]? with | none => O.ow .lst (xss.map (oL o)) | some o' => O.ow .lst ((xss.map (oL o)).set (ixJ xss.length k) (setAt o' [] (.ow .lst (((ix xss k).map o).set (ixJ (ix xss k).length k2) (o v)))))) = _
    rw [key c.1]
    show O.ow .lst ((xss.map (oL o)).set (ixJ xss.length k) (O.ow .lst (((ix xss k).map o).set (ixJ (ix xss k).length k2) (o v)))) = O.ow .lst ((xss.set (ixJ xss.length k) ((ix xss k).set (ixJ (ix xss k).length k2) v)).map (oL o))
    rw [List.map_set]
    congr 2
    show O.ow .lst _ = O.ow .lst _
    rw [List.map_set]
end
end Y

/-! X17: xs.append(zs.pop(k)). -/
namespace Y
open PySem PySem.Spec PyProof.Rows L2
theorem Reps.eraseIdx {K : PySem.W.Frag} {H : Hp} : ∀ {ds : List D} {vs : List V} (n : Nat), Reps K H ds vs → Reps K H (ds.eraseIdx n) (vs.eraseIdx n)
  | [], vs, n, h => by
    have h' := h
    unfold Reps at h'
    subst h'; exact h
  | d :: ds, vs, n, h => by
    unfold Reps at h
    obtain ⟨x, ws, rfl, h2, h3⟩ := h
    cases n with
    | zero => exact h3
    | succ n => exact Reps.cons h2 (Reps.eraseIdx n h3)
theorem erase_map {α β : Type} (f : α → β) : ∀ (l : List α) (n : Nat), (l.eraseIdx n).map f = (l.map f).eraseIdx n
  | [], n => rfl
  | x :: l, 0 => rfl
  | x :: l, n + 1 => congrArg (f x :: ·) (erase_map f l n)
theorem seqIx {n : Nat} {k : Int} (h : InR n k) : seqIndex? k n = some (ixJ n k) := by
  unfold InR at h
  unfold seqIndex? ixJ
  by_cases z : k < 0
  · have h1 : (0 ≤ k + (n : Int)) = True := eq_true (by omega)
    have h2 : (k + (n : Int) < (n : Int)) = True := eq_true (by omega)
    have h3 : ¬ 0 ≤ k := by omega
    simp [z, h1, h2, h3]
  · have h1 : 0 ≤ k := by omega
    have h2 : k < (n : Int) := by omega
    simp [z, h1, h2]
section
variable {K : PySem.W.Frag} {env : List Slot} {tk : TE} {α : Type} [Inhabited α]
theorem st_appPop {i j : Nat} {e : α → D} {xs zs : List α} {k : Int} (ij : i ≠ j) (ei : env[i]? = some (.own (oL (oF e) xs))) (ej : env[j]? = some (.own (oL (oF e) zs))) (hk : EvE K tk env (.int k)) :
    St K (tDrop (tBM K "list" rAppend (tVar i) (tCons (tBM K "list" rPopAt (tVar j) (tCons tk tNil)) tNil))) env ⟨InR zs.length k ∧ zs.length ≤ 100000 ∧ xs.length ≤ 100000, (xs ++ [ix zs k], zs.eraseIdx (ixJ zs.length k))⟩
      (fun q => (env.set j (.own (oL (oF e) q.2))).set i (.own (oL (oF e) q.1))) := fun H0 H1 E c kq => fun B F σ st => by
  obtain ⟨c1, c2, c3⟩ := c
  have frs : ∀ l : List α, l.map (oF e) = (l.map e).map .fr := fun l => by rw [List.map_map]; rfl
  obtain ⟨Ps, vs, hout⟩ := st.ex
  obtain ⟨x0, hx0, _⟩ := vs.own i _ ei
  obtain ⟨y0, hy0, _⟩ := vs.own j _ ej
  obtain ⟨p, u, ws, Po, rfl, a2, a3, a4, _⟩ := st.chg (js := []) (xs := xs.map (oF e)) (Gr.refl st.gr.f) ei rfl hx0 rfl
  have a3 : u = .lst ws := a3
  subst a3
  obtain ⟨p2, u2, ws2, Po2, rfl, b2, b3, b4, _⟩ := st.chg (js := []) (xs := zs.map (oF e)) (Gr.refl st.gr.f) ej rfl hy0 rfl
  have b3 : u2 = .lst ws2 := b3
  subst b3
  refine ⟨_, hx0, .inl ⟨rfl, ws, .inl (.inl a2)⟩, _, hy0, .inl ⟨rfl, ws2, .inl (.inl b2)⟩, hk B F σ st.gr.f st.vs _ fun B1 F1 z g r => ?_⟩
  unfold Rep at r; subst r
  obtain ⟨p3, u3, ws3, Po3, e3, d2, d3, d4, d5, d5', d6⟩ := st.chg (js := []) (xs := zs.map (oF e)) g ej rfl hy0 rfl
  cases e3
  have d3 : u3 = .lst ws3 := d3
  subst d3
  rw [frs] at d4
  have rz := d4.frs.1
  have lz : ws3.length = zs.length := by rw [rz.len, List.length_map]
  obtain ⟨j1, j2⟩ := inR_j c1
  obtain ⟨y, hy, ry⟩ := rz.get (i := ixJ zs.length k) (d := e (ix zs k)) (by
    unfold ix
    rw [List.getElem?_map, List.getElem?_eq_getElem j2, List.getD_eq_getElem?_getD, List.getElem?_eq_getElem j2]; rfl)
  have hi := c1
  unfold InR at hi
  refine ⟨p2, ws3, k, ixJ zs.length k, y, rfl, rfl, d2, by omega, by omega, by rw [lz]; exact seqIx c1, hy, ?_⟩
  have st2 := d6 .lst ((zs.eraseIdx (ixJ zs.length k)).map (oF e)) (.lst (ws3.eraseIdx (ixJ zs.length k))) (ws3.eraseIdx (ixJ zs.length k)) (fun _ => False) rfl (by
    rw [frs, erase_map]
    exact owns_fr (rz.eraseIdx _)) (fun a h => h.elim)
  have ei2 : (env.set j (.own (setAt (oL (oF e) zs) [] (.ow .lst ((zs.eraseIdx (ixJ zs.length k)).map (oF e))))))[i]? = some (.own (oL (oF e) xs)) := by
    rw [List.getElem?_set_ne (Ne.symm ij)]; exact ei
  obtain ⟨p4, u4, ws4, Po4, e4, f2, f3, f4, f5, f5', f6⟩ := st2.chg (js := []) (xs := xs.map (oF e)) (Gr.refl st2.gr.f) ei2 rfl hx0 rfl
  cases e4
  have f3 : u4 = .lst ws4 := f3
  subst f3
  refine ⟨p, ws4, y, rfl, rfl, f2, by rw [f4.len, List.length_map]; exact smallZ c3, ?_⟩
  have st3 := f6 .lst (xs.map (oF e) ++ [oF e (ix zs k)]) (.lst (ws4 ++ [y])) (ws4 ++ [y]) (fun a => Po4 a ∨ False) rfl (f4.snoc (own_fr (ry.mono (Same.refl _))) fun _ _ h => h) (fun a h => h.imp id False.elim)
  refine kq B1 _ σ ?_
  have e5 : setAt (oL (oF e) xs) [] (.ow .lst (xs.map (oF e) ++ [oF e (ix zs k)])) = oL (oF e) (xs ++ [ix zs k]) := by
    show O.ow .lst _ = O.ow .lst _
    rw [List.map_append]; rfl
  rw [e5] at st3
  exact st3
end
theorem k_truth (K : PySem.W.Frag) {X : Cx} {a : Expr} {ta : TE} (ha : PE X a ta) (he : ∀ whole, isTrue a X.env whole = (do let v ← whole; standAt a.pos; holding [v] (truthy v))) (h : X.K = K := by rfl) : PT X a (fun σ H Q => ta σ H fun x H' => ∃ k, TruV K x H' k ∧ Q k H') := by
  subst h; exact pt_truth ha he
end Y

/-! X18: an own exception class whose __init__ begins with super().__init__(..). -/
namespace Y
open PySem PySem.Spec PyProof.Rows L2 NdefX
/-- what the written part says of the class at C, of its __init__ at f (with the cell at cc and the code object at cda), whose first parameter is ar -/
structure SupT (prog : Program) (K : PySem.W.Frag) (mg : Str → Option Value) (C cc cda f : Addr) (ar : Arg) : Prop where
  fn : ∃ oc od fd osl, K.lookup f = some ⟨oc, od, .func fd, osl⟩ ∧ (fd.params.posonlyargs ++ fd.params.args).head? = some ar
  code : ∃ ccl cdd vs ccs file tf, K.lookup cda = some ⟨ccl, cdd, .fields vs, ccs⟩ ∧ vs[2]? = some (.str file tf) ∧ ((prog.main.file : Str) == file) = true
  cell : ∃ cl cld csl, K.lookup cc = some ⟨cl, cld, .cell (some (.ref C)), csl⟩
  cls : ∃ cd, PySem.W.clsIn K C = some cd
  sub : PySem.W.mroIn K C (.ref C) = some true
  sup : mg "super" = none
  opq : PySem.W.nsIn K cStatics "thirdparty.any" = some none
  nxt : PySem.W.ks_superIn K C C "__init__" = some (some (.builtin "ValueError.__init__"))
  ve : PySem.W.subIn K (.ref C) (.type "ValueError") = some true
  top : (prog.main.scope.names.lookup ("super" : Str)).isSome = false
section
variable {X : Cx} {pins : List (Addr × Obj)} {σ : L2.St} {H : Hp} {s : Shared} {C cc cda f : Addr} {ar : Arg}
theorem exo_get {e C : Addr} {h : Heap} (he : ∃ t1 : Addr, h.get? e = some ({ cls := .ref C, dict := none, data := .fields #[.ref t1, .none, .none, .none, .bool false, .none] } : Obj)) : ∃ ox, PySem.W.InstAt h e ox C none := by
  obtain ⟨t1, h1⟩ := he
  exact ⟨_, h1, rfl, rfl, trivial⟩
/-- super(), the object -/
theorem sup_base {a : Addr} {body : List Stmt} {p0 p1 : Pos} {attr : Str} {whole : Sem Value} {i : Nat} {Q : Value → Shared → Prop} (T : SupT X.prog X.K X.mg C cc cda f ar) (I : Inv X pins σ H s)
    (hfu : X.env.func = some f) (hco : X.env.code = .ref cda) (hce : X.env.cells.lookup ("__class__" : Str) = some cc)
    (hks : X.env.kindOf "super" = some .globalImplicit) (hkc : X.env.kindOf "__class__" = some .free) (hka : X.env.kindOf ar.arg = some .local)
    (hN : X.N[i]? = some ar.arg) (hs : σ[i]? = some (some (.ref a))) (ha : H a = some (exo a C none)) (hat : (attr == ("__class__" : Str)) = false)
    (h : ∀ h', (∀ b o, s.heap.get? b = some o → h'.get? b = some o) → h'.get? s.heap.objs.size = some (PySem.W.ks_superObj C a C) → Inv X pins σ H { s with heap := h' } → Q (.ref s.heap.objs.size) { s with heap := h' }) :
    PySem.wpAt (model X.prog X.w) X.A (.func body X.env) (attributeBase (.Call (.Name "super" p0) [] [] p1) attr X.env whole) Q X.xe s := by
  obtain ⟨oc, od, fd, osl, hf, hp⟩ := T.fn
  obtain ⟨ccl, cdd, vs, ccs, file, tf, hcode, hvs, hfile⟩ := T.code
  obtain ⟨cl, cld, csl, hcell⟩ := T.cell
  obtain ⟨cd, hcd⟩ := T.cls
  have KX := I.kIn
  obtain ⟨oD, hD1, hD2⟩ : ∃ oD, s.heap.get? C = some oD ∧ oD.data = .cls cd := by
    unfold PySem.W.clsIn at hcd
    split at hcd
    · rename_i c d cd' sl ho
      cases hcd
      exact ⟨_, KX _ _ ho, rfl⟩
    · cases hcd
  obtain ⟨t1, hx⟩ := exo_at I.hok ha
  refine PySem.ks_wpAt_super_base (env := X.env) hks hkc hat hfu (KX _ _ hf) rfl hp hco (KX _ _ hcode) rfl hvs hfile T.top ?_
  obtain ⟨mb, h1, h2⟩ := I.mod.blt
  refine PySem.W.ks_loadName_global I.ok.kind hks (Calls.loadGlobal_builtin (by rw [I.ok.glob]; exact I.mod.glob.keeps I.bk) T.sup (by rw [I.ok.blt]; exact h1.keeps I.bk) ((h2 "super" (by decide)).trans PyProof.Rows.Boot.«super») ⟨rfl, ?_⟩)
  refine wpAny_loadName_free I.ok.kind hkc hce ⟨_, KX _ _ hcell, rfl⟩ ?_
  obtain ⟨m, hns, hlk⟩ := I.loc
  obtain ⟨u, ru, lk⟩ := hlk i ar.arg (.ref a) hN hs (.inl hka)
  obtain rfl : u = Value.ref a := ru
  have hm : m ar.arg = some (.ref a) := by
    rcases lk with ⟨_, e⟩ | ⟨e, _⟩
    · exact e
    · rw [hka] at e
      rcases e with e | e <;> cases e
  refine wpAny_loadName_local I.ok.kind hka hns hm ?_
  obtain ⟨hh, g, d, t, os⟩ := s
  refine PySem.ks_wpAny_isType_cls hD1 hD2 ⟨rfl, ?_⟩
  refine PySem.ks_wpAny_call_super hD1 hD2 hx rfl (fun c e => by cases e) (PySem.W.looks_mroIn KX T.sub) (fun h' e k => ?_)
  exact h h' k e (I.kept k)

/-- the wrapper is called: the args are laid anew -/
theorem sup_call {a u : Addr} {us : List Value} {Q : Value → Shared → Prop} {A : Around} {E : Value → Shared → Prop} (T : OexC X.K C) (I : Inv X pins σ H s) (e : H a = some (exo a C none)) (hl : us.length ≤ sizeLine) (hu : s.heap.get? u = some (PySem.W.kxs_mw "ValueError.__init__" a)) (h : ∀ s', Inv X pins σ H s' → Q .none s') :
    wpAny (model X.prog X.w) A (call (.ref u) us) Q E s := by
  obtain ⟨nm, q, N, bs, bm, sn, sub, ab, col, dd, k0, k1, k2, k3, k5, hC, hbm⟩ := T.cls
  obtain ⟨t1, ho⟩ := exo_at I.hok e
  obtain ⟨hp, g, d, t, os⟩ := s
  refine wpAny_call (codeAny_of_tree ?_)
  show wpAny _ A.in1 (callAny (.ref u) ⟨us, []⟩) _ _ _
  simp only [callAny]
  refine wpAny_bind (wpAny_load hu ?_)
  simp only [PySem.W.kxs_mw, show (Value.type "method-wrapper" == Value.type "method" || Value.type "method-wrapper" == Value.type "builtin_function_or_method" || Value.type "method-wrapper" == Value.type "method-wrapper") = true by decide, if_true]
  refine PySem.W.KFB.if_so (by decide) ?_
  refine wpAny_bind (PySem.W.check_bound_init F.excBase_ValueError.toExcCallFacts (I.kIn _ _ hC) ho rfl ?_)
  refine wpAny_bind (wpAny_pure (wpAny_pure ?_))
  refine ⟨plainId_quiet F.excBase_ValueError.init.plain _, codeAny_builtin F.excBase_ValueError.initEntry ?_⟩
  refine PySem.W.exc_init_tree (cls := .ref C) (t0 := t1) (dv := none) (c2 := .none) (c3 := .none) (b4 := .bool false) ho hl fun h' k hx _ => ?_
  have J := I.write (t' := t) (x := a) (e := a) (o := exo a C none) (by rw [e]; exact True.intro) (.inl rfl) k ⟨_, hx⟩ (exo_ok hx)
  have eu : upd H a (exo a C none) = H := by
    funext b
    by_cases hb : b = a
    · rw [hb, upd_same, e]
    · rw [upd_ne hb]
  rw [eu] at J
  exact h _ J
/-- super().__init__(..), the statement -/
theorem sup_stmt {a : Addr} {body : List Stmt} {p0 p1 p2 pos pos' : Pos} {i : Nat} {e : Expr} {es : List Expr} {ta : TA} {pl : Sem Bool} {Q : Hp → Prop} (T : SupT X.prog X.K X.mg C cc cda f ar) (O : OexC X.K C) (I : Inv X [] σ H s)
    (hfu : X.env.func = some f) (hco : X.env.code = .ref cda) (hce : X.env.cells.lookup ("__class__" : Str) = some cc)
    (hks : X.env.kindOf "super" = some .globalImplicit) (hkc : X.env.kindOf "__class__" = some .free) (hka : X.env.kindOf ar.arg = some .local)
    (hN : X.N[i]? = some ar.arg) (hs : σ[i]? = some (some (.ref a))) (ha : H a = some (exo a C none)) (hA : PA X (e :: es) ta) (ht : ta σ H fun vs H1 => vs.length ≤ 1000 ∧ H1 a = some (exo a C none) ∧ Q H1)
    (hev : eval (.Call (.Attribute (.Call (.Name "super" p0) [] [] p1) "__init__" p2) (e :: es) [] pos) X.env = (do
        let ov ← attributeBase (.Call (.Name "super" p0) [] [] p1) "__init__" X.env (eval (.Call (.Name "super" p0) [] [] p1) X.env)
        standAt p2.atName
        let (f, first) ← holding [ov] (getMethod ov "__init__" pl)
        callWith pos f first (backTo pos (starEach (e :: es) X.env)) []) := by rfl)
    (hsw : swapsWith (.Call (.Attribute (.Call (.Name "super" p0) [] [] p1) "__init__" p2) (e :: es) [] pos) none pos'.line X.env = pure false := by rfl)
    (he : starEach (e :: es) X.env = (false, eval e X.env) :: starEach es X.env := by rfl) (hpl : (backTo pos (starEach es X.env)).any (·.1) = false := by rfl) :
    PySem.wpAt (model X.prog X.w) X.A (.func body X.env) (exec (.Expr (.Call (.Attribute (.Call (.Name "super" p0) [] [] p1) "__init__" p2) (e :: es) [] pos) pos') X.env) (fun fl s' => fl = .next ∧ ∃ H1, Inv X [] σ H1 s' ∧ Q H1) X.xe s := by
  refine PySem.ks_wpAt_Expr_any ?_ I.quiet hsw
  refine PySem.ks_wpAt_MethodCall ?_ hev
  refine sup_base T I hfu hco hce hks hkc hka hN hs ha (by decide) fun h1 k1 hso I1 => ?_
  have K1 := I1.kIn
  obtain ⟨ox, ia⟩ := exo_get (exo_at I1.hok ha)
  obtain ⟨cd, hc⟩ : ∃ cd, PySem.W.clsIn X.K C = some cd := T.cls
  have hn := T.nxt
  unfold PySem.W.ks_superIn at hn
  rw [hc] at hn
  refine PySem.W.kxs_getMethod PySem.W.kxs_ValueError hso (PySem.W.looks_opaque K1 T.opq) (l₀ := cd.mro) ?_ rfl K1 hn (ia.type.andThen (PySem.W.looks_subIn K1 T.ve)) (PySem.W.ks_ne K1 ia hc) (by decide) ?_
  · exact fun A Q E s k q => wpAny_bind ((PySem.W.looks_clsIn K1 hc) A _ E s k (wpAny_pure q))
  have I2 : Inv X [] σ H ⟨h1.push (PySem.W.kxs_mw "ValueError.__init__" a), s.gens, s.drawn, s.toks + 1, s.os⟩ := I1.kept (t' := s.toks + 1) fun b o q => Heap.get?_push_of_some _ q
  have hu : (h1.push (PySem.W.kxs_mw "ValueError.__init__" a)).get? h1.objs.size = some (PySem.W.kxs_mw "ValueError.__init__" a) := Heap.get?_push_at rfl rfl
  have I3 : Inv X [(h1.objs.size, PySem.W.kxs_mw "ValueError.__init__" a)] σ H ⟨h1.push (PySem.W.kxs_mw "ValueError.__init__" a), s.gens, s.drawn, s.toks + 1, s.os⟩ := by
    refine { I2 with pin := fun q hq => ?_ }
    rcases List.mem_append.mp hq with hq | hq
    · exact I2.pin q (List.mem_append_left _ hq)
    · obtain rfl : q = (h1.objs.size, PySem.W.kxs_mw "ValueError.__init__" a) := by simpa using hq
      exact ⟨hu, I1.hok.fresh (Nat.le_refl _), fun z => absurd I1.lt (by rw [← z]; exact Nat.lt_irrefl _), I1.nofs (Nat.le_refl _), fun v z => by cases z⟩
  have hplain : (backTo pos (starEach (e :: es) X.env)).any (·.1) = false := by
    rw [he]
    show (false || (backTo pos (starEach es X.env)).any (·.1)) = false
    rw [hpl]; rfl
  refine PySem.W.kxs_callWith (i := "ValueError.__init__") (x := a) hplain ?_
  have hx : backTo pos (starEach (e :: es) X.env) = (false, (backTo pos (starEach (e :: es) X.env)).head!.2) :: backTo pos (starEach es X.env) := by
    rw [he]; rfl
  rw [hx]
  refine Calls.evalArgs_plain ?_
  rw [← hx]
  refine thn (hA.run pos _ _ σ H _ I3 ht) fun us s2 ⟨vs, H1, J, rv, hl, ha1, q⟩ => ?_
  have hb : s2.heap.get? h1.objs.size = some (PySem.W.kxs_mw "ValueError.__init__" a) := (J.pin _ (List.mem_append_right _ List.mem_cons_self)).1
  refine ⟨hb, sup_call O J ha1 (by
    show us.length ≤ sizeLine
    rw [← rv.length, sizeLine_eq]
    omega) hb fun s3 J3 => ⟨rfl, H1, ?_, q⟩⟩
  exact { J3 with pin := fun q hq => J3.pin q (List.mem_append_left _ (by simpa using hq)) }
end

/-! ### an __init__ that begins with super().__init__(..) -/
abbrev xNF (name qual : Str) (params : Arguments) (body : List Stmt) (scope : Scope) (cc cda : Addr) : NF := ⟨name, qual, params, body, scope, [(("__class__" : Str), cc)], cda⟩
abbrev superOf (p0 p1 : Pos) : Expr := .Call (.Name "super" p0) [] [] p1
abbrev superInit (p0 p1 p2 pos pos' : Pos) (js : List Expr) (pj : Pos) : Stmt := .Expr (.Call (.Attribute (superOf p0 p1) "__init__" p2) [.JoinedStr js pj] [] pos) pos'
theorem sup_eval {env : Env} {p0 p1 p2 pos pj : Pos} {js : List Expr} (hpos : (p2.endLine == pos.line) = true) : eval (.Call (.Attribute (superOf p0 p1) "__init__" p2) [.JoinedStr js pj] [] pos) env = (do
        let ov ← attributeBase (superOf p0 p1) "__init__" env (eval (superOf p0 p1) env)
        standAt p2.atName
        let (f, first) ← holding [ov] (getMethod ov "__init__" (do return (← importBound (superOf p0 p1) env).getD true))
        callWith pos f first (backTo pos (starEach [.JoinedStr js pj] env)) []) := by
  show (do
    let ov ← attributeBase (superOf p0 p1) "__init__" env (eval (superOf p0 p1) env)
    standAt p2.atName
    methodCall (superOf p0 p1) "__init__" p2 pos env ov 1 (backTo pos (starEach [.JoinedStr js pj] env)) (backToKw pos (keywordEach [] env))) = _
  have h1 : methodCallForm 1 (backTo pos (starEach [.JoinedStr js pj] env)) (backToKw pos (keywordEach [] env)) = true := by rfl
  unfold methodCall methodCallPos calleeOf
  rw [h1]
  simp only [hpos, Bool.not_true, Bool.false_or, if_true, pure_bind]
  rfl
section
variable {CX : CXT} {P : Program} {w : World} {K : PySem.W.Frag} {mg : Str → Option Value} {base : Heap} {k : Nat} {f : Addr} {name qual : Str} {params : Arguments} {scope : Scope} {dV kV doc pm ct oc : Value} {an od : Option Addr}
    {osl : Array (Option Value)} {N ps : List Str} {sp : Sp} {C cc cda : Addr} {ar : Arg} {js : List Expr} {pj : Pos} {rest : List Stmt} {p0 p1 p2 pos pos' : Pos}
theorem fn_ofS (lk : K.lookup f = some ⟨oc, od, .func (PySem.W.fnX name qual params (superInit p0 p1 p2 pos pos' js pj :: rest) scope [(("__class__" : Str), cc)] dV kV doc pm an (.ref cda) ct), osl⟩) (hcd : PySem.W.codeIn K (.ref cda) qual = true) (S : NScope N ps ["__class__"] scope)
    (T : SupT P K mg C cc cda f ar) (O : OexC K C) (hpos : (p2.endLine == pos.line) = true) (hps : ps[0]? = some ar.arg) (hks : scope.names.lookup ("super" : Str) = some .globalImplicit)
    (len : ∀ vs H Q E, sp vs H Q E → vs.length = ps.length)
    (hbody : ∀ (A : Around) (outer : List Env) (s : Shared) (H : Hp) (vs : List V) (Q : VK) (E : XK), Room k (A.deeper (envF (xNF name qual params (superInit p0 p1 p2 pos pos' js pj :: rest) scope cc cda) f s.heap.objs.size)) → sp vs H Q E →
      ∃ (a : Addr) (te : TE) (t : TS), vs[0]? = some (.ref a) ∧ H a = some (exo a C none) ∧ PE (ncx CX P w K mg base N (xNF name qual params (superInit p0 p1 p2 pos pos' js pj :: rest) scope cc cda) f A outer s H E) (.JoinedStr js pj) te ∧
        PSs (ncx CX P w K mg base N (xNF name qual params (superInit p0 p1 p2 pos pos' js pj :: rest) scope cc cda) f A outer s H E) rest t ∧
        te (startF N vs [none]) H fun x H1 => [x].length ≤ 1000 ∧ H1 a = some (exo a C none) ∧ t { nx := fun _ H' => Q .non H', rt := Q } (startF N vs [none]) H1) :
    FnOk P w K mg base CX (k + 1) f (PySem.W.fnX name qual params (superInit p0 p1 p2 pos pos' js pj :: rest) scope [(("__class__" : Str), cc)] dV kV doc pm an (.ref cda) ct) ps sp := by
  refine ⟨len, fun A outer s H args us vs Q E hr e0 hb r hsp => ?_⟩
  have hl := len _ _ _ _ hsp
  have KX : K.In s.heap := e0.mod.kin.keeps fun b o e => (e0.bs b o e).1
  have lim : s.heap.NoLimit := e0.mod.nolimit.keeps fun b o e => (e0.bs b o e).1
  refine codeAny_call_function hr.depth (KX _ _ lk) rfl S.co S.gen rfl (PySem.W.codeRec_of KX hcd) (hb _ _ _ _ ?_)
  refine wpAny_newFunctionEnv S.nocell (fun ⟨n, _⟩ hy => S.par n (List.of_mem_zip hy).1) (fun h₁ hns hsb => ⟨lim.fresh _ hsb, ?_⟩) S.kind
  show codeAny _ _ (.func (superInit p0 p1 p2 pos pos' js pj :: rest) (envF (xNF name qual params (superInit p0 p1 p2 pos pos' js pj :: rest) scope cc cda) f s.heap.objs.size)) _ _
  have kp : ∀ b o, s.heap.get? b = some o → h₁.get? b = some o := fun b o e => hsb.extBut b o (Nat.ne_of_lt (Heap.lt_size e)) (Heap.get?_push_of_some _ e)
  obtain ⟨a, te, t, hv0, ha, hte, ht, hq⟩ := hbody A outer s H vs Q E (hr.deeper _) hsp
  obtain ⟨cl, cld, csl, hcell⟩ := T.cell
  have hcc : s.heap.IsCell cc (some (.ref C)) := ⟨_, KX _ _ hcell, rfl⟩
  have hcH : H cc = none := (e0.bs cc _ (e0.mod.kin _ _ hcell)).2
  have CA : CellsAt [(("__class__" : Str), cc)] ["__class__"] [none] s.heap H := {
    len := rfl
    all := fun y c h => by
      by_cases z : y = ("__class__" : Str)
      · subst z
        simp [List.lookup] at h
        subst h
        exact ⟨hcH, _, hcc⟩
      · have z' : (y == ("__class__" : Str)) = false := by simpa using z
        simp [List.lookup, z'] at h
    inj := fun x y c h1 h2 => by
      by_cases z : x = ("__class__" : Str)
      · by_cases z2 : y = ("__class__" : Str)
        · rw [z, z2]
        · have z' : (y == ("__class__" : Str)) = false := by simpa using z2
          simp [List.lookup, z'] at h2
      · have z' : (x == ("__class__" : Str)) = false := by simpa using z
        simp [List.lookup, z'] at h1
    has := fun i y h => by
      cases i with
      | zero =>
        simp at h
        subst h
        exact ⟨cc, by simp [List.lookup], fun v z => by simp at z⟩
      | succ i => simp at h }
  have I : Inv (ncx CX P w K mg base N (xNF name qual params (superInit p0 p1 p2 pos pos' js pj :: rest) scope cc cda) f A outer s H E) [] (startF N vs [none]) H { s with heap := h₁, toks := s.toks + (ps.zip us).length } := inv_startN S hr.hd e0 hl r CA hns kp
  have hsp0 : ps ≠ [] := by rintro rfl; simp at hps
  have hN0 : N[0]? = some ar.arg := by
    have q := S.pre
    have : (N.take (ps.length + 1))[0]? = (ps ++ [("__class__" : Str)])[0]? := by rw [show ps.length + 1 = ps.length + [("__class__" : Str)].length from rfl, q]
    rw [List.getElem?_take_of_lt (by omega), List.getElem?_append_left (List.length_pos_iff.mpr hsp0), hps] at this
    exact this
  have hs0 : (startF N vs [none])[0]? = some (some (.ref a)) := by
    unfold startF
    rw [List.getElem?_append_left (by rw [List.length_map, hl]; exact List.length_pos_iff.mpr hsp0), List.getElem?_map, hv0]; rfl
  refine PySem.ks_codeAny_funcAt ?_
  refine PySem.wpAt_mono (Q := fun fl s' => SP (ncx CX P w K mg base N (xNF name qual params (superInit p0 p1 p2 pos pos' js pj :: rest) scope cc cda) f A outer s H E) [] { nx := fun _ H' => Q .non H', rt := Q } fl s') (E := (ncx CX P w K mg base N (xNF name qual params (superInit p0 p1 p2 pos pos' js pj :: rest) scope cc cda) f A outer s H E).xe) ?_ (fun fl s' hs => ?_) fun e s' hs => hs
  · refine PySem.ks_wpAt_execs_cons ?_
    refine PySem.wpAt_mono (sup_stmt (X := ncx CX P w K mg base N (xNF name qual params (superInit p0 p1 p2 pos pos' js pj :: rest) scope cc cda) f A outer s H E) (Q := fun H1 => t { nx := fun _ H' => Q .non H', rt := Q } (startF N vs [none]) H1) (i := 0) T O I rfl rfl (by show List.lookup ("__class__" : Str) [(("__class__" : Str), cc)] = some cc; simp [List.lookup]) hks (S.frk _ (by simp)) (S.par _ (List.mem_of_getElem? hps)) hN0 hs0 ha (ta := tCons te tNil) (pa_cons hte pa_nil) ?_ (sup_eval hpos)) (fun fl s' hs => ?_) fun _ _ x => x
    · exact hq
    · obtain ⟨rfl, H1, J, q⟩ := hs
      exact PySem.wpAt_of_wpAny (ht.run [] s' _ H1 _ J q)
  · have fin : ∀ {σ' : L2.St} {H' : Hp} {v : V} {u : Value}, Inv (ncx CX P w K mg base N (xNF name qual params (superInit p0 p1 p2 pos pos' js pj :: rest) scope cc cda) f A outer s H E) [] σ' H' s' → L2.RelV v u → Q v H' → CE outer P w H s Q u s' :=
      fun {σ' H' v u} J rv q => ⟨v, H', J.os, J.bare, J.base, J.hok, rv, q⟩
    cases fl with
    | ret u =>
      obtain ⟨v, σ', H', J, rv, q⟩ := hs
      exact fin J rv q
    | next =>
      obtain ⟨σ', H', J, q⟩ := hs
      exact fin (v := V.non) (u := Value.none) J rfl q
    | brk =>
      obtain ⟨_, _, _, q⟩ := hs
      exact False.elim q
    | cont =>
      obtain ⟨_, _, _, q⟩ := hs
      exact False.elim q
end
end Y

/-! X19: exceptions over data: what is raised, blocks and loops that may raise, the promise of a def that may raise. -/
namespace Y
open PySem PySem.Spec PyProof.Rows L2
/-- an exception: of the class at C, without a dict or with these fields -/
inductive XD where
  | bare (C : Addr) | mk (C : Addr) (ns : List Str) (ds : List D)
def RepX (K : PySem.W.Frag) (B : Hp) : XD → Value → Option Addr → Prop
  | .bare C, cls, d => cls = .ref C ∧ d = none
  | .mk C ns ds, cls, d => cls = .ref C ∧ ns.length = ds.length ∧ ∃ dd vs, d = some dd ∧ B dd = some (.xd (ns.zip vs).reverse) ∧ Reps K B ds vs
def RtE (K : PySem.W.Frag) (H0 H1 : Hp) (E : XK) (x : XD) : Prop := ∀ B F cls d, Gr H0 H1 B F → RepX K B x cls d → E cls d F
section
variable {K : PySem.W.Frag} {B F B' F' H0 H1 : Hp} {E : XK}
theorem RepX.grow {x : XD} {cls : Value} {d : Option Addr} (hb : Same B B') (h : RepX K B x cls d) : RepX K B' x cls d := by
  cases x with
  | bare C => exact h
  | mk C ns ds =>
    obtain ⟨h1, h2, dd, vs, h3, h4, h5⟩ := h
    exact ⟨h1, h2, dd, vs, h3, hb _ _ h4, h5.mono hb⟩
theorem RtE.rebase {x : XD} {B1 F1 : Hp} (g : Gr H0 H1 B1 F1) (h : RtE K H0 H1 E x) : RtE K B1 H1 E x := fun B F cls d g2 r => h B F cls d (g.rebase g2) r
end
/-! ### exits -/
abbrev Rxt (ρ : Type) := Hp → Hp → VK → ρ → Prop
def Rb {ρ : Type} (Rx : Rxt ρ) : Prop := ∀ H0 H1 B1 F1 rt r, Gr H0 H1 B1 F1 → Rx H0 H1 rt r → Rx B1 H1 rt r
/-- a value is returned, or something is raised -/
def RxE {ξ ρ : Type} (K : PySem.W.Frag) (E : XK) (xd : ξ → XD) (o : ρ → O) : Rxt (Sum ξ ρ) := fun H0 H1 rt r => match r with
  | .inl x => RtE K H0 H1 E (xd x)
  | .inr r => RtX K H0 H1 rt (o r)
section
variable {ξ ρ σ τ β α : Type} {K : PySem.W.Frag} {E : XK} {xd : ξ → XD} {o : ρ → O} {Rx : Rxt ρ} {env : List Slot} {te : TE} {ta : TA} {t u : TS} {T : Ends → Prop} {Φ : Phi τ} {L : σ → List Slot}
theorem rb_E : Rb (RxE K E xd o) := fun H0 H1 B1 F1 rt r g h => by
  cases r with
  | inl x => exact RtE.rebase g h
  | inr r => exact fun B F x P g2 => h B F x P (g.rebase g2)
def PRx (Rx : Rxt ρ) : Phi ρ := fun H0 H1 En r => Rx H0 H1 En.rt r
def PLx (K : PySem.W.Frag) (Rx : Rxt ρ) (L : σ → List Slot) : Phi (Lv ρ σ) := fun H0 H1 En v => match v with
  | .rt r => Rx H0 H1 En.rt r
  | .bk s => Nx K H0 H1 En.bk (L s)
  | .ct s => Nx K H0 H1 En.ct (L s)
theorem ni_rx : Ni (PRx Rx) := fun H0 H1 En n v h => h
theorem ni_lx : Ni (PLx K Rx L) := fun H0 H1 En n v h => by cases v <;> exact h
/-- w leads to an exit -/
def Exits (Φ : Phi τ) (Rx : Rxt ρ) (w : ρ → τ) : Prop := ∀ H0 H1 En r, Φ H0 H1 En (w r) → Rx H0 H1 En.rt r
theorem ex_r : Exits (PRx Rx) Rx id := fun _ _ _ _ h => h
theorem ex_lv : Exits (PLx K Rx L) Rx Lv.rt := fun _ _ _ _ h => h
/-- a return -/
theorem xx_ret {w : Sum ξ ρ → τ} {r : ρ} (hx : Exits Φ (RxE K E xd o) w) (h : EvX K te env (o r)) : Blk K T Φ (tRet te) env (.p (w (.inr r))) := fun H0 H1 En _ _ hΦ => go_ret h (hx H0 H1 En _ hΦ)
theorem xx_retM {w : Sum ξ ρ → τ} {r : ρ} {C : List Nat} (hx : Exits Φ (RxE K E xd o) w) (h : EvM K te env (o r) C) : Blk K T Φ (tRet te) env (.p (w (.inr r))) := fun H0 H1 En _ _ hΦ => go_retM h (hx H0 H1 En _ hΦ)
theorem xx_end {r : ρ} (ho : o r = .fr .non) : Blk K TyR (PRx (RxE K E xd o)) tNext env (.p (.inr r)) := fun H0 H1 En hT _ hΦ => by
  have hΦ : RtX K H0 H1 En.rt (o r) := hΦ
  rw [ho] at hΦ
  show Nx K H0 H1 En.nx env
  rw [hT]; exact nx_none hΦ
theorem xx_one {m : G β} {N : β → List Slot} {r : ρ} (ho : o r = .fr .non) (h : St K t env m N) : Blk K TyR (PRx (RxE K E xd o)) t env (m.b fun _ => .p (.inr r)) := fun H0 H1 En hT ok hΦ => by
  have hΦ : RtX K H0 H1 En.rt (o r) := hΦ
  rw [ho] at hΦ
  refine h H0 H1 En ok.1 ?_
  rw [hT]; exact nx_none hΦ
/-! turns -/
theorem xlx_bk {s : σ} (h : Sub env (L s)) : Blk K T (PLx K Rx L) tBreak env (.p (.bk s)) := fun H0 H1 En _ _ hΦ => nx_sub h hΦ
theorem xlx_ct {s : σ} (h : Sub env (L s)) : Blk K T (PLx K Rx L) tCont env (.p (.ct s)) := fun H0 H1 En _ _ hΦ => nx_sub h hΦ
theorem xlx_next {s : σ} (h : Sub env (L s)) : Blk K TyL (PLx K Rx L) tNext env (.p (.ct s)) := fun H0 H1 En hT _ hΦ => by
  have hΦ : Nx K H0 H1 En.ct (L s) := hΦ
  rw [← hT] at hΦ
  exact nx_sub h hΦ
theorem xlx_one {m : G β} {N : β → List Slot} {g : β → σ} (h : St K t env m N) (hs : ∀ s, Sub (N s) (L (g s))) : Blk K TyL (PLx K Rx L) t env (m.b fun s => .p (.ct (g s))) := fun H0 H1 En hT ok hΦ => by
  have hΦ : Nx K H0 H1 En.ct (L (g m.val)) := hΦ
  rw [← hT] at hΦ
  exact h H0 H1 En ok.1 (nx_sub (hs _) hΦ)
/-- a for that may be left -/
theorem xx_loop {wi : TI} {g : TG} {rep : α → D} {xs : List α} {s0 : σ} {f : α → σ → G (Lv ρ σ)} {w : ρ → τ} {k : σ → G τ} (rb : Rb Rx) (us : α → List (Nat × D)) (hi : EvI K wi env (xs.map rep)) (h0 : Sub env (L s0)) (hg : ∀ x, EvG K g (rep x) (us x))
    (hw : Exits Φ Rx w) (hb : ∀ x s, Blk K TyL (PLx K Rx L) t (sets (L s) (us x)) (f x s)) (hk : ∀ s, Blk K T Φ u (L s) (k s)) : Blk K T Φ (tSeq (tFor wi g t) u) env ((G.loop xs s0 f).on w k) := fun H0 H1 En hT ok hΦ => by
  have fin : ∀ v, (G.loop xs s0 f).val = .inr v → Nx K H0 H1 (u En) (L v) := fun v hv => by
    refine hk v H0 H1 En hT (ok.2 v hv) ?_
    have : ((G.loop xs s0 f).on w k).val = (k v).val := by unfold G.on; simp only [hv]
    rw [this] at hΦ; exact hΦ
  have ret : ∀ r, (G.loop xs s0 f).val = .inl r → Rx H0 H1 En.rt r := fun r hr => by
    refine hw H0 H1 En r ?_
    have : ((G.loop xs s0 f).on w k).val = w r := by unfold G.on; simp only [hr]
    rw [this] at hΦ; exact hΦ
  intro B F σ st
  refine hi B F σ st.gr.f st.vs _ fun B1 F1 J g1 wk => ?_
  obtain ⟨G', Y', wk, hG, hY⟩ := wk.w
  have st1 := st.grow g1
  have sta : State K B1 H1 B1 F1 σ (L s0) := (⟨⟨Same.refl _, st1.gr.f, st1.gr.s, fun a h1 h2 => absurd h2 h1⟩, st1.ex⟩ : State K B1 H1 B1 F1 σ env).sub h0
  refine for_it wk (fun i σ' F' => ∃ ys s B', Come f xs s0 i ys s ∧ State K B1 H1 B' F' σ' (L s)) ⟨xs, s0, B1, .start xs s0, sta⟩ ?_ ?_ ?_
  · rintro i σ' F' _ ⟨_, _, B', _, st'⟩
    exact hG F' (st'.gr.b.trans st'.gr.f)
  · rintro i x σ' F2 F3 hl ⟨ys, s, B2, c, st2⟩ hy
    obtain ⟨B3, d, g3, ed, rx⟩ := hY i B2 F2 x F3 st2.gr.b st2.gr.f hy
    have hl' : i < xs.length := by simpa using hl
    rw [List.getElem?_map, List.getElem?_eq_getElem hl'] at ed
    cases ed
    have hys : ys = xs[i] :: xs.drop (i + 1) := by rw [c.drop, List.drop_eq_getElem_cons hl']
    subst hys
    obtain ⟨lok, lval⟩ := c.eq ok.1
    refine hg xs[i] B3 F3 _ x g3.f rx _ fun vs rxs => ?_
    have st3 := (st2.grow g3).sets rxs
    refine hb xs[i] s B1 H1 { En with nx := fun σ' F' => ∃ ys s B', Come f xs s0 (i + 1) ys s ∧ State K B1 H1 B' F' σ' (L s), ct := fun σ' F' => ∃ ys s B', Come f xs s0 (i + 1) ys s ∧ State K B1 H1 B' F' σ' (L s), bk := u En } rfl lok.1 ?_ B3 F3 _ st3
    cases hv : (f xs[i] s).val with
    | rt r =>
      have : (G.loop xs s0 f).val = .inl r := by
        rw [lval]; show (G.turn (f _ _).val _).val = _; rw [hv]; rfl
      exact rb H0 H1 B1 F1 En.rt r st1.gr (ret r this)
    | bk s' =>
      have : (G.loop xs s0 f).val = .inr s' := by
        rw [lval]; show (G.turn (f _ _).val _).val = _; rw [hv]; rfl
      exact fun B F σ s => fin s' this B F σ ⟨st1.gr.rebase s.gr, s.ex⟩
    | ct s' => exact fun B F σ st => ⟨_, s', B, c.step hv, st⟩
  · rintro σ' F2 ⟨ys, s, B2, c, st2⟩
    have hys : ys = [] := by rw [c.drop]; simp
    subst hys
    have := (c.eq ok.1).2
    exact fin s this B2 F2 σ' ⟨st1.gr.rebase st2.gr, st2.ex⟩
/-! ### raise -/
/-- an exception leaves here: W is its wish, at the slots as they stand -/
def NxX (K : PySem.W.Frag) (H0 H1 : Hp) (W : WX) (env : List Slot) (x : XD) : Prop := ∀ B F σ cls d, State K H0 H1 B F σ env → RepX K B x cls d → W cls d σ F
/-- where a block of the kind Φ is left by exceptions, w -/
def Leaves (K : PySem.W.Frag) (Φ : Phi τ) (W : WX) (env : List Slot) (xd : ξ → XD) (w : ξ → τ) : Prop := ∀ H0 H1 En x, Φ H0 H1 En (w x) → NxX K H0 H1 W env (xd x)
/-- a def's wish -/
abbrev WD (E : XK) : WX := fun cls d _ H => E cls d H
theorem NxX.of {H0 H1 : Hp} {x : XD} (h : RtE K H0 H1 E x) : NxX K H0 H1 (WD E) env x := fun B F σ cls d s r => h B F cls d s.gr r
theorem NxX.sub {H0 H1 : Hp} {W : WX} {env' : List Slot} {x : XD} (s : Sub env env') (h : NxX K H0 H1 W env' x) : NxX K H0 H1 W env x := fun B F σ cls d st r => h B F σ cls d (st.sub s) r
theorem lv_def {w : Sum ξ ρ → τ} (hx : Exits Φ (RxE K E xd o) w) : Leaves K Φ (WD E) env xd (fun x => w (.inl x)) := fun H0 H1 En x h => NxX.of (hx H0 H1 En _ h)
/-- an expression that makes an exception -/
def EvMk (K : PySem.W.Frag) (t : L2.St → Hp → XK → Prop) (env : List Slot) (x : XD) : Prop := ∀ B F σ, Same B F → Vs K B F σ env → ∀ Q : XK, (∀ B' F' cls d, Gr B F B' F' → RepX K B' x cls d → Q cls d F') → t σ F Q
def tRaise (W : WX) (t : L2.St → Hp → XK → Prop) : TS := fun _ σ H => t σ H fun cls d H' => W cls d σ H'
theorem xx_raise {W : WX} {w : ξ → τ} {x : ξ} {tm : L2.St → Hp → XK → Prop} (hx : Leaves K Φ W env xd w) (h : EvMk K tm env (xd x)) : Blk K T Φ (tRaise W tm) env (.p (w x)) := fun H0 H1 En _ _ hΦ B F σ st =>
  h B F σ st.gr.f st.vs _ fun B' F' cls d g r => hx H0 H1 En x hΦ B' F' σ cls d (st.grow g) r
/-- a raise that is not reached -/
theorem xx_not {m : G τ} (h : ¬ m.ok) : Blk K T Φ t env m := fun _ _ _ _ ok _ => absurd ok h
/-- raise C('..'), C without an own __init__ -/
theorem mk_bare {C : Addr} : EvMk K (fun _ H Q => Q (.ref C) none H) env (.bare C) := fun B F σ s v Q h => h B F _ _ (Gr.refl s) ⟨rfl, rfl⟩
/-! ### calls that may raise -/
/-- the term gives a value, or raises -/
def XZ (K : PySem.W.Frag) (W : WX) (xd : ξ → XD) (te : TE) (env : List Slot) (m : G (Sum ξ β)) (o : β → O) : Prop := m.ok → ∀ B F σ, Same B F → Vs K B F σ env → ∀ Q : VK,
  (∀ v, m.val = .inr v → ∀ B' F' x P, Gr B F B' F' → Own K B' F' (o v) x P → (∀ a, P a → F a = none ∧ B' a = none) → Q x F') → (∀ x, m.val = .inl x → ∀ B' F' cls d, Gr B F B' F' → RepX K B' (xd x) cls d → W cls d σ F') → te σ F Q
/-- the promise of a def that may raise -/
def spE (K : PySem.W.Frag) (R : List D → Sum XD O → Prop) : Sp := fun vs F Q E => ∃ B ds r, Same B F ∧ Reps K B ds vs ∧ R ds r ∧
  (∀ o, r = .inr o → ∀ B' F' x P, Gr B F B' F' → Own K B' F' o x P → (∀ a, P a → F a = none ∧ B' a = none) → Q x F') ∧ (∀ x, r = .inl x → ∀ B' F' cls d, Gr B F B' F' → RepX K B' x cls d → E cls d F')
def outc (xd : ξ → XD) (o : β → O) : Sum ξ β → Sum XD O
  | .inl x => .inl (xd x)
  | .inr v => .inr (o v)
theorem xz_call {W : WX} {ds : List D} {R : List D → Sum XD O → Prop} {m : G (Sum ξ β)} {o : β → O} (h : EvA K ta env ds) (hr : m.ok → R ds (outc xd o m.val)) : XZ K W xd (tCallSD (spE K R) [] (WE W) ta) env m o := fun ok B F σ s v Q hq hx => by
  refine h B F σ s v _ fun B1 F1 xs g r => ?_
  show spE K R (xs ++ []) F1 Q (WE W σ)
  rw [List.append_nil]
  refine ⟨B1, ds, _, g.f, r, hr ok, fun o' e B' F' x P g2 w p => ?_, fun x e B' F' cls d g2 rx => ?_⟩
  · cases hv : m.val with
    | inl y => rw [hv] at e; cases e
    | inr y =>
      rw [hv] at e; cases e
      refine hq y hv B' F' x P (g.trans g2) w fun a ha => ⟨?_, (p a ha).2⟩
      exact g.s.free (p a ha).1
  · cases hv : m.val with
    | inr y => rw [hv] at e; cases e
    | inl y => rw [hv] at e; cases e; exact hx y hv B' F' cls d (g.trans g2) rx
/-- what stands ahead of it -/
theorem xz_b {W : WX} {e1 : α → D} {m : G α} {f : α → G (Sum ξ β)} {o : β → O} {te' : TE} (h : XE K te env m e1) (k : ∀ a, EvE K te env (e1 a) → XZ K W xd te' env (f a) o) : XZ K W xd te' env (m.b f) o := fun ok => k _ (h ok.1) ok.2
theorem xz_bo {W : WX} {o1 : α → O} {m : G α} {f : α → G (Sum ξ β)} {o : β → O} {te' : TE} (h : XO K te env m o1) (k : ∀ a, EvX K te env (o1 a) → XZ K W xd te' env (f a) o) : XZ K W xd te' env (m.b f) o := fun ok => k _ (h ok.1) ok.2
theorem xz_a {W : WX} {C : Prop} {m : G (Sum ξ β)} {o : β → O} (h : C → XZ K W xd te env m o) : XZ K W xd te env (.a C m) o := fun ok => h ok.1 ok.2
/-! statements -/
theorem xz_drop {W : WX} {o1 : β → O} {m : G (Sum ξ β)} {w : ξ → τ} {k : β → G τ} (h : XZ K W xd te env m o1) (hx : Leaves K Φ W env xd w) (hk : ∀ v, Blk K T Φ u env (k v)) : Blk K T Φ (tSeq (tDrop te) u) env (m.on w k) := fun H0 H1 En hT ok hΦ B F σ st => by
  refine h ok.1 B F σ st.gr.f st.vs _ (fun v hv B' F' x P g _ _ => ?_) (fun x hv B' F' cls d g r => ?_)
  · have e : (m.on w k).val = (k v).val := by unfold G.on; simp only [hv]
    rw [e] at hΦ
    exact hk v H0 H1 En hT (ok.2 v hv) hΦ B' F' σ (st.grow g)
  · have e : (m.on w k).val = w x := by unfold G.on; simp only [hv]
    rw [e] at hΦ
    exact hx H0 H1 En x hΦ B' F' σ cls d (st.grow g) r
theorem xz_drop1 {W : WX} {o1 : β → O} {m : G (Sum ξ β)} {w : ξ → τ} {k : β → G τ} (h : XZ K W xd te env m o1) (hx : Leaves K Φ W env xd w) (hk : ∀ v, Blk K T Φ tNext env (k v)) : Blk K T Φ (tDrop te) env (m.on w k) := fun H0 H1 En hT ok hΦ B F σ st => by
  refine h ok.1 B F σ st.gr.f st.vs _ (fun v hv B' F' x P g _ _ => ?_) (fun x hv B' F' cls d g r => ?_)
  · have e : (m.on w k).val = (k v).val := by unfold G.on; simp only [hv]
    rw [e] at hΦ
    exact hk v H0 H1 En hT (ok.2 v hv) hΦ B' F' σ (st.grow g)
  · have e : (m.on w k).val = w x := by unfold G.on; simp only [hv]
    rw [e] at hΦ
    exact hx H0 H1 En x hΦ B' F' σ cls d (st.grow g) r
/-- x = f(..), x one's own -/
theorem xz_own {W : WX} {i : Nat} {o1 : β → O} {m : G (Sum ξ β)} {w : ξ → τ} {k : β → G τ} (h : XZ K W xd te env m o1) (hx : Leaves K Φ W env xd w) (hk : ∀ v, Blk K T Φ u (env.set i (.own (o1 v))) (k v)) : Blk K T Φ (tSeq (tAsg te (gName i)) u) env (m.on w k) := fun H0 H1 En hT ok hΦ B F σ st => by
  refine h ok.1 B F σ st.gr.f st.vs _ (fun v hv B' F' x P g ow p => ?_) (fun x hv B' F' cls d g r => ?_)
  · have e : (m.on w k).val = (k v).val := by unfold G.on; simp only [hv]
    rw [e] at hΦ
    exact hk v H0 H1 En hT (ok.2 v hv) hΦ B' F' _ (st.setO g ow p)
  · have e : (m.on w k).val = w x := by unfold G.on; simp only [hv]
    rw [e] at hΦ
    exact hx H0 H1 En x hΦ B' F' σ cls d (st.grow g) r
/-- x = f(..), x known -/
theorem xz_asg {W : WX} {i : Nat} {e1 : β → D} {m : G (Sum ξ β)} {w : ξ → τ} {k : β → G τ} (h : XZ K W xd te env m (oF e1)) (hx : Leaves K Φ W env xd w) (hk : ∀ v, Blk K T Φ u (env.set i (.val (e1 v))) (k v)) : Blk K T Φ (tSeq (tAsg te (gName i)) u) env (m.on w k) := fun H0 H1 En hT ok hΦ B F σ st => by
  refine h ok.1 B F σ st.gr.f st.vs _ (fun v hv B' F' x P g ow p => ?_) (fun x hv B' F' cls d g r => ?_)
  · have e : (m.on w k).val = (k v).val := by unfold G.on; simp only [hv]
    rw [e] at hΦ
    have ow : Own K B' F' (.fr (e1 v)) x P := ow
    unfold Own at ow
    exact hk v H0 H1 En hT (ok.2 v hv) hΦ B' F' _ ((st.grow g).set ow.1)
  · have e : (m.on w k).val = w x := by unfold G.on; simp only [hv]
    rw [e] at hΦ
    exact hx H0 H1 En x hΦ B' F' σ cls d (st.grow g) r
/-- return f(..) -/
theorem xz_ret {w : Sum ξ ρ → τ} {m : G (Sum ξ ρ)} (h : XZ K (WD E) xd te env m o) (hx : Exits Φ (RxE K E xd o) w) : Blk K T Φ (tRet te) env (m.on (fun x => w (.inl x)) fun v => .p (w (.inr v))) := fun H0 H1 En hT ok hΦ B F σ st => by
  refine h ok.1 B F σ st.gr.f st.vs _ (fun v hv B' F' x P g ow p => ?_) (fun x hv B' F' cls d g r => ?_)
  · have e : (m.on (fun x => w (.inl x)) fun v => .p (w (.inr v))).val = w (.inr v) := by unfold G.on; simp only [hv]; rfl
    rw [e] at hΦ
    exact (hx H0 H1 En _ hΦ : RtX K H0 H1 En.rt (o v)) B' F' x P (st.gr.trans g) ow fun a ha => ⟨st.gr.s.free (p a ha).1, (p a ha).2⟩
  · have e : (m.on (fun x => w (.inl x)) fun v => .p (w (.inr v))).val = w (.inl x) := by unfold G.on; simp only [hv]
    rw [e] at hΦ
    exact (hx H0 H1 En _ hΦ : RtE K H0 H1 E (xd x)) B' F' cls d (st.gr.trans g) r
end
/-! ### a def that may raise -/
section
variable {P : Program} {w : World} {K : PySem.W.Frag} {mg : Str → Option Value} {base : Heap}
theorem ok_defE {x qual : Str} {st : Stmt} {f : Addr} {fd : FuncData} {N ps : List Str} {k : Nat} {R : List D → Sum XD O → Prop} (F : Fun K x qual st f fd) (S : FnScope N ps (defScope st)) (len : ∀ ds r, R ds r → ds.length = ps.length)
    (hbody : ∀ (cdv : Value) (A : Around) (outer : List Env) (s : Shared) (H : Hp) (E : XK), Room k (A.deeper (envOfC qual (defScope st) s.heap.objs.size f cdv)) →
      ∃ t, PSs (cxOf (L2.CX P w) P w K mg base N qual (defScope st) f cdv A outer s H E) (defBody st) t ∧ ∀ ds r, R ds r → ∀ H0 H1 rt, (∀ o, r = .inr o → RtX K H0 H1 rt o) → (∀ x, r = .inl x → RtE K H0 H1 E x) → Go K H0 H1 t { nx := fun _ H' => rt .non H', rt := rt } (startE N ds)) :
    FnOk P w K mg base (L2.CX P w) (k + 1) f fd ps (spE K R) := by
  refine F.okX S (fun vs H Q E h => ?_) (fun cdv A outer s H vs Q E hr h => ?_)
  · obtain ⟨B, ds, r, _, h2, h3, _⟩ := h
    rw [h2.len, len ds r h3]
  · obtain ⟨t, ht, hg⟩ := hbody cdv A outer s H E hr
    obtain ⟨B, ds, r, h1, h2, h3, h4, h5⟩ := h
    exact ⟨t, ht, hg ds r h3 B H Q (fun o e B' F' x P g w p => h4 o e B' F' x P g w p) (fun x e B' F' cls d g rx => h5 x e B' F' cls d g rx) B H _ (start_state h1 h2)⟩
theorem runE {ξ ρ : Type} {env : List Slot} {t : TS} {E : XK} {xd : ξ → XD} {o : ρ → O} {m : G (Sum ξ ρ)} {H0 H1 : Hp} {rt : VK} (h : Blk K TyR (PRx (RxE K E xd o)) t env m) (ok : m.ok) (h1 : ∀ q, outc xd o m.val = .inr q → RtX K H0 H1 rt q) (h2 : ∀ q, outc xd o m.val = .inl q → RtE K H0 H1 E q) : Go K H0 H1 t { nx := fun _ H' => rt .non H', rt := rt } env := by
  refine h H0 H1 _ rfl ok ?_
  show RxE K E xd o H0 H1 rt m.val
  cases e : m.val with
  | inl x => exact h2 _ (by rw [e]; rfl)
  | inr r => exact h1 _ (by rw [e]; rfl)
structure CalE (P : Program) (w : World) (K : PySem.W.Frag) (mg : Str → Option Value) (base : Heap) (x : Str) (k : Nat) (ps : List Str) (sp : Sp) : Prop where
  h : ∃ (f : Addr) (fd : FuncData), mg x = some (.ref f) ∧ PySem.W.keepIn K (.ref f) = true ∧ FnOk P w K mg base (L2.CX P w) k f fd ps sp ∧ Binds K fd ps []
theorem CalE.mk' {x qual : Str} {st : Stmt} {f : Addr} {fd : FuncData} {ps : List Str} {k : Nat} {sp : Sp} (F : Fun K x qual st f fd) (g : mg x = some (.ref f)) (ok : FnOk P w K mg base (L2.CX P w) k f fd ps sp)
    (h : ∀ (kV doc pm : Value) (an : Option Addr) (cdv ct : Value) (us : List Value), us.length = ps.length → bindArgs (PySem.W.fnOf x qual (defArgs st) (defBody st) (defScope st) .none kV doc pm an cdv ct) ⟨us, []⟩ = pure (ps.zip us)) : CalE P w K mg base x k ps sp := ⟨f, fd, g, F.kp, ok, F.binds h⟩
theorem CalE.mono {x : Str} {ps : List Str} {j k : Nat} {sp : Sp} (c : CalE P w K mg base x j ps sp) (h : j ≤ k) : CalE P w K mg base x k ps sp := by
  obtain ⟨f, fd, h1, h2, h3, h4⟩ := c.h
  exact ⟨f, fd, h1, h2, h3.mono h, h4⟩
theorem pe_calE {X : Cx} {W : WX} {x : Str} {k : Nat} {ps : List Str} {sp : Sp} {p pos : Pos} {e : Expr} {es : List Expr} {t : TA} (c : CalE X.prog X.w X.K X.mg X.base x k ps sp) (hr : Room k X.A) (hg : Gl X x) (tk : Takes X W) (h : PA X (e :: es) t) (hdb : (x == ("__debug__" : Str)) = false := by decide)
    (he : starEach (e :: es) X.env = (false, eval e X.env) :: starEach es X.env := by rfl) (hpl : (backTo pos (starEach es X.env)).any (·.1) = false := by rfl) :
    PE X (.Call (.Name x p) (e :: es) [] pos) (tCallSD sp [] (WE W) t) := by
  obtain ⟨f, fd, h1, h2, h3, h4⟩ := c.h
  exact pe_callSD h3 hr hg h1 h2 h4 .nil (fun σ => passAt tk σ) h hdb he hpl
/-- where it does not raise -/
theorem FnOk.calm {k : Nat} {f : Addr} {fd : FuncData} {ps : List Str} {R : List D → Sum XD O → Prop} (F : FnOk P w K mg base (L2.CX P w) k f fd ps (spE K R)) (hl : ∀ ds r, R ds r → ds.length = ps.length) : FnOk P w K mg base CX0 k f fd ps (spX K fun ds o => R ds (.inr o)) := by
  refine ⟨fun vs H Q E ⟨B, ds, o, _, h2, h3, _⟩ => by rw [h2.len, hl ds _ h3], fun A outer s H args us vs Q E hr he hb hv hs => ?_⟩
  obtain ⟨B, ds, o, h1, h2, h3, h4⟩ := hs
  have q := F.run A outer s H args us vs Q (fun _ _ _ => False) hr he hb hv ⟨B, ds, .inr o, h1, h2, h3, fun o' e => by cases e; exact h4, fun x e => by cases e⟩
  refine codeAny_mono q fun r s' hr => ?_
  cases r with
  | ok r => cases r <;> exact hr
  | error e =>
    obtain ⟨_, _, _, _, _, _, _, _, _, _, _, _, z⟩ := hr
    exact z.elim
end
end Y

/-! X20: C(e, ..) of an own exception class; its __init__. -/
namespace Y
open PySem PySem.Spec PyProof.Rows L2 NdefX
/-- the promise of an exception's __init__ that stores its arguments under the names ns -/
def spXI (K : PySem.W.Frag) (C : Addr) (ns : List Str) (M : List D → Prop) : Sp := fun vs H Q _ => ∃ B a ds ws, vs = .ref a :: ws ∧ ds.length = ns.length ∧ B a = none ∧ Same B H ∧ H a = some (exo a C none) ∧ Reps K B ds ws ∧ M ds ∧
  ∀ dd, H dd = none → dd ≠ a → Q .non (upd (upd H dd (exd dd (ns.zip ws).reverse)) a (exo a C (some dd)))
section
variable {K : PySem.W.Frag} {env : List Slot} {ta : TA} {ds : List D} {ns : List Str} {C : Addr} {M : List D → Prop}
theorem mk_own (h : EvA K ta env ds) (hn : ns.length = ds.length) (hM : M ds) (hz : ds.length ≤ 1000) : EvMk K (tMkO C (spXI K C ns M) [] ta) env (.mk C ns ds) := fun B F σ s v Q q => by
  refine h B F σ s v _ fun B1 F1 ws g r => ?_
  refine ⟨by rw [r.len]; exact hz, fun a ha => ?_⟩
  rw [List.append_nil]
  have hB : B1 a = none := g.f.free ha
  refine ⟨B1, a, ds, ws, rfl, hn.symm, hB, same_out g.f hB, upd_same, r, hM, fun dd hd hne => ?_⟩
  have hd' : F1 dd = none := by rwa [upd_ne hne] at hd
  refine ⟨rfl, dd, (ns.zip ws).reverse, by rw [upd_same], by rw [upd_ne hne, upd_same], hd', ?_⟩
  have e : upd (del (upd (upd (upd F1 a (exo a C none)) dd (exd dd (ns.zip ws).reverse)) a (exo a C (some dd))) a) dd (.xd (ns.zip ws).reverse) = upd F1 dd (.xd (ns.zip ws).reverse) := by
    funext b
    by_cases z : b = dd
    · subst z; rw [upd_same, upd_same]
    · rw [upd_ne z, upd_ne z]
      by_cases z2 : b = a
      · subst z2; rw [del_same, ha]
      · rw [del_ne z2, upd_ne z2, upd_ne z, upd_ne z2]
  rw [e]
  exact q (upd B1 dd (.xd (ns.zip ws).reverse)) _ _ _ (g.trans (Gr.new g.f hd')) ⟨rfl, hn, dd, ws, rfl, upd_same, r.mono (same_new (g.f.free hd'))⟩
end
/-! ### the __init__ -/
/-- a text or an int, as it may stand in a message -/
def Msg : D → Prop
  | .str s => s.length ≤ 100000
  | .int i => i.natAbs.log2 < 1920 ∧ (toString i : Str).length ≤ 100000
  | _ => False
section
variable {K : PySem.W.Frag} {H : Hp} {σ : L2.St} {i : Nat}
/-- {x} for the name in slot i -/
theorem fmt_msg {d : D} {v : V} (hm : Msg d) (hr : Rep K H d v) (hs : σ[i]? = some (some v)) {F : Hp} {Q : VK} (h : ∀ y : Str, y.length ≤ 100000 → Q (.str y) F) : tFmt (tVar i) σ F Q := by
  refine ⟨v, hs, ?_⟩
  cases d with
  | str s =>
    unfold Rep at hr
    subst hr
    exact .inl ⟨s, rfl, Nat.le_of_lt (smallZ hm), h s hm⟩
  | int n =>
    unfold Rep at hr
    subst hr
    exact .inr ⟨n, rfl, hm.1, h _ hm.2⟩
  | _ => exact hm.elim
/-- the parts of a message: written texts, and fields -/
inductive Prt where
  | w (s : Str) | f (i : Nat)
def prtT : Prt → TE
  | .w s => tC (.str s)
  | .f i => tFmt (tVar i)
def prtZ : List Prt → Nat
  | [] => 0
  | .w s :: r => s.length + prtZ r
  | .f _ :: r => 100000 + prtZ r
theorem str_app_len (a b : Str) : (a ++ b).length = a.length + b.length := by
  show (a.append b).length = _
  unfold Str.append Str.length; simp
theorem tJs_msg {F : Hp} {Q : Str → Hp → Prop} (hQ : ∀ out, Q out F) : ∀ (ps : List Prt) (acc : Str), (∀ (i : Nat), Prt.f i ∈ ps → ∀ Q : VK, (∀ y : Str, y.length ≤ 100000 → Q (.str y) F) → tFmt (tVar i) σ F Q) → acc.length + prtZ ps ≤ sizeLine → tJs (ps.map prtT) acc σ F Q
  | [], acc, _, _ => hQ acc
  | .w s :: r, acc, hf, hz => by
    have hz : acc.length + (s.length + prtZ r) ≤ sizeLine := hz
    refine ⟨s, rfl, by rw [str_app_len]; omega, tJs_msg hQ r _ (fun i hi => hf i (List.mem_cons_of_mem _ hi)) (by rw [str_app_len]; omega)⟩
  | .f i :: r, acc, hf, hz => by
    have hz : acc.length + (100000 + prtZ r) ≤ sizeLine := hz
    show tFmt (tVar i) σ F (fun x H1 => ∃ y : Str, x = .str y ∧ (acc ++ y).length ≤ sizeLine ∧ tJs (r.map prtT) (acc ++ y) σ H1 Q)
    refine hf i (by simp) _ fun y hy => ⟨y, rfl, by rw [str_app_len]; omega, tJs_msg hQ r _ (fun i hi => hf i (List.mem_cons_of_mem _ hi)) (by rw [str_app_len]; omega)⟩
end
section
variable {P : Program} {w : World} {K : PySem.W.Frag} {mg : Str → Option Value} {base : Heap} {k : Nat} {f : Addr} {name qual : Str} {params : Arguments} {scope : Scope} {dV kV doc pm ct oc : Value} {an od : Option Addr}
    {osl : Array (Option Value)} {C cc cda : Addr} {ar : Arg} {js : List Expr} {pj p0 p1 p2 pos pos' q1 q2 q3 q4 r1 r2 r3 r4 : Pos} {f1 f2 : Str}
/-- class C(..): def __init__(self, f1): super().__init__(f'..'); self.f1 = f1 -/
theorem ok_x1 (lk : K.lookup f = some ⟨oc, od, .func (PySem.W.fnX name qual params (superInit p0 p1 p2 pos pos' js pj :: [.Assign [.Attribute (.Name "self" q1) f1 q2] (.Name f1 q3) q4]) scope [(("__class__" : Str), cc)] dV kV doc pm an (.ref cda) ct), osl⟩)
    (hcd : PySem.W.codeIn K (.ref cda) qual = true) (S : NScope [("self" : Str), f1, "__class__"] [("self" : Str), f1] ["__class__"] scope)
    (T : SupT P K mg C cc cda f ar) (O : OexC K C) (hpos : (p2.endLine == pos.line) = true) (har : ar.arg = "self") (hks : scope.names.lookup ("super" : Str) = some .globalImplicit) (hno : PySem.W.findIn K (.ref C) f1 = some none)
    (hd : (f1 == ("__debug__" : Str)) = false) (hdc : (f1 == ("__classdict__" : Str)) = false) (ps : List Prt) (hz : prtZ ps ≤ sizeLine) (hps : ∀ i, Prt.f i ∈ ps → i = 1)
    (hj : ∀ X : Cx, X.N = [("self" : Str), f1, "__class__"] → X.env.scope = scope → PE X (.JoinedStr js pj) (fun σ H Q => tJs (ps.map prtT) Str.empty σ H fun out H1 => Q (.str out) H1)) :
    FnOk P w K mg base CX0 (k + 1) f (PySem.W.fnX name qual params (superInit p0 p1 p2 pos pos' js pj :: [.Assign [.Attribute (.Name "self" q1) f1 q2] (.Name f1 q3) q4]) scope [(("__class__" : Str), cc)] dV kV doc pm an (.ref cda) ct) [("self" : Str), f1] (spXI K C [f1] fun ds => ∀ d ∈ ds, Msg d) := by
  refine fn_ofS lk hcd S T O hpos (by rw [har]; rfl) hks (fun vs H Q E ⟨B, a, ds, ws, h1, h2, h3, h4, h5, h6, _⟩ => by rw [h1, List.length_cons, h6.len, h2]; rfl) fun A outer s H vs Q E hr hsp => ?_
  obtain ⟨B, a, ds, ws, rfl, hl, hB, hs, ha, hr', hM, hq⟩ := hsp
  obtain ⟨d, rfl⟩ : ∃ d, ds = [d] := by
    match ds, hl with
    | [d], _ => exact ⟨d, rfl⟩
  obtain ⟨v, rfl, rv⟩ := reps1 hr'
  have hM1 := hM d (by simp)
  have s1 : S.kind = S.kind := rfl
  have hself : scope.names.lookup ("self" : Str) = some .local := S.par _ (by simp)
  have hf1 : scope.names.lookup f1 = some .local := S.par _ (by simp)
  refine ⟨a, _, _, rfl, ha, hj _ rfl rfl, pss_one (ps_ost (f := f1) (pe_var (i := 0) rfl (.inl hself) (by decide) (by decide)) (pe_var (i := 1) rfl (.inl hf1) hd hdc)), ?_⟩
  refine tJs_msg (fun out => ⟨by simp, ha, ?_⟩) ps Str.empty (fun i hi Q' h => ?_) (by show (0 : Nat) + prtZ ps ≤ sizeLine; omega)
  · obtain rfl := hps i hi
    exact fmt_msg hM1 rv rfl h
  · refine ⟨v, rfl, ?_⟩
    refine ⟨.ref a, rfl, a, C, rfl, O, hno, .inl ⟨ha, fun dx hd hne => ?_⟩⟩
    exact hq dx hd hne
/-- class C(..): def __init__(self, f1, f2) -/
theorem ok_x2 (lk : K.lookup f = some ⟨oc, od, .func (PySem.W.fnX name qual params (superInit p0 p1 p2 pos pos' js pj :: [.Assign [.Attribute (.Name "self" q1) f1 q2] (.Name f1 q3) q4, .Assign [.Attribute (.Name "self" r1) f2 r2] (.Name f2 r3) r4]) scope [(("__class__" : Str), cc)] dV kV doc pm an (.ref cda) ct), osl⟩)
    (hcd : PySem.W.codeIn K (.ref cda) qual = true) (S : NScope [("self" : Str), f1, f2, "__class__"] [("self" : Str), f1, f2] ["__class__"] scope)
    (T : SupT P K mg C cc cda f ar) (O : OexC K C) (hpos : (p2.endLine == pos.line) = true) (har : ar.arg = "self") (hks : scope.names.lookup ("super" : Str) = some .globalImplicit) (hno : PySem.W.findIn K (.ref C) f1 = some none) (hno2 : PySem.W.findIn K (.ref C) f2 = some none)
    (hd : (f1 == ("__debug__" : Str)) = false) (hdc : (f1 == ("__classdict__" : Str)) = false) (hd2 : (f2 == ("__debug__" : Str)) = false) (hdc2 : (f2 == ("__classdict__" : Str)) = false) (ps : List Prt) (hz : prtZ ps ≤ sizeLine) (hps : ∀ i, Prt.f i ∈ ps → i = 1 ∨ i = 2)
    (hj : ∀ X : Cx, X.N = [("self" : Str), f1, f2, "__class__"] → X.env.scope = scope → PE X (.JoinedStr js pj) (fun σ H Q => tJs (ps.map prtT) Str.empty σ H fun out H1 => Q (.str out) H1)) :
    FnOk P w K mg base CX0 (k + 1) f (PySem.W.fnX name qual params (superInit p0 p1 p2 pos pos' js pj :: [.Assign [.Attribute (.Name "self" q1) f1 q2] (.Name f1 q3) q4, .Assign [.Attribute (.Name "self" r1) f2 r2] (.Name f2 r3) r4]) scope [(("__class__" : Str), cc)] dV kV doc pm an (.ref cda) ct) [("self" : Str), f1, f2] (spXI K C [f1, f2] fun ds => ∀ d ∈ ds, Msg d) := by
  refine fn_ofS lk hcd S T O hpos (by rw [har]; rfl) hks (fun vs H Q E ⟨B, a, ds, ws, h1, h2, h3, h4, h5, h6, _⟩ => by rw [h1, List.length_cons, h6.len, h2]; rfl) fun A outer s H vs Q E hr hsp => ?_
  obtain ⟨B, a, ds, ws, rfl, hl, hB, hs, ha, hr', hM, hq⟩ := hsp
  obtain ⟨d, e, rfl⟩ : ∃ d e, ds = [d, e] := by
    match ds, hl with
    | [d, e], _ => exact ⟨d, e, rfl⟩
  obtain ⟨v, u, rfl, rv, ru⟩ := reps2 hr'
  have hM1 := hM d (by simp)
  have hM2 := hM e (by simp)
  have hself : scope.names.lookup ("self" : Str) = some .local := S.par _ (by simp)
  have hf1 : scope.names.lookup f1 = some .local := S.par _ (by simp)
  have hf2 : scope.names.lookup f2 = some .local := S.par _ (by simp)
  refine ⟨a, _, _, rfl, ha, hj _ rfl rfl, pss_cons (ps_ost (f := f1) (pe_var (i := 0) rfl (.inl hself) (by decide) (by decide)) (pe_var (i := 1) rfl (.inl hf1) hd hdc))
    (pss_one (ps_ost (f := f2) (pe_var (i := 0) rfl (.inl hself) (by decide) (by decide)) (pe_var (i := 2) rfl (.inl hf2) hd2 hdc2))), ?_⟩
  refine tJs_msg (fun out => ⟨by simp, ha, ?_⟩) ps Str.empty (fun i hi Q' h => ?_) (by show (0 : Nat) + prtZ ps ≤ sizeLine; omega)
  · rcases hps i hi with rfl | rfl
    · exact fmt_msg hM1 rv rfl h
    · exact fmt_msg hM2 ru rfl h
  · refine ⟨v, rfl, ?_⟩
    refine ⟨.ref a, rfl, a, C, rfl, O, hno, .inl ⟨ha, fun dx hd hne => ?_⟩⟩
    refine ⟨u, rfl, ?_⟩
    refine ⟨.ref a, rfl, a, C, rfl, O, hno2, .inr ⟨dx, [(f1, v)], upd_same, by rw [upd_ne hne, upd_same], by simp, ?_⟩⟩
    have e : upd (upd (upd H dx (exd dx [(f1, v)])) a (exo a C (some dx))) dx (exd dx ((f2, u) :: [(f1, v)])) = upd (upd H dx (exd dx ([(f1, v), (f2, u)]).reverse)) a (exo a C (some dx)) := by
      funext b
      by_cases z : b = dx
      · subst z; rw [upd_same, upd_ne hne, upd_same]; rfl
      · rw [upd_ne z]
        by_cases z2 : b = a
        · subst z2; rw [upd_same, upd_same]
        · rw [upd_ne z2, upd_ne z2, upd_ne z, upd_ne z]
    show Q .non _
    rw [e]
    exact hq dx hd hne
end
end Y

/-! X21: exceptions made; try .. except; what a suite asks of the exception. -/
namespace PySem.W
open PySem PySem.Spec PySem.Calls PyProof.Rows
section
variable {prog : Program} {w : World} {A : Around} {E : Value → Shared → Prop} {s : Shared} {K : Frag} {x D : Addr} {ox : Obj} {od : Option Obj}
theorem y_findObj {C : Addr} {name : Str} {a g : Value} (hc : (clsIn K C).isSome = true) (ha : findIn K (.ref C) name = some (some a)) (hg : specialIn K a "__get__" = some (some g)) (ht : takesIn K a = some true) : findObj K C od name = some (.bind g a) := by
  obtain ⟨cd, hc⟩ := Option.isSome_iff_exists.mp hc
  unfold findObj
  rw [hc, Option.bind_some, ha, Option.bind_some]
  simp [hg, ht]
theorem y_kin_class {Q : Option Value → Shared → Prop} (hga : findIn K (.ref D) "__getattribute__" = some (some (.builtin "BaseException.__getattribute__"))) (hgt : findIn K (.ref D) "__getattr__" = some none) (hsub : subIn K (.ref D) (.type "BaseException") = some true)
    (hdct : hasDictIn K D = true) (ha : findIn K (.ref D) "__class__" = some (some (.builtin "object.__class__")))
    (hn : specialIn K (.builtin "object.__class__") "__get__" = some (some (.builtin "getset_descriptor.__get__"))) (htk : takesIn K (.builtin "object.__class__") = some true) (hm : mroIn K D (.type "object") = some true)
    (X : K.In s.heap) (I : InstAt s.heap x ox D od) (h : Q (some (.ref D)) { s with toks := s.toks + 1 }) : wpAny (model prog w) A (getAttr? (.ref x) "__class__") Q E s := by
  have hf : findObj K D od "__class__" = some (.bind (.builtin "getset_descriptor.__get__") (.builtin "object.__class__")) := y_findObj (by obtain ⟨cd, hc, _⟩ := any_some hdct; rw [hc]; rfl) ha hn htk
  obtain ⟨hp, g, d, t, os⟩ := s
  have L0 := I.type (M := model prog w)
  have L1 := looks_findIn (M := model prog w) X hga
  have L2 := looks_findIn (M := model prog w) X hgt
  have L3 := looks_find (M := model prog w) X I hf
  have sub : Looks (model prog w) hp (isInstance (.ref x) (.type "BaseException")) true := L0.andThen (looks_subIn X hsub)
  have hx0 : (false && onTheHeap (Value.builtin "BaseException.__getattribute__")) = false := rfl
  have hx2 : (Value.builtin "BaseException.__getattribute__" == Value.builtin "object.__getattribute__") = false := by decide +kernel
  have hx1 : (onTheHeap (Value.ref D) && Value.builtin "BaseException.__getattribute__" == Value.builtin "object.__getattribute__") = false := by rw [hx2]; rfl
  unfold getAttr? getAttrBy? getAttrBy
  refine wpAny_bind (wpAny_mkText (wpAny_bind (wpAny_attempt (wpAny_holding (wpAny_bind (L0.at (wpAny_bind (L1.at ?_))))))))
  show wpAny _ _ (if (onTheHeap (Value.ref D) && Value.builtin "BaseException.__getattribute__" == Value.builtin "object.__getattribute__") = true then _ else _) _ _ _
  rw [hx1, if_neg Bool.false_ne_true]
  unfold getAttrByItsOwn hookBefore
  refine wpAny_bind ?_
  rw [if_pos (show onTheHeap (Value.ref D) = true from rfl)]
  refine L2.at ?_
  refine wpAny_bind (wpAny_attempt (wpAny_holding ?_))
  unfold callGetattribute
  rw [hx0, if_neg Bool.false_ne_true]
  unfold boundAndCalled
  rw [PySem.F.excAttr_ValueError.ga.bind (.ref x)]
  refine wpAny_bind (wpAny_pure ?_)
  show wpAny _ _ (call (.builtin "BaseException.__getattribute__") [.ref x, .str "__class__" t]) _ _ _
  refine wpAny_call (codeAny_call_builtin PySem.F.excAttr_ValueError.ga.plain PySem.F.entry_bexc_ga ?_)
  refine @check_slot (model prog w) _ _ ⟨hp, g, d, t + 1, os⟩ "BaseException.__getattribute__" "BaseException" "__getattribute__" (.ref x) [.str "__class__" t] [] _ (by decide +kernel) (by decide +kernel) sub (PySem.F.args_bexc_ga (.ref x) (.str "__class__" t)) ?_
  unfold Builtin.«object.__getattribute__»
  refine wpAny_bind (wpAny_of_eq (a := ((Value.ref x : Value), [Value.str "__class__" t])) (by first | rfl | (simp only [slotArgs]; rfl)) ?_)
  refine wpAny_bind (wpAny_pure (wpAny_bind (L0.at (wpAny_bind (L3.at ?_)))))
  show wpAny _ _ (holding [Value.builtin "object.__class__"] (call (.builtin "getset_descriptor.__get__") [.builtin "object.__class__", .ref x, .ref D]) >>= ret) _ _ _
  refine wpAny_bind (wpAny_holding (wpAny_call (class_get (s := ⟨hp, g, d, t + 1, os⟩) (ox := ox) (od := od) X I hm ?_)))
  refine wpAny_pure ?_
  show wpAny _ _ (handedOut (.ref D)) _ _ _
  rw [handedOut_of (v := .ref D) rfl]
  first
    | exact wpAny_pure (wpAny_pure h)
    | exact wpAny_pure h
    | exact wpAny_pure (wpAny_bind (wpAny_pure (wpAny_pure h)))
theorem y_kitx {od : Option Obj} (hga : findIn K (.ref D) "__getattribute__" = some (some (.builtin "BaseException.__getattribute__"))) (hgt : findIn K (.ref D) "__getattr__" = some none) (hsub : subIn K (.ref D) (.type "BaseException") = some true) (hdct : hasDictIn K D = true) (ha : findIn K (.ref D) "__class__" = some (some (.builtin "object.__class__")))
    (hn : specialIn K (.builtin "object.__class__") "__get__" = some (some (.builtin "getset_descriptor.__get__"))) (htk : takesIn K (.builtin "object.__class__") = some true) (hm : mroIn K D (.type "object") = some true) :
    KitX K (.ref x) (.ref D) (fun h => InstAt h x ox D od) where
  ty := fun _ _ _ I => I.type
  it := fun _ _ X _ => by
    obtain ⟨cdD, hcD, _⟩ := any_some hdct
    unfold clsIn at hcD
    split at hcD
    · rename_i c' d' cd' sl' ho
      intro A' Q' E' s' k q
      unfold isType loadHead
      exact wpAny_bind (wpAny_loadPart (k _ _ (X _ _ ho)) (wpAny_pure q))
    · cases hcD
  ne := fun h tp dd its n sl X htp => by
    obtain ⟨cdD, hcD, _⟩ := any_some hdct
    refine Bool.eq_false_iff.mpr fun q => ?_
    have e : D = tp := Value.ref.inj (beq_iff_eq.mp q)
    subst e
    unfold clsIn at hcD
    split at hcD
    · rename_i c' d' cd' sl' ho
      have z := (X _ _ ho).symm.trans htp
      cases z
    · cases hcD
  ca := fun X I k => y_kin_class hga hgt hsub hdct ha hn htk hm X I k
end
end PySem.W
namespace Y
open PySem PySem.Spec PyProof.Rows L2
theorem call_isX {X : Cx} {a D : Addr} {oe : Obj} {cls : Value} {d : Option Addr} {pn : List (Addr × Obj)} (C : ExcC X.K D) (hz : Zc cls d oe) (hf : ∃ vs, oe.data = .fields vs) (hcl : cls = .ref D) : CallR (X.suite a ((a, oe) :: pn)) (.builtin "isinstance") (fun xs H Q => (d = none ∨ ∃ dd fs, d = some dd ∧ H dd = some (.xd fs)) ∧ rIsE X.K D a xs H Q) := by
  subst hcl
  intro pins s σ H xs us Q I r h
  obtain ⟨hd, c, cv, b, rfl, hcv, e, q⟩ := h
  cases r with
  | cons rx rr =>
    cases rr with
    | cons rt rr =>
      cases rr
      cases rx
      have ec := hcv _ rt
      subst ec
      obtain ⟨hget, _⟩ := I.pin (a, oe) (List.mem_append.mpr (.inl List.mem_cons_self))
      obtain ⟨vs, hv⟩ := hf
      have J : ∃ od, PySem.W.InstAt s.heap a oe D od := by
        obtain ⟨oc, od, oda, osl⟩ := oe
        obtain ⟨h1, h2⟩ := hz
        dsimp only at h1 h2 hv
        subst h1 h2 hv
        rcases hd with rfl | ⟨dd, fs, rfl, e2⟩
        · exact ⟨none, hget, rfl, rfl, trivial⟩
        · have hx : ObjOk X.prog X.w H s.heap dd (.xd fs) := I.hok dd _ e2
          obtain ⟨mA, hns, hr⟩ := hx
          obtain ⟨o, ho, _⟩ := lookIn_ns hns
          exact ⟨some o, hget, rfl, rfl, ho⟩
      obtain ⟨od, J⟩ := J
      exact PySem.W.kia_one (PySem.W.y_kitx C.hg C.hk C.hs C.hd C.ha C.hn C.ht C.hm) I.kIn J e (fun z => nomatch z) fun tk => ⟨.bl b, H, I.kept (t' := tk) fun _ _ z => z, rfl, q⟩

/-! ### C(e, ..) -/
structure MkC (P : Program) (w : World) (K : PySem.W.Frag) (mg : Str → Option Value) (base : Heap) (x : Str) (C : Addr) (k : Nat) (ps : List Str) (sp : Sp) : Prop where
  h : ∃ (f : Addr) (fd : FuncData), mg x = some (.ref C) ∧ OexC K C ∧ PySem.W.findIn K (.ref C) "__init__" = some (some (.ref f)) ∧ PySem.W.typeIn K (.ref f) = some (.type "function") ∧ FnOk P w K mg base CX0 k f fd ps sp ∧ Binds K fd ps []
theorem MkC.mono {P : Program} {w : World} {K : PySem.W.Frag} {mg : Str → Option Value} {base : Heap} {x : Str} {C : Addr} {j k : Nat} {ps : List Str} {sp : Sp} (c : MkC P w K mg base x C j ps sp) (h : j ≤ k) : MkC P w K mg base x C k ps sp := by
  obtain ⟨f, fd, h1, h2, h3, h4, h5, h6⟩ := c.h
  exact ⟨f, fd, h1, h2, h3, h4, h5.mono h, h6⟩
theorem pmk_c {X : Cx} {x : Str} {C : Addr} {k : Nat} {ps : List Str} {sp : Sp} {p pos : Pos} {e : Expr} {es : List Expr} {ta : TA} (c : MkC X.prog X.w X.K X.mg X.base x C k ps sp) (hr : Room (k + 1) X.A) (hg : Gl X x) (ha : PA X (e :: es) ta) (hdb : (x == ("__debug__" : Str)) = false := by decide)
    (he : starEach (e :: es) X.env = (false, eval e X.env) :: starEach es X.env := by rfl) (hpl : (backTo pos (starEach es X.env)).any (·.1) = false := by rfl) : PMk X (.Call (.Name x p) (e :: es) [] pos) (tMkO C sp [] ta) := by
  obtain ⟨f, fd, h1, h2, h3, h4, h5, h6⟩ := c.h
  exact pmk_oex h2 h3 h4 h5 hr h6 .nil (fun _ _ _ _ _ _ _ h => h.elim) hg h1 ha hdb he hpl
/-! ### what a suite asks -/
section
variable {K : PySem.W.Frag} {env : List Slot} {i : Nat} {a dd C : Addr} {ns : List Str} {ds : List D}
theorem xc_rep {H : Hp} {v : V} (h : Rep K H (.xc a dd ns ds) v) : v = .ref a ∧ ∃ vs, H dd = some (.xd (ns.zip vs).reverse) ∧ ns.length = ds.length ∧ Reps K H ds vs := by unfold Rep at h; exact h
/-- isinstance(e, T) -/
theorem ee_isX {n : V} {cv : Value} {b : Bool} (h : env[i]? = some (.val (.xc a dd ns ds))) (hv : ∀ u, RelV n u → u = cv) (hb : PySem.W.kitOne K (.ref C) cv = some b) :
    EvE K (tCB (fun xs H Q => (some dd = none ∨ ∃ d2 fs, some dd = some d2 ∧ H d2 = some (.xd fs)) ∧ rIsE K C a xs H Q) (tCons (tVar i) (tCons (tC n) tNil))) env (.bl b) := fun B F σ s v Q q => by
  obtain ⟨x, hx, r⟩ := v.val i _ h
  obtain ⟨rfl, vs, h1, h2, h3⟩ := xc_rep r
  refine ⟨_, hx, ?_⟩
  exact ⟨.inr ⟨dd, _, rfl, s _ _ h1⟩, n, cv, b, rfl, hv, hb, q B F _ (Gr.refl s) (by unfold Rep; rfl)⟩
/-- .. without fields -/
theorem ee_isX0 {n : V} {cv : Value} {b : Bool} (h : env[i]? = some (.val (.v (.ref a)))) (hv : ∀ u, RelV n u → u = cv) (hb : PySem.W.kitOne K (.ref C) cv = some b) :
    EvE K (tCB (fun xs H Q => ((none : Option Addr) = none ∨ ∃ d2 fs, (none : Option Addr) = some d2 ∧ H d2 = some (.xd fs)) ∧ rIsE K C a xs H Q) (tCons (tVar i) (tCons (tC n) tNil))) env (.bl b) := fun B F σ s v Q q => by
  obtain ⟨x, hx, r⟩ := v.val i _ h
  unfold Rep at r
  subst r
  refine ⟨_, hx, ?_⟩
  exact ⟨.inl rfl, n, cv, b, rfl, hv, hb, q B F _ (Gr.refl s) (by unfold Rep; rfl)⟩
theorem zip_rev_lookup {α : Type} {f : Str} : ∀ {ns : List Str} {vs : List α}, ns.Nodup → (ns.zip vs).reverse.lookup f = (ns.zip vs).lookup f
  | [], _, _ => rfl
  | _ :: _, [], _ => rfl
  | n :: ns, v :: vs, h => by
    rw [List.zip_cons_cons, List.reverse_cons, List.lookup_append, zip_rev_lookup (List.nodup_cons.mp h).2]
    by_cases z : f = n
    · subst z
      have e : (ns.zip vs).lookup f = none := by
        cases e : (ns.zip vs).lookup f with
        | none => rfl
        | some v => exact absurd (List.of_mem_zip (PySem.mem_of_lookup e)).1 (List.nodup_cons.mp h).1
      rw [e]; simp [List.lookup]
    · have z' : (f == n) = false := by simpa using z
      simp [List.lookup, z']
/-- e.f -/
theorem ee_xf {cls : Value} {f : Str} {d : D} (h : env[i]? = some (.val (.xc a dd ns ds))) (hc : cls = .ref C) (hn : ns.Nodup) (hf : (ns.zip ds).lookup f = some d) : EvE K (tXf a cls (some dd) C f (tVar i)) env d := fun B F σ s v Q q => by
  obtain ⟨x, hx, r⟩ := v.val i _ h
  obtain ⟨rfl, vs, h1, h2, h3⟩ := xc_rep r
  obtain ⟨w, e1, e2⟩ := zip_lookup h3 hf
  exact ⟨_, hx, rfl, hc, dd, _, w, rfl, s _ _ h1, by rw [zip_rev_lookup hn]; exact e1, q B F _ (Gr.refl s) e2⟩
end
/-! ### try -/
def xcl : XD → Addr
  | .bare C => C
  | .mk C _ _ => C
/-- what the exception is in its slot, a its address, d its dict -/
def SlotX : XD → Addr → Option Addr → D → Prop
  | .bare C, a, d, s => d = none ∧ s = .v (.ref a)
  | .mk C ns ds, a, d, s => ns.length = ds.length ∧ ∃ dd, d = some dd ∧ s = .xc a dd ns ds
section
variable {K : PySem.W.Frag} {B : Hp} {x : XD} {cls : Value} {d : Option Addr}
theorem repX_cls (h : RepX K B x cls d) : cls = .ref (xcl x) := by
  cases x with
  | bare C => exact h.1
  | mk C ns ds => exact h.1
theorem repX_slot (h : RepX K B x cls d) (a : Addr) : ∃ s, SlotX x a d s ∧ Rep K B s (.ref a) := by
  cases x with
  | bare C => exact ⟨_, ⟨h.2, rfl⟩, by unfold Rep; rfl⟩
  | mk C ns ds =>
    obtain ⟨h1, h2, dd, vs, h3, h4, h5⟩ := h
    exact ⟨_, ⟨h2, dd, h3, rfl⟩, by unfold Rep; exact ⟨rfl, vs, h4, h2, h5⟩⟩
end
def wipeEn (i : Nat) (D : Ends) : Ends := { nx := fun σ' H' => D.nx (σ'.set i none) H', rt := D.rt, bk := fun σ' H' => D.bk (σ'.set i none) H', ct := fun σ' H' => D.ct (σ'.set i none) H' }
namespace G
variable {ξ τ σ : Type}
/-- what follows a try's body -/
def tryK (b : ξ → Bool) (ms : ξ → G (Sum τ σ)) (mo : ξ → G τ) (k : σ → G τ) : Sum ξ (Sum τ σ) → G τ
  | .inl x => .ite (b x) ((ms x).on id k) (mo x)
  | .inr (.inl t) => .p t
  | .inr (.inr s) => k s
end G
section
variable {ξ ρ σ τ β α : Type} {K : PySem.W.Frag} {E : XK} {xd : ξ → XD} {o : ρ → O} {Rx : Rxt ρ} {env env0 : List Slot} {te : TE} {ta : TA} {t u : TS} {T : Ends → Prop} {Φ : Phi τ} {N : σ → List Slot} {W Wout : WX} {i : Nat} {c : Value}
    {tb : WX → TS} {ts : Addr → Value → Option Addr → TS} {b : ξ → Bool} {mb : G (Sum ξ (Sum τ σ))} {ms : ξ → G (Sum τ σ)} {mo : ξ → G τ} {k : σ → G τ}
/-- a try's body -/
def PT (K : PySem.W.Frag) (Φ : Phi τ) (W : WX) (env0 : List Slot) (xd : ξ → XD) (N : σ → List Slot) : Phi (Sum ξ (Sum τ σ)) := fun H0 H1 En v => match v with
  | .inl x => NxX K H0 H1 W env0 (xd x)
  | .inr (.inl t) => Φ H0 H1 En t
  | .inr (.inr s) => Nx K H0 H1 En.nx (N s)
theorem lv_try : Leaves K (PT K Φ W env0 xd N) W env0 xd (fun x => (.inl x : Sum ξ (Sum τ σ))) := fun H0 H1 En x h => h
theorem lv_sub {env' : List Slot} {w : ξ → τ} (s : Sub env env') (h : Leaves K Φ W env' xd w) : Leaves K Φ W env xd w := fun H0 H1 En x q => (h H0 H1 En x q).sub s
theorem pt_next {s : σ} (h : Sub env (N s)) : Blk K T (PT K Φ W env0 xd N) tNext env (.p (.inr (.inr s))) := fun H0 H1 En _ _ hΦ => nx_sub h hΦ
theorem pt_one {m : G β} {M : β → List Slot} {g : β → σ} (h : St K t env m M) (hs : ∀ s, Sub (M s) (N (g s))) : Blk K T (PT K Φ W env0 xd N) t env (m.b fun s => .p (.inr (.inr (g s)))) := fun H0 H1 En hT ok hΦ => h H0 H1 En ok.1 (nx_sub (hs _) hΦ)
theorem pt_exit {v : τ} (h : Blk K T Φ t env (.p v)) : Blk K T (PT K Φ W env0 xd N) t env (.p (.inr (.inl v))) := fun H0 H1 En hT ok hΦ => h H0 H1 En hT trivial hΦ
theorem State.setNo {H0 H1 B F : Hp} {σ : L2.St} {env : List Slot} (h : State K H0 H1 B F σ env) {j : Nat} (e : env[j]? = some .no) : State K H0 H1 B F (σ.set j none) env := by
  obtain ⟨Ps, v, n⟩ := h.ex
  refine ⟨h.gr, Ps, ⟨by rw [List.length_set]; exact v.len, fun q => ?_, v.dis, v.out⟩, n⟩
  by_cases z : q = j
  · subst z
    have := v.ok q
    rw [e] at this ⊢
    exact this
  · rw [List.getElem?_set_ne (Ne.symm z)]; exact v.ok q
/-- try: body, except X as e: suite -/
theorem xb_tryAs (ni : Ni Φ) (hw : ∀ H0 H1 En v, Φ H0 H1 En v → Φ H0 H1 (wipeEn i En) v) (hN : ∀ s, (N s)[i]? = some .no) (hb : ∀ W, Blk K TyA (PT K Φ W env0 xd N) (tb W) env mb)
    (hc : ∀ x, PySem.W.exmOne K (.ref (xcl (xd x))) c = some (b x)) (hs : ∀ x a d s, b x = true → SlotX (xd x) a d s → Blk K TyA (PM K Φ N) (ts a (.ref (xcl (xd x))) d) (env0.set i (.val s)) (ms x))
    (ho : ∀ x, b x = false → (mo x).ok → ∀ H0 H1 En, Φ H0 H1 En (mo x).val → NxX K H0 H1 Wout env0 (xd x)) (hk : ∀ s, Blk K T Φ u (N s) (k s)) :
    Blk K T Φ (tSeq (fun D σ H => tb (wAs K c i ts Wout D) D σ H) u) env (mb.b (G.tryK b ms mo k)) := fun H0 H1 En hT ok hΦ B F σ st => by
  have ok2 := ok.2
  have hΦ : Φ H0 H1 En (G.tryK b ms mo k mb.val).val := hΦ
  show tb (wAs K c i ts Wout { En with nx := u En }) { En with nx := u En } σ F
  refine hb _ H0 H1 { En with nx := u En } trivial ok.1 ?_ B F σ st
  cases hv : mb.val with
  | inl x =>
    rw [hv] at ok2 hΦ
    intro B F σ cls d st r
    have hcl := repX_cls r
    subst hcl
    refine ⟨b x, hc x, fun hbx a ha => ?_, fun hbx => ?_⟩
    · have ok3 := ok2.1 hbx
      have e : (G.tryK b ms mo k (.inl x)).val = ((ms x).on id k).val := by show (if b x = true then _ else _) = _; rw [if_pos hbx]
      rw [e] at hΦ
      obtain ⟨s, h1, h2⟩ := repX_slot r a
      refine hs x a d s hbx h1 H0 H1 (wipeEn i { En with nx := u En }) trivial ok3.1 ?_ B F _ (st.set h2)
      cases hm : (ms x).val with
      | inl v =>
        have e : ((ms x).on id k).val = v := by unfold G.on; simp only [hm]; rfl
        rw [e] at hΦ
        exact hw _ _ _ _ (ni _ _ _ _ _ hΦ)
      | inr s =>
        have e : ((ms x).on id k).val = (k s).val := by unfold G.on; simp only [hm]
        rw [e] at hΦ
        intro B F σ st
        exact hk s H0 H1 En hT (ok3.2 s hm) hΦ B F _ (st.setNo (hN s))
    · have e : (G.tryK b ms mo k (.inl x)).val = (mo x).val := by show (if b x = true then _ else _) = _; rw [if_neg (by rw [hbx]; decide)]
      rw [e] at hΦ
      exact ho x hbx (ok2.2 hbx) H0 H1 En hΦ B F σ _ d st r
  | inr v =>
    rw [hv] at ok2 hΦ
    cases v with
    | inl v => exact ni _ _ _ _ _ hΦ
    | inr s => exact fun B F σ st => hk s H0 H1 En hT ok2 hΦ B F σ st
/-- try: body, except X: suite -/
theorem xb_try (ni : Ni Φ) (hb : ∀ W, Blk K TyA (PT K Φ W env0 xd N) (tb W) env mb)
    (hc : ∀ x, PySem.W.exmOne K (.ref (xcl (xd x))) c = some (b x)) (hs : ∀ x a d, b x = true → Blk K TyA (PM K Φ N) (ts a (.ref (xcl (xd x))) d) env0 (ms x))
    (ho : ∀ x, b x = false → (mo x).ok → ∀ H0 H1 En, Φ H0 H1 En (mo x).val → NxX K H0 H1 Wout env0 (xd x)) (hk : ∀ s, Blk K T Φ u (N s) (k s)) :
    Blk K T Φ (tSeq (fun D σ H => tb (wOnly K c ts Wout D) D σ H) u) env (mb.b (G.tryK b ms mo k)) := fun H0 H1 En hT ok hΦ B F σ st => by
  have ok2 := ok.2
  have hΦ : Φ H0 H1 En (G.tryK b ms mo k mb.val).val := hΦ
  show tb (wOnly K c ts Wout { En with nx := u En }) { En with nx := u En } σ F
  refine hb _ H0 H1 { En with nx := u En } trivial ok.1 ?_ B F σ st
  cases hv : mb.val with
  | inl x =>
    rw [hv] at ok2 hΦ
    intro B F σ cls d st r
    have hcl := repX_cls r
    subst hcl
    refine ⟨b x, hc x, fun hbx a ha => ?_, fun hbx => ?_⟩
    · have ok3 := ok2.1 hbx
      have e : (G.tryK b ms mo k (.inl x)).val = ((ms x).on id k).val := by show (if b x = true then _ else _) = _; rw [if_pos hbx]
      rw [e] at hΦ
      refine hs x a d hbx H0 H1 { En with nx := u En } trivial ok3.1 ?_ B F _ st
      cases hm : (ms x).val with
      | inl v =>
        have e : ((ms x).on id k).val = v := by unfold G.on; simp only [hm]; rfl
        rw [e] at hΦ
        exact ni _ _ _ _ _ hΦ
      | inr s =>
        have e : ((ms x).on id k).val = (k s).val := by unfold G.on; simp only [hm]
        rw [e] at hΦ
        exact fun B F σ st => hk s H0 H1 En hT (ok3.2 s hm) hΦ B F σ st
    · have e : (G.tryK b ms mo k (.inl x)).val = (mo x).val := by show (if b x = true then _ else _) = _; rw [if_neg (by rw [hbx]; decide)]
      rw [e] at hΦ
      exact ho x hbx (ok2.2 hbx) H0 H1 En hΦ B F σ _ d st r
  | inr v =>
    rw [hv] at ok2 hΦ
    cases v with
    | inl v => exact ni _ _ _ _ _ hΦ
    | inr s => exact fun B F σ st => hk s H0 H1 En hT ok2 hΦ B F σ st
theorem hw_r : ∀ H0 H1 En v, PR K o H0 H1 En v → PR K o H0 H1 (wipeEn i En) v := fun _ _ _ _ h => h
theorem hw_rx : ∀ H0 H1 En v, PRx Rx H0 H1 En v → PRx Rx H0 H1 (wipeEn i En) v := fun _ _ _ _ h => h
end
end Y

/-! X22: own operators: x + y, x * n, ~x, x == y by the text's __add__, __mul__, __invert__, __eq__. -/
namespace Y
open PySem PySem.Spec PyProof.Rows L2
/-- no NotImplemented -/
def NoNi : V → Prop
  | .ref _ => True | .bl _ => True | .int _ => True | .str _ => True | .non => True | _ => False
theorem noNi_back {v : V} {u : Value} {s : Shared} {Q : Value → Shared → Prop} (h : NoNi v) (r : RelV v u) (q : Q u s) : PySem.W.CmpBack Q u s := by
  cases v with
  | ref a => obtain rfl : u = .ref a := r; exact q
  | bl b => obtain rfl : u = .bool b := r; exact q
  | int i => obtain ⟨t, rfl⟩ : ∃ t, u = .int i t := r; exact q
  | str i => obtain ⟨t, rfl⟩ : ∃ t, u = .str i t := r; exact q
  | non => obtain rfl : u = .none := r; exact q
  | _ => exact h.elim
/-- the class at C has the method m, a def at f of this text -/
structure OpOf (K : PySem.W.Frag) (C : Addr) (m : Str) (f : Addr) : Prop where
  at_ : PySem.W.findIn K (.ref C) m = some (some (.ref f))
  fn : PySem.W.isFn K (.ref f) = true
  first : PySem.W.selfFirst K C = true
section
variable {X : Cx} {CX : CXT} {k : Nat} {C f : Addr} {fd : FuncData} {ps : List Str} {sp : Sp} {E : XK}
theorem own_run {pins : List (Addr × Obj)} {σ : L2.St} {H : Hp} {s : Shared} {Q : VK} {us : List Value} {vs : List V} (F : FnOk X.prog X.w X.K X.mg X.base CX k f fd ps sp) (hr : Room k X.A) (hb : Binds X.K fd ps []) (hx : Passes CX X E)
    (I : Inv X pins σ H s) (r : Vals vs us) (h : sp vs H (fun v H' => NoNi v ∧ Q v H') E) : wpAny (model X.prog X.w) X.A (call (.ref f) us) (PySem.W.CmpBack (EP X pins σ Q)) X.xe s := by
  refine thn (run_fn (dvs := []) F hr hb .nil hx I r (by rw [List.append_nil]; exact h)) fun u s' z => ?_
  obtain ⟨v, H', J, rv, n, q⟩ := z
  exact noNi_back n rv ⟨v, H', J, rv, q⟩
/-- x op y, both of the class at C -/
def rOwnC (C : Addr) (sp : Sp) (E : XK) : L2.R2 := fun x y H Q => ∃ a dx fs b dy gs, x = .ref a ∧ y = .ref b ∧ H a = some (.ins C dx fs) ∧ H b = some (.ins C dy gs) ∧ sp [x, y] H (fun v H' => NoNi v ∧ Q v H') E
theorem op_ownC {op : Operator} (O : OpOf X.K C (PySem.dunder op.info.2) f) (F : FnOk X.prog X.w X.K X.mg X.base CX k f fd ps sp) (hr : Room k X.A) (hb : Binds X.K fd ps []) (hx : Passes CX X E) : OpR X (binaryOp op) (rOwnC C sp E) := by
  intro pins s σ H x y v u Q I rx ry hq
  obtain ⟨a, dx, fs, b, dy, gs, rfl, rfl, ha, hb', h⟩ := hq
  obtain rfl : v = .ref a := rx
  obtain rfl : u = .ref b := ry
  obtain ⟨mA, J, _⟩ := ins_get I.hok ha
  obtain ⟨mB, J', _⟩ := ins_get I.hok hb'
  obtain ⟨od, J, _⟩ := J.look
  obtain ⟨od', J', _⟩ := J'.look
  obtain ⟨m, hF⟩ := I.fr
  exact PySem.W.binop_K hF I.ok.mod.kin J J'.type O.first O.at_ O.fn (own_run (vs := [.ref a, .ref b]) F hr hb hx I (.cons rfl (.cons rfl .nil)) h)
/-- x op n, n an int -/
def rOwnI (C : Addr) (sp : Sp) (E : XK) : L2.R2 := fun x y H Q => ∃ a dx fs n, x = .ref a ∧ y = .int n ∧ H a = some (.ins C dx fs) ∧ sp [x, y] H (fun v H' => NoNi v ∧ Q v H') E
theorem op_ownI {op : Operator} {fo ro : Option Value} (O : OpOf X.K C (PySem.dunder op.info.2) f) (hro : PySem.W.findIn X.K (.ref C) (PySem.dunderR op.info.2) = some none) (h1 : PySem.W.findIn X.K (.type "int") (PySem.dunder op.info.2) = some fo) (h2 : PySem.W.findIn X.K (.type "int") (PySem.dunderR op.info.2) = some ro) (hsub : PySem.W.subIn X.K (.type "int") (.ref C) = some false)
    (F : FnOk X.prog X.w X.K X.mg X.base CX k f fd ps sp) (hr : Room k X.A) (hb : Binds X.K fd ps []) (hx : Passes CX X E) : OpR X (binaryOp op) (rOwnI C sp E) := by
  intro pins s σ H x y v u Q I rx ry hq
  obtain ⟨a, dx, fs, n, rfl, rfl, ha, h⟩ := hq
  obtain rfl : v = .ref a := rx
  obtain ⟨t, rfl⟩ : ∃ t, u = .int n t := ry
  obtain ⟨mA, J, _⟩ := ins_get I.hok ha
  obtain ⟨od, J, _⟩ := J.look
  obtain ⟨m, hF⟩ := I.fr
  exact PySem.W.ksp_binT hF I.ok.mod.kin J rfl O.first O.at_ O.fn hro (.inl rfl) h1 h2 hsub (own_run (vs := [.ref a, .int n]) F hr hb hx I (.cons rfl (.cons (show L2.RelV (.int n) (.int n t) from ⟨t, rfl⟩) .nil)) h)
/-- ~x -/
def rOwnU (C : Addr) (sp : Sp) (E : XK) : V → Hp → VK → Prop := fun x H Q => ∃ a dx fs, x = .ref a ∧ H a = some (.ins C dx fs) ∧ sp [x] H Q E
theorem un_ownInv (O : OpOf X.K C "__invert__" f) (F : FnOk X.prog X.w X.K X.mg X.base CX k f fd ps sp) (hr : Room k X.A) (hb : Binds X.K fd ps []) (hx : Passes CX X E) : UnR X (unaryOp .Invert) (rOwnU C sp E) := by
  intro pins s σ H x v Q I rx hq
  obtain ⟨a, dx, fs, rfl, ha, h⟩ := hq
  obtain rfl : v = .ref a := rx
  obtain ⟨mA, J, _⟩ := ins_get I.hok ha
  obtain ⟨od, J, _⟩ := J.look
  obtain ⟨m, hF⟩ := I.fr
  exact PySem.W.ksp_inv hF I.ok.mod.kin J O.at_ O.fn (run_fn (dvs := []) (us := [.ref a]) (vs := [.ref a]) F hr hb .nil hx I (.cons rfl .nil) (by rw [List.append_nil]; exact h))
/-- what may stand to the right of == -/
def TyOk (K : PySem.W.Frag) (C : Addr) (y : V) (H : Hp) : Prop := (∃ b dy gs, y = .ref b ∧ H b = some (.ins C dy gs)) ∨ (∃ T, (∀ u, RelV y u → typeOf u = pure (.type T)) ∧ PySem.W.subIn K (.type T) (.ref C) = some false) ∨
  (∃ b xs, y = .ref b ∧ H b = some (.lst xs) ∧ PySem.W.subIn K (.type "list") (.ref C) = some false) ∨ (∃ b xs, y = .ref b ∧ H b = some (.tup xs) ∧ PySem.W.subIn K (.type "tuple") (.ref C) = some false)
/-- x == y, x of the class at C -/
def rOwnEq (K : PySem.W.Frag) (C : Addr) (sp : Sp) (E : XK) : L2.R2 := fun x y H Q => ∃ a dx fs, x = .ref a ∧ H a = some (.ins C dx fs) ∧ TyOk K C y H ∧ sp [x, y] H (fun v H' => NoNi v ∧ Q v H') E
theorem tup_type {s : Shared} {a : Addr} {T : String} {M : Model} {o : Obj} (h : s.heap.get? a = some o) (hc : o.cls = .type T) : PySem.W.Looks M s.heap (typeOf (.ref a)) (.type T) := hc ▸ (PySem.W.Looks.ld h).andThen .now
theorem op_ownEq (O : OpOf X.K C "__eq__" f) (hu : X.A.units < cLine) (F : FnOk X.prog X.w X.K X.mg X.base CX k f fd ps sp) (hr : Room k X.A) (hb : Binds X.K fd ps []) (hx : Passes CX X E) : OpR X (compareOp .Eq) (rOwnEq X.K C sp E) := by
  intro pins s σ H x y v u Q I rx ry hq
  obtain ⟨a, dx, fs, rfl, ha, ty, h⟩ := hq
  obtain rfl : v = .ref a := rx
  obtain ⟨mA, J, _⟩ := ins_get I.hok ha
  obtain ⟨od, J, _⟩ := J.look
  obtain ⟨m, hF⟩ := I.fr
  show wpAny (model X.prog X.w) X.A (richCompare .Eq (.ref a) u) (EP X pins σ Q) X.xe s
  have go : ∀ tb, PySem.W.Looks (model X.prog X.w) s.heap (typeOf u) tb → PySem.W.notFirst X.K C tb = true → wpAny (model X.prog X.w) X.A (richCompare .Eq (.ref a) u) (EP X pins σ Q) X.xe s := fun tb hT hn =>
    PySem.W.cmp_K (op := .Eq) (tb := tb) hu hF I.ok.mod.kin J hT hn O.at_ O.fn (own_run (vs := [.ref a, y]) F hr hb hx I (.cons rfl (.cons ry .nil)) h)
  rcases ty with ⟨b, dy, gs, rfl, hy⟩ | ⟨T, hT, hs⟩ | ⟨b, xs, rfl, hy, hs⟩ | ⟨b, xs, rfl, hy, hs⟩
  · obtain rfl : u = .ref b := ry
    obtain ⟨mB, J', _⟩ := ins_get I.hok hy
    obtain ⟨od', J', _⟩ := J'.look
    exact go (.ref C) J'.type (by simp [PySem.W.notFirst])
  · refine go (.type T) ?_ (by simp [PySem.W.notFirst, hs])
    rw [hT u ry]; exact .now
  · obtain rfl : u = .ref b := ry
    obtain ⟨_, its, n, _, h1⟩ := (show ObjOk X.prog X.w H s.heap b (.lst xs) from I.hok b _ hy)
    exact go (.type "list") (tup_type h1 rfl) (by simp [PySem.W.notFirst, hs])
  · obtain rfl : u = .ref b := ry
    obtain ⟨_, its, _, h1⟩ := (show ObjOk X.prog X.w H s.heap b (.tup xs) from I.hok b _ hy)
    obtain ⟨o, h0, h1, _⟩ := h1
    exact go (.type "tuple") (tup_type h0 h1) (by simp [PySem.W.notFirst, hs])
end

/-! over data -/
def NoNiO (o : O) : Prop := ∀ (K : PySem.W.Frag) (B F : Hp) (x : V) (P : Fp), Own K B F o x P → NoNi x
theorem nno_ins {C : Addr} {ns : List Str} {ds : List D} : NoNiO (.fr (.ins C ns ds)) := fun K B F x P h => by
  unfold Own Rep at h
  obtain ⟨⟨a, dx, vs, rfl, _⟩, _⟩ := h
  trivial
theorem nno_bl {b : Bool} : NoNiO (.fr (.bl b)) := fun K B F x P h => by
  unfold Own Rep at h
  obtain ⟨rfl, _⟩ := h
  trivial
theorem nno_int {b : Int} : NoNiO (.fr (.int b)) := fun K B F x P h => by
  unfold Own Rep at h
  obtain ⟨rfl, _⟩ := h
  trivial
theorem nno_ow {k : Ob} {os : List O} : NoNiO (.ow k os) := fun K B F x P h => by
  unfold Own at h
  obtain ⟨p, u, vs, P', rfl, _⟩ := h
  trivial
section
variable {K : PySem.W.Frag} {env : List Slot} {ta tb : TE} {C : Addr} {ns ns' : List Str} {ds ds' : List D} {E : XK} {R : List D → O → Prop} {ρ : Type} {m : G ρ} {o : ρ → O}
theorem ins_at {B F : Hp} {x : V} (s : Same B F) (r : Rep K B (.ins C ns ds) x) : ∃ a dx fs, x = .ref a ∧ F a = some (.ins C dx fs) := by
  unfold Rep at r
  obtain ⟨a, dx, vs, rfl, h, _⟩ := r
  exact ⟨a, dx, _, rfl, s _ _ h⟩
theorem xo_ownC (h1 : EvE K ta env (.ins C ns ds)) (h2 : EvE K tb env (.ins C ns' ds')) (hn : m.ok → NoNiO (o m.val)) (hr : m.ok → R [.ins C ns ds, .ins C ns' ds'] (o m.val)) : XO K (tOp (rOwnC C (spX K R) E) ta tb) env m o := fun ok B F σ s v Q q =>
  h1 B F σ s v _ fun B1 F1 x g1 r1 => h2 B1 F1 σ g1.f (v.grow g1) _ fun B2 F2 y g2 r2 => by
    have rx := r1.mono g2.b
    obtain ⟨a, dx, fs, ea, ha⟩ := ins_at g2.f rx
    obtain ⟨b, dy, gs, eb, hb⟩ := ins_at g2.f r2
    refine ⟨a, dx, fs, b, dy, gs, ea, eb, ha, hb, B2, [.ins C ns ds, .ins C ns' ds'], _, g2.f, Reps.cons rx (Reps.cons r2 Reps.nil), hr ok, fun B' F' z P g w p => ⟨hn ok K B' F' z P w, ?_⟩⟩
    exact q B' F' z P ((g1.trans g2).trans g) w fun c hc => ⟨(g1.trans g2).s.free (p c hc).1, (p c hc).2⟩
theorem xo_ownI {n : Int} (h1 : EvE K ta env (.ins C ns ds)) (h2 : EvE K tb env (.int n)) (hn : m.ok → NoNiO (o m.val)) (hr : m.ok → R [.ins C ns ds, .int n] (o m.val)) : XO K (tOp (rOwnI C (spX K R) E) ta tb) env m o := fun ok B F σ s v Q q =>
  h1 B F σ s v _ fun B1 F1 x g1 r1 => h2 B1 F1 σ g1.f (v.grow g1) _ fun B2 F2 y g2 r2 => by
    have rx := r1.mono g2.b
    obtain ⟨a, dx, fs, ea, ha⟩ := ins_at g2.f rx
    refine ⟨a, dx, fs, n, ea, by unfold Rep at r2; exact r2, ha, B2, [.ins C ns ds, .int n], _, g2.f, Reps.cons rx (Reps.cons r2 Reps.nil), hr ok, fun B' F' z P g w p => ⟨hn ok K B' F' z P w, ?_⟩⟩
    exact q B' F' z P ((g1.trans g2).trans g) w fun c hc => ⟨(g1.trans g2).s.free (p c hc).1, (p c hc).2⟩
theorem xo_ownU (h1 : EvE K ta env (.ins C ns ds)) (hr : m.ok → R [.ins C ns ds] (o m.val)) : XO K (tUn (rOwnU C (spX K R) E) ta) env m o := fun ok B F σ s v Q q =>
  h1 B F σ s v _ fun B1 F1 x g1 rx => by
    obtain ⟨a, dx, fs, ea, ha⟩ := ins_at g1.f rx
    refine ⟨a, dx, fs, ea, ha, B1, [.ins C ns ds], _, g1.f, Reps.cons rx Reps.nil, hr ok, fun B' F' z P g w p => ?_⟩
    exact q B' F' z P (g1.trans g) w fun c hc => ⟨g1.s.free (p c hc).1, (p c hc).2⟩
/-- data that may stand to the right of an own == -/
def EqOk (K : PySem.W.Frag) (C : Addr) (d : D) : Prop := ∀ (B F : Hp) (x : V), Same B F → Rep K B d x → TyOk K C x F
theorem eqok_ins : EqOk K C (.ins C ns ds) := fun B F x s r => by
  obtain ⟨a, dx, fs, ea, ha⟩ := ins_at s r
  exact .inl ⟨a, dx, fs, ea, ha⟩
theorem eqok_non (h : PySem.W.subIn K (.type "NoneType") (.ref C) = some false) : EqOk K C .non := fun B F x s r => by
  unfold Rep at r; subst r
  exact .inr (.inl ⟨"NoneType", fun u hu => by obtain rfl : u = .none := hu; rfl, h⟩)
theorem eqok_int {n : Int} (h : PySem.W.subIn K (.type "int") (.ref C) = some false) : EqOk K C (.int n) := fun B F x s r => by
  unfold Rep at r; subst r
  exact .inr (.inl ⟨"int", fun u hu => by obtain ⟨t, rfl⟩ : ∃ t, u = .int n t := hu; rfl, h⟩)
theorem eqok_str {n : Str} (h : PySem.W.subIn K (.type "str") (.ref C) = some false) : EqOk K C (.str n) := fun B F x s r => by
  unfold Rep at r; subst r
  exact .inr (.inl ⟨"str", fun u hu => by obtain ⟨t, rfl⟩ : ∃ t, u = .str n t := hu; rfl, h⟩)
theorem xo_ownEq {d : D} (h1 : EvE K ta env (.ins C ns ds)) (h2 : EvE K tb env d) (he : EqOk K C d) (hn : m.ok → NoNiO (o m.val)) (hr : m.ok → R [.ins C ns ds, d] (o m.val)) : XO K (tOp (rOwnEq K C (spX K R) E) ta tb) env m o := fun ok B F σ s v Q q =>
  h1 B F σ s v _ fun B1 F1 x g1 r1 => h2 B1 F1 σ g1.f (v.grow g1) _ fun B2 F2 y g2 r2 => by
    have rx := r1.mono g2.b
    obtain ⟨a, dx, fs, ea, ha⟩ := ins_at g2.f rx
    refine ⟨a, dx, fs, ea, ha, he B2 F2 y g2.f r2, B2, [.ins C ns ds, d], _, g2.f, Reps.cons rx (Reps.cons r2 Reps.nil), hr ok, fun B' F' z P g w p => ⟨hn ok K B' F' z P w, ?_⟩⟩
    exact q B' F' z P ((g1.trans g2).trans g) w fun c hc => ⟨(g1.trans g2).s.free (p c hc).1, (p c hc).2⟩
end
end Y

/-! X23: dicts that are walked: locked for good. -/
namespace Y
open PySem PySem.Spec PyProof.Rows L2
/-- the dict in slot i is locked -/
def tLk (i : Nat) (t : TS) : TS := fun D σ H => ∃ d u, σ[i]? = some (some (.ref d)) ∧ H d = some u ∧ Mut (some u) ∧ ∀ od, t D σ (upd H d (.frz od u))
theorem pss_lk {X : Cx} {sts : List Stmt} {i : Nat} {t : TS} (h : PSs X sts t) : PSs X sts (tLk i t) := by
  refine ⟨fun pins s σ H D I hw => ?_⟩
  obtain ⟨d, u, hs, hd, mu, hw⟩ := hw
  obtain ⟨od, I1⟩ := I.lock hd mu
  exact h.run pins s σ _ D I1 (hw od)
section
variable {K : PySem.W.Frag} {H0 H1 B F : Hp} {σ : L2.St} {env : List Slot} {i : Nat}
theorem lock_state {os : List O} {k : Ob} {d : D} {p : Addr} {u' : HO} (st : State K H0 H1 B F σ env) (e : env[i]? = some (.own (.ow k os))) (hx0 : σ[i]? = some (some (.ref p))) (hos : ∀ vs P, Owns K B F os vs P → ∀ a, ¬ P a)
    (r : B p = none → Rep K (upd B p u') d (.ref p)) : State K H0 H1 (upd B p u') (upd F p u') σ (env.set i (.val d)) := by
  obtain ⟨Ps, v, n⟩ := st.ex
  obtain ⟨x, hx, ow⟩ := v.own i _ e
  rw [hx0] at hx
  cases hx
  unfold Own at ow
  obtain ⟨p1, u, vs, P', hp1, hF, hu, hos', hP, hPs⟩ := ow
  cases hp1
  have hPe : ∀ a, Ps i a ↔ a = p := fun a => by
    rw [hPs a]
    exact ⟨fun h => h.elim id fun h => absurd h (hos _ _ hos' a), .inl⟩
  have pB : B p = none := v.out i p ((hPe p).2 rfl)
  have pH1 : H1 p = none := n i p ((hPe p).2 rfl)
  have sB : Same B (upd B p u') := same_new pB
  have hl : i < env.length := (List.getElem?_eq_some_iff.mp e).1
  have np := VsP.put v i (.val d) (some (.ref p)) (fun _ => False) (B' := upd B p u') (F' := upd F p u') sB (fun j a hj ha => by
    have : a ≠ p := fun z => v.dis j i a hj ha ((hPe a).2 z)
    rw [upd_ne this]) (by
    show (∃ x, some (some (V.ref p)) = some (some x) ∧ Rep K (upd B p u') d x) ∧ ∀ a, ¬ False
    exact ⟨⟨_, rfl, r pB⟩, fun _ h => h⟩) (fun j a hj ha h => h) (fun j a hj ha => by
    have : a ≠ p := fun z => v.dis j i a hj ha ((hPe a).2 z)
    rw [upd_ne this]; exact v.out j a ha) (fun a h => h.elim)
  rw [set_same hx0] at np
  refine ⟨⟨st.gr.b.trans sB, same_upd2 st.gr.f pB, fun a o ha => ?_, fun a h1 h2 => ?_⟩, _, np, fun j a ha => ?_⟩
  · rw [upd_ne (ne_of_none ha pH1)]; exact st.gr.s _ _ ha
  · by_cases z : a = p
    · subst z; exact pH1
    · rw [upd_ne z] at h1; exact st.gr.n a h1 h2
  · by_cases z : j = i
    · subst z
      rw [if_pos rfl, if_pos hl] at ha
      exact ha.elim
    · rw [if_neg z] at ha; exact n j a ha
theorem owns_fr_none : ∀ {ds : List D} {vs : List V} {P : Fp}, Owns K B F (ds.map O.fr) vs P → Reps K B ds vs ∧ ∀ a, ¬ P a := fun h => Owns.frs h
end
section
variable {κ α τ : Type} {K : PySem.W.Frag} {env : List Slot} {T : Ends → Prop} {Φ : Phi τ} {t : TS} {i : Nat} {m : G τ}
/-- a locked dict -/
abbrev eKz (kk : κ → Key) (e : α → D) : List (κ × α) → D := fun d => .dicz (d.map fun q => kk q.1) (d.map fun q => e q.2)
theorem xb_lock {kk : κ → Key} {e : α → D} {d : List (κ × α)} (he : env[i]? = some (.own (oK kk e d))) (h : Blk K T Φ t (env.set i (.val (eKz kk e d))) m) : Blk K T Φ (tLk i t) env m := fun H0 H1 En hT ok hΦ B F σ st => by
  have he' : env[i]? = some (.own (.ow (.dic (d.map fun q => kk q.1)) ((d.map fun q => e q.2).map .fr))) := by
    exact he
  obtain ⟨Ps, v, n⟩ := st.ex
  obtain ⟨x, hx, ow⟩ := v.own i _ he'
  unfold Own at ow
  obtain ⟨p, u, vs, P', rfl, hF, hu, hos', hP, hPs⟩ := ow
  obtain ⟨hl, rfl⟩ := hu
  refine ⟨p, _, hx, hF, trivial, fun od => ?_⟩
  refine h H0 H1 En hT ok hΦ _ _ σ (lock_state (d := eKz kk e d) (u' := .frz od (.dK ((d.map fun q => kk q.1).zip vs))) st he' hx (fun vs P h => (Owns.frs h).2) fun pB => ?_)
  show Rep K _ (.dicz _ _) _
  unfold Rep
  exact ⟨p, od, vs, rfl, upd_same, by simp, (Owns.frs hos').1.mono (same_new pB)⟩
end

section
variable {κ α : Type} {K : PySem.W.Frag} {env : List Slot} {te : TE} {kk : κ → Key} {e : α → D} {d : List (κ × α)}
theorem kz_rep {B : Hp} {x : V} (r : Rep K B (eKz kk e d) x) : ∃ a o vs, x = .ref a ∧ B a = some (.frz o (.dK ((d.map fun q => kk q.1).zip vs))) ∧ (d.map fun q => kk q.1).length = (d.map fun q => e q.2).length ∧ Reps K B (d.map fun q => e q.2) vs := by
  have r : Rep K B (.dicz _ _) x := r
  unfold Rep at r; exact r
theorem rep_kD {H : Hp} (k : Key) : Rep K H (kD k) (kV k) := by cases k <;> (unfold kD Rep; rfl)
/-- a locked dict is a dict -/
theorem ee_unz (h : EvE K te env (eKz kk e d)) : EvE K te env (eK kk e d) := fun B F σ s v Q q => h B F σ s v _ fun B1 F1 x g r => q B1 F1 x g (by
  obtain ⟨a, o, vs, rfl, h1, h2, h3⟩ := kz_rep r
  show Rep K B1 (.dic _ _) _
  unfold Rep
  exact ⟨a, vs, rfl, .inr ⟨o, h1⟩, h2, h3⟩)
theorem zip_getD {β γ : Type} {xs : List β} {ys : List γ} {i : Nat} {k : β} {v : γ} (h : (xs.zip ys)[i]? = some (k, v)) : xs[i]? = some k ∧ ys[i]? = some v := by
  rw [List.getElem?_zip_eq_some] at h
  exact h
theorem zip_len_of {β γ : Type} {xs : List β} {ys : List γ} (h : xs.length = ys.length) : (xs.zip ys).length = xs.length := by rw [List.length_zip, h]; omega
/-- for k in d -/
theorem ei_keysZ (h : EvE K te env (eKz kk e d)) : EvI K (iKeys te) env (d.map fun q => kD (kk q.1)) := fun B F σ hs vs R q => h B F σ hs vs _ fun B1 F1 x g r => by
  obtain ⟨a, o, ws, rfl, h1, h2, h3⟩ := kz_rep r
  have hl := zip_len_of (xs := d.map fun q => kk q.1) (ys := ws) (by rw [h3.len, h2])
  refine ⟨a, o, rfl, .inl ⟨_, g.f _ _ h1, q B1 F1 _ g ⟨fun F => F a = some (.frz o (.dK ((d.map fun q => kk q.1).zip ws))), fun i H x H' => H' = H ∧ ∃ k v, ((d.map fun q => kk q.1).zip ws)[i]? = some (k, v) ∧ x = kV k, ?_, fun F hF => hF _ _ h1, fun i B2 F2 x F3 s1 s2 y => ?_⟩⟩⟩
  · have := walk_keys (d := a) (o := o) (kvs := (d.map fun q => kk q.1).zip ws)
    rw [hl] at this
    simpa using this
  · obtain ⟨rfl, k, v, ey, rfl⟩ := y
    obtain ⟨e1, e2⟩ := zip_getD ey
    rw [List.getElem?_map] at e1
    cases hd : d[i]? with
    | none => rw [hd] at e1; cases e1
    | some z =>
      rw [hd] at e1; cases e1
      refine ⟨B2, kD (kk z.1), Gr.refl s2, by rw [List.getElem?_map, hd]; rfl, ?_⟩
      exact rep_kD _
/-- for v in d.values() -/
theorem ei_valsZ (h : EvE K te env (eKz kk e d)) : EvI K (iVals te) env (d.map fun q => e q.2) := fun B F σ hs vs R q => h B F σ hs vs _ fun B1 F1 x g r => by
  obtain ⟨a, o, ws, rfl, h1, h2, h3⟩ := kz_rep r
  have hl := zip_len_of (xs := d.map fun q => kk q.1) (ys := ws) (by rw [h3.len, h2])
  refine ⟨a, o, _, rfl, g.f _ _ h1, q B1 F1 _ g ⟨fun F => F a = some (.frz o (.dK ((d.map fun q => kk q.1).zip ws))), fun i H x H' => H' = H ∧ ∃ k, ((d.map fun q => kk q.1).zip ws)[i]? = some (k, x), ?_, fun F hF => hF _ _ h1, fun i B2 F2 x F3 s1 s2 y => ?_⟩⟩
  · have := walk_values (d := a) (o := o) (kvs := (d.map fun q => kk q.1).zip ws)
    rw [hl] at this
    simpa using this
  · obtain ⟨rfl, k, ey⟩ := y
    obtain ⟨e1, e2⟩ := zip_getD ey
    obtain ⟨z, hz1, hz2⟩ : ∃ z, (d.map fun q => e q.2)[i]? = some z ∧ Rep K B1 z x := by
      have hi : i < (d.map fun q => e q.2).length := by rw [← h3.len]; exact (List.getElem?_eq_some_iff.mp e2).1
      obtain ⟨w, e3, e4⟩ := h3.get (List.getElem?_eq_getElem hi)
      rw [e2] at e3; cases e3
      exact ⟨_, List.getElem?_eq_getElem hi, e4⟩
    exact ⟨B2, z, Gr.refl s2, hz1, hz2.mono s1⟩
/-- for k, v in d.items() -/
theorem ei_itemsZ (h : EvE K te env (eKz kk e d)) : EvI K (iItems te) env (d.map fun q => D.tup [kD (kk q.1), e q.2]) := fun B F σ hs vs R q => h B F σ hs vs _ fun B1 F1 x g r => by
  obtain ⟨a, o, ws, rfl, h1, h2, h3⟩ := kz_rep r
  have hl := zip_len_of (xs := d.map fun q => kk q.1) (ys := ws) (by rw [h3.len, h2])
  refine ⟨a, o, _, rfl, g.f _ _ h1, q B1 F1 _ g ⟨fun F => F a = some (.frz o (.dK ((d.map fun q => kk q.1).zip ws))), YPair (fun i => ((d.map fun q => kk q.1).zip ws)[i]?.map fun kv => kV kv.1) (fun i => ((d.map fun q => kk q.1).zip ws)[i]?.map Prod.snd), ?_, fun F hF => hF _ _ h1, fun i B2 F2 x F3 s1 s2 y => ?_⟩⟩
  · have := walk_items (d := a) (o := o) (kvs := (d.map fun q => kk q.1).zip ws)
    rw [hl] at this
    simpa using this
  · obtain ⟨T, x1, y1, rfl, hT, rfl, e1, e2⟩ := y
    dsimp only at e1 e2
    cases hz : ((d.map fun q => kk q.1).zip ws)[i]? with
    | none => rw [hz] at e1; cases e1
    | some kv =>
      rw [hz] at e1 e2
      cases e1; cases e2
      obtain ⟨f1, f2⟩ := zip_getD (show ((d.map fun q => kk q.1).zip ws)[i]? = some (kv.1, kv.2) from hz)
      rw [List.getElem?_map] at f1
      cases hd : d[i]? with
      | none => rw [hd] at f1; cases f1
      | some z =>
        rw [hd] at f1
        have f1 : kk z.1 = kv.1 := by simpa using f1
        have hi : i < (d.map fun q => e q.2).length := by rw [← h3.len]; exact (List.getElem?_eq_some_iff.mp f2).1
        obtain ⟨w, e3, e4⟩ := h3.get (List.getElem?_eq_getElem hi)
        rw [f2] at e3; cases e3
        have ez : (d.map fun q => e q.2)[i] = e z.2 := by
          have := List.getElem?_eq_getElem hi
          rw [List.getElem?_map, hd] at this
          simpa using this.symm
        rw [ez] at e4
        have hT2 : B2 T = none := s2.free hT
        refine ⟨upd B2 T (.tup [kV kv.1, kv.2]), D.tup [kD (kk z.1), e z.2], Gr.new s2 hT, by rw [List.getElem?_map, hd]; rfl, ?_⟩
        refine rep_new_tup hT2 (Reps.cons ?_ (Reps.cons (e4.mono s1) Reps.nil))
        rw [← f1]; exact rep_kD _
end
/-! ### walking a dict that was just made -/
/-- for k in e, e a new dict -/
def iKeysN (td : TE) : TI := fun σ H R => td σ H fun x H1 => ∃ d kvs, x = .ref d ∧ H1 d = some (.dK kvs) ∧ ∀ o, R (Itk d o kvs) (upd H1 d (.frz o (.dK kvs)))
def iValsN (td : TE) : TI := fun σ H R => td σ H fun x H1 => ∃ d kvs, x = .ref d ∧ H1 d = some (.dK kvs) ∧ ∀ o, R (Itd d o kvs) (upd H1 d (.frz o (.dK kvs)))
def iItemsN (td : TE) : TI := fun σ H R => td σ H fun x H1 => ∃ d kvs, x = .ref d ∧ H1 d = some (.dK kvs) ∧ ∀ o, R (Iti d o kvs) (upd H1 d (.frz o (.dK kvs)))
def tLkT (te : TE) : TE := fun σ H Q => te σ H fun x H1 => ∃ d u, x = .ref d ∧ H1 d = some u ∧ Mut (some u) ∧ ∀ o, Q x (upd H1 d (.frz o u))
/-- a new thing, locked at once -/
theorem pe_lkT {X : Cx} {e : Expr} {te : TE} (h : PE X e te) : PE X e (tLkT te) := by
  refine ⟨fun pins s σ H Q I hw => ?_⟩
  refine thn (h.run pins s σ H _ I hw) fun u s1 ⟨x, H1, I1, rx, d, v, ex, hd, mu, q⟩ => ?_
  obtain ⟨od, I2⟩ := I1.lock hd mu
  exact ⟨x, _, I2, rx, q od⟩
section
variable {κ α : Type} {K : PySem.W.Frag} {env : List Slot} {te : TE} {kk : κ → Key} {e : α → D} {d : List (κ × α)}
/-- a new dict, locked -/
theorem ee_lkT (h : EvX K te env (oK kk e d)) : EvE K (tLkT te) env (eKz kk e d) := fun B F σ s v Q q => h B F σ s v _ fun B1 F1 x P g ow p => by
  have ow : Own K B1 F1 (.ow (.dic (d.map fun q => kk q.1)) ((d.map fun q => e q.2).map .fr)) x P := ow
  unfold Own at ow
  obtain ⟨a, u, vs, P', rfl, hF, hu, hos, hP, hPs⟩ := ow
  obtain ⟨hl, rfl⟩ := hu
  have hr := (Owns.frs hos).1
  have pa : P a := (hPs a).2 (.inl rfl)
  refine ⟨a, _, rfl, hF, trivial, fun o => q (upd B1 a (.frz o (.dK ((d.map fun q => kk q.1).zip vs)))) _ _ ?_ ?_⟩
  · have b1 := (p a pa).2
    refine ⟨g.b.trans (same_new b1), same_upd2 g.f b1, fun c o hc => ?_, fun c h1 h2 => ?_⟩
    · rw [upd_ne (ne_of_none hc (p a pa).1)]; exact g.s _ _ hc
    · by_cases z : c = a
      · subst z; exact (p c pa).1
      · rw [upd_ne z] at h1; exact g.n c h1 h2
  · show Rep K _ (.dicz _ _) _
    unfold Rep
    exact ⟨a, o, vs, rfl, upd_same, by simp, hr.mono (same_new (p a pa).2)⟩
end
end Y

/-! X24: {**a, **b} as an expression. -/
namespace Y
open PySem PySem.Spec PyProof.Rows L2
def mrg (d : Addr) (m : Value) : Sem Unit := (((holding [.ref d, m] (mergeMapping d m false)).onRaise fun x => do let _ ← holding [.ref d, m, x] (runValue (.builtin "proto.let_go" {}))).tryCatch fun e => do
        if ← isInstance e (.type "AttributeError") then
          rule "dict.display.not-a-mapping"; raiseError "TypeError" s!"'{← typeNameOf m}' object is not a mapping"
        throw e).onRaise fun x => do let _ ← holding [.ref d, x] (runValue (.builtin "proto.let_go" {}))
theorem dd2 (t1 t2 : Sem Value) : dictDisplay [(none, t1), (none, t2)] = (do
   let d ← alloc { cls := .type "dict", data := .dict #[] }
   let m ← holding [.ref d] t1
   mrg d m
   let m ← holding [.ref d] t2
   mrg d m
   pure (.ref d)) := by
  unfold dictDisplay mrg
  simp
theorem mrg_ok {M : Model} {A : Around} {E : Value → Shared → Prop} {s : Shared} {d : Addr} {m : Value} {Q : Unit → Shared → Prop} (h : wpAny M A (mergeMapping d m false) Q (fun _ _ => False) s) : wpAny M A (mrg d m) Q E s := by
  unfold mrg
  exact wpAny_onRaise (wpAny_tryCatch (wpAny_onRaise (wpAny_holding (wpAny_mono h (fun _ _ z => z) fun _ _ z => z.elim))))
section
variable {X : Cx} {pins : List (Addr × Obj)} {σ : L2.St} {H : Hp} {s : Shared} {a b : Addr} {kvs more : List (Key × V)}
theorem mrg_inv {E : Value → Shared → Prop} {Q : Unit → Shared → Prop} (I : Inv X pins σ H s) (ha : H a = some (.dK kvs)) (hb : Rd H b (.dK more)) (hab : a ≠ b) (hz : kvs.length + more.length ≤ sizeLine) (h : ∀ s', Inv X pins σ (upd H a (.dK (mergeK kvs more))) s' → Q () s') :
    wpAny (model X.prog X.w) X.A (mrg a (.ref b)) Q E s := by
  obtain ⟨z1, d1, vs1, r1, dd1⟩ := dk_of I.hok ha
  obtain ⟨z2, d2, vs2, r2, dd2⟩ := dk_rd I.hok hb
  refine mrg_ok (merge_map hab d2 dd1 dd2 (by rw [← r1.length, ← r2.length]; exact hz) fun h' hd hs => ?_)
  have hl : (mergeK kvs more).length ≤ sizeLine := Nat.le_trans (length_mergeK more kvs) hz
  exact h _ (d_write (t' := s.toks) I (by rw [ha]; trivial) hs (by obtain ⟨o, _, _, ho, _⟩ := hd; exact ⟨o, ho⟩) (dk_new hl d1 (KV.merge r2 r1) hd))
end
def tMrg2 (ta tb : TE) : TE := fun σ H Q => ∀ p, H p = none → ta σ (upd H p (.dK [])) fun x H1 => H1 p = some (.dK []) ∧ ∃ a k1, x = .ref a ∧ p ≠ a ∧ Rd H1 a (.dK k1) ∧ k1.length ≤ sizeLine ∧
  tb σ (upd H1 p (.dK (mergeK [] k1))) fun y H2 => H2 p = some (.dK (mergeK [] k1)) ∧ ∃ b k2, y = .ref b ∧ p ≠ b ∧ Rd H2 b (.dK k2) ∧ (mergeK [] k1).length + k2.length ≤ sizeLine ∧ Q (.ref p) (upd H2 p (.dK (mergeK (mergeK [] k1) k2)))
theorem pe_mrg2 {X : Cx} {a b : Expr} {ta tb : TE} {pos : Pos} (ha : PE X a ta) (hb : PE X b tb) : PE X (.Dict [none, none] [a, b] pos) (tMrg2 ta tb) := by
  refine ⟨fun pins s σ H Q I h => ?_⟩
  show wpAny _ _ (do standAt pos; dictDisplay [(none, do let x ← eval a X.env; standAt pos; pure x), (none, do let x ← eval b X.env; standAt pos; pure x)]) _ _ _
  rw [dd2]
  refine wpAny_bind (wpAny_standAt ?_)
  refine wpAny_bind (wpAny_alloc ?_)
  have hn := I.hok.fresh (Nat.le_refl s.heap.objs.size)
  have I1 := I.laid (a := s.heap.objs.size) (o := .dK []) (h' := s.heap.push { cls := .type "dict", data := .dict #[] }) (t' := s.toks) (fun _ _ q => Heap.get?_push_of_some _ q) (Nat.le_refl _) (dk_empty s.heap I.big)
  refine wpAny_bind (wpAny_holding (wpAny_bind (thn (ha.run pins _ σ _ _ I1 (h _ hn)) fun u s1 hh => ?_)))
  obtain ⟨x, H1, J1, rx, h1, da, k1, rfl, hne, hr1, hl1, hq⟩ := hh
  obtain rfl : u = Value.ref da := rx
  refine wpAny_bind (wpAny_standAt (wpAny_pure ?_))
  refine wpAny_bind (mrg_inv J1 h1 hr1 hne (by simpa using hl1) fun s2 J2 => ?_)
  refine wpAny_bind (wpAny_holding (wpAny_bind (thn (hb.run pins _ σ _ _ J2 hq) fun u s3 hh => ?_)))
  obtain ⟨y, H2, J3, ry, h2, db, k2, rfl, hne2, hr2, hl2, hq2⟩ := hh
  obtain rfl : u = Value.ref db := ry
  refine wpAny_bind (wpAny_standAt (wpAny_pure ?_))
  refine wpAny_bind (mrg_inv J3 h2 hr2 hne2 hl2 fun s4 J4 => ?_)
  exact wpAny_pure ⟨.ref _, _, J4, rfl, hq2⟩
/-! over data -/
section
variable {κ α : Type} [DecidableEq κ] {K : PySem.W.Frag} {env : List Slot} {ta tb : TE} {kk : κ → Key} {e : α → D} {d d2 : List (κ × α)}
theorem mergeK_reps {B : Hp} : ∀ {k2 : List Key} {ds2 : List D} {vs2 : List V} {k1 : List Key} {ds1 : List D} {vs1 : List V}, k1.length = ds1.length → k2.length = ds2.length → Reps K B ds1 vs1 → Reps K B ds2 vs2 →
    ∃ vs, mergeK (k1.zip vs1) (k2.zip vs2) = ((k2.zip ds2).foldl (fun q z => (putKs q.1 z.1, putDs q.1 q.2 z.1 z.2)) (k1, ds1)).1.zip vs ∧
      Reps K B ((k2.zip ds2).foldl (fun q z => (putKs q.1 z.1, putDs q.1 q.2 z.1 z.2)) (k1, ds1)).2 vs ∧ ((k2.zip ds2).foldl (fun q z => (putKs q.1 z.1, putDs q.1 q.2 z.1 z.2)) (k1, ds1)).1.length = ((k2.zip ds2).foldl (fun q z => (putKs q.1 z.1, putDs q.1 q.2 z.1 z.2)) (k1, ds1)).2.length
  | [], ds2, vs2, k1, ds1, vs1, l1, l2, r1, r2 => ⟨vs1, rfl, r1, l1⟩
  | k :: k2, [], vs2, k1, ds1, vs1, l1, l2, r1, r2 => by cases l2
  | k :: k2, d :: ds2, vs2, k1, ds1, vs1, l1, l2, r1, r2 => by
    unfold Reps at r2
    obtain ⟨x, ws, rfl, rx, r2⟩ := r2
    have hv : k1.length = vs1.length := by rw [r1.len, l1]
    have q := mergeK_reps (k2 := k2) (ds2 := ds2) (vs2 := ws) (k1 := putKs k1 k) (ds1 := putDs k1 ds1 k d) (vs1 := putDs k1 vs1 k x) (putDs_len l1) (by simpa using l2) (reps_putDs rx r1) r2
    rw [List.zip_cons_cons, List.zip_cons_cons, List.foldl_cons]
    show ∃ vs, mergeK (putK (k1.zip vs1) k x) (k2.zip ws) = _ ∧ _
    rw [putK_zip hv]
    exact q
theorem merge_data (hi : Inj kk) : ∀ (d2 d : List (κ × α)), ((d2.map fun q => kk q.1).zip (d2.map fun q => e q.2)).foldl (fun q z => (putKs q.1 z.1, putDs q.1 q.2 z.1 z.2)) (d.map fun q => kk q.1, d.map fun q => e q.2) = ((putAll d d2).map fun q => kk q.1, (putAll d d2).map fun q => e q.2)
  | [], d => rfl
  | z :: d2, d => by
    rw [List.map_cons, List.map_cons, List.zip_cons_cons, List.foldl_cons]
    show List.foldl _ (putKs _ (kk z.1), putDs _ _ (kk z.1) (e z.2)) _ = _
    rw [putKs_map hi d z.1 z.2, putDs_map hi e d z.1 z.2]
    exact merge_data hi d2 (dput d z.1 z.2)
theorem rd_some {H : Hp} {a : Addr} {u : HO} (h : Rd H a u) : H a ≠ none := by
  rcases h with h | ⟨_, h⟩ <;> rw [h] <;> simp
theorem ks_nil {κ α : Type} (kk : κ → Key) (e : α → D) (vs : List V) : (([] : List (κ × α)).map fun q => kk q.1).zip vs = [] := rfl
/-- {**a, **b} -/
theorem ex_mrg2 (ha : EvE K ta env (eK kk e d)) (hb : EvE K tb env (eK kk e d2)) (hi : Inj kk) (hz : d.length + d2.length ≤ 100000) : EvX K (tMrg2 ta tb) env (oK kk e (putAll (putAll [] d) d2)) := fun B F σ hs vs Q q => fun p hp => by
  have s1 : Same B (upd F p (.dK [])) := same_out hs (hs.free hp)
  have g0 : Gr B F B (upd F p (.dK [])) := ⟨Same.refl _, s1, same_new hp, fun a h1 h2 => absurd h2 h1⟩
  refine ha B _ σ s1 (vs.grow g0) _ fun B1 F1 x g1 r1 => ?_
  have b1 : B1 p = none := g1.out (hs.free hp) (by rw [upd_same]; simp)
  have f1 : F1 p = some (.dK []) := g1.s _ _ upd_same
  unfold eK Rep at r1
  obtain ⟨a, ws, rfl, e1, e2, e3⟩ := r1
  have pa : p ≠ a := fun z => rd_some e1 (z ▸ b1)
  have l1 : (putAll [] d : List (κ × α)).length ≤ d.length := by simpa using putAll_len d ([] : List (κ × α))
  have m1 := mergeK_reps (K := K) (B := B1) (k2 := d.map fun q => kk q.1) (ds2 := d.map fun q => e q.2) (vs2 := ws) (k1 := []) (ds1 := []) (vs1 := []) rfl (by simp) Reps.nil e3
  have m1' := merge_data (kk := kk) (e := e) hi d []
  simp only [List.map_nil] at m1'
  rw [m1'] at m1
  obtain ⟨ws1, w1, w2, w3⟩ := m1
  rw [List.zip_nil_left] at w1
  refine ⟨f1, a, _, rfl, pa, rd_mono g1.f e1, ?_, ?_⟩
  · have hS := sz100 (Nat.le_refl 100000)
    rw [List.length_zip, List.length_map]; omega
  rw [w1]
  have g2 : Gr B F B1 (upd F1 p (.dK (((putAll [] d).map fun q => kk q.1).zip ws1))) := ⟨(g0.trans g1).b, same_out g1.f b1, same_out ((same_new hp).trans g1.s) hp, (g0.trans g1).n⟩
  refine hb B1 _ σ g2.f (vs.grow g2) _ fun B2 F2 y g3 r2 => ?_
  have b2 : B2 p = none := g3.out b1 (by rw [upd_same]; simp)
  have f2 : F2 p = some (.dK (((putAll [] d).map fun q => kk q.1).zip ws1)) := g3.s _ _ upd_same
  unfold eK Rep at r2
  obtain ⟨b, vs2, rfl, c1, c2, c3⟩ := r2
  have pb : p ≠ b := fun z => rd_some c1 (z ▸ b2)
  have m2 := mergeK_reps (K := K) (B := B2) (k2 := d2.map fun q => kk q.1) (ds2 := d2.map fun q => e q.2) (vs2 := vs2) (k1 := (putAll [] d).map fun q => kk q.1) (ds1 := (putAll [] d).map fun q => e q.2) (vs1 := ws1) (by simp) (by simp) (w2.mono g3.b) c3
  rw [merge_data hi d2 (putAll [] d)] at m2
  obtain ⟨us, u1, u2, u3⟩ := m2
  refine ⟨f2, b, _, rfl, pb, rd_mono g3.f c1, ?_, ?_⟩
  · have hS := sz100 (Nat.le_refl 100000)
    rw [List.length_zip, List.length_zip, List.length_map, List.length_map]; omega
  rw [u1]
  have g4 := g2.trans g3
  refine q B2 _ (.ref p) (fun a => a = p ∨ False) ⟨g4.b, same_out g4.f b2, same_out g4.s hp, g4.n⟩ ?_ fun a ha => ?_
  · unfold oK Own
    refine ⟨p, _, us, fun _ => False, rfl, upd_same, ⟨?_, rfl⟩, ?_, fun h => h, fun _ => Iff.rfl⟩
    · rw [u2.len]; simp
    · exact owns_fr u2
  · rcases ha with rfl | ha
    · exact ⟨hp, b2⟩
    · exact ha.elim
end
end Y

/-! X25: gcd, factorial, bit_length, index; loops that stand last; defs that may raise, as told to their callers. -/
namespace Y
open PySem PySem.Spec PyProof.Rows L2
section
variable {X : Cx}
def rFact : List V → Hp → VK → Prop := fun vs H Q => ∃ a : Int, vs = [.int a] ∧ 0 ≤ a ∧ a ≤ 20 ∧ Q (.int ((Builtin.Math.factorialNat a.toNat : Nat) : Int)) H
theorem fact_small : ∀ n : Nat, n ≤ 20 → (((Builtin.Math.factorialNat n : Nat) : Int)).natAbs.log2 < bitsLine := by
  intro n hn
  rcases n with _ | _ | _ | _ | _ | _ | _ | _ | _ | _ | _ | _ | _ | _ | _ | _ | _ | _ | _ | _ | _ | n
  any_goals (first | decide +kernel | omega)
theorem cr_fact : CallR X (.builtin "math.factorial") rFact := by
  intro pins s σ H vs us Q I r h
  obtain ⟨a, rfl, h0, h1, q⟩ := h
  obtain ⟨u, rfl, ⟨t, rfl⟩⟩ := vals1 r
  have hs := fact_small a.toNat (by omega)
  have z1 : (20 : Int) ≤ Builtin.Math.maxSsize := by decide +kernel
  have z2 : (20 : Int) ≤ Builtin.Math.manyFactors := by decide +kernel
  have g := PySem.W.mg_run_factorial a t (by omega) (by omega) (by omega) hs
  exact PySem.call_function_meets PySem.W.MGF.kind_factorial PySem.W.MGF.plain_factorial PySem.W.MGF.entry_factorial (PySem.W.MGF.args_factorial _) g.meets ⟨.int _, H, I.tok _, ⟨_, rfl⟩, q⟩
end
section
variable {K : PySem.W.Frag} {env : List Slot} {ta tb te : TE}
def fctZ (a : Int) : Int := ((Builtin.Math.factorialNat a.toNat : Nat) : Int)
theorem ee_fact {a : Int} (h1 : EvE K ta env (.int a)) (hc : 0 ≤ a ∧ a ≤ 20) : EvE K (tCB rFact (tCons ta tNil)) env (.int (fctZ a)) := ee_cb (ea_cons h1 ea_nil) fun B F xs hs r Q q => by
  obtain ⟨x, rfl, r1⟩ := reps1 r
  unfold Rep at r1; subst r1
  exact ⟨a, rfl, hc.1, hc.2, q B F _ (Gr.refl hs) (rp_int B)⟩
/-- the place of k in xs -/
def idxZ (xs : List Int) (k : Int) : Nat := xs.findIdx (· == k)
theorem ee_index {xs : List Int} {k : Int} (h1 : EvE K ta env (eL D.int xs)) (h2 : EvE K tb env (.int k)) (hc : k ∈ xs) : EvE K (tBM K "list" (rIndex K) ta (tCons tb tNil)) env (.int (idxZ xs k)) := fun B F σ hs vs Q q =>
  h1 B F σ hs vs _ fun B1 F1 x g1 r1 => by
    have r1 : Rep K B1 (.lst (xs.map .int)) x := r1
    unfold Rep at r1
    obtain ⟨a, ws, rfl, e1, e2⟩ := r1
    have := e2.ints
    subst this
    refine ⟨.inl ⟨rfl, _, g1.f.seq e1⟩, h2 B1 F1 σ g1.f (vs.grow g1) _ fun B2 F2 y g2 r2 => ?_⟩
    unfold Rep at r2; subst r2
    have hj : idxZ xs k < xs.length := List.findIdx_lt_length_of_exists ⟨k, hc, by simp⟩
    have hz : xs[idxZ xs k] == k := List.findIdx_getElem (w := hj)
    refine ⟨a, _, .int k, idxZ xs k, .int xs[idxZ xs k], rfl, rfl, (g2.b.trans g2.f).seq e1, rfl, flat_ints xs, by rw [List.getElem?_map, List.getElem?_eq_getElem hj]; rfl, hz, fun m z hm hmz => ?_, q B2 F2 _ (g1.trans g2) (rp_int B2)⟩
    rw [List.getElem?_map, List.getElem?_eq_getElem (Nat.lt_trans hm hj)] at hmz
    cases hmz
    have := List.not_of_lt_findIdx hm
    show (xs[m] == k) = false
    simpa using this
end
section
variable {ξ ρ σ τ β α : Type} {K : PySem.W.Frag} {E : XK} {xd : ξ → XD} {o : ρ → O} {Rx : Rxt ρ} {env : List Slot} {te : TE} {ta : TA} {t u : TS} {T : Ends → Prop} {Φ : Phi τ} {L : σ → List Slot}
/-- a for that may be left and stands last -/
theorem xx_loop1 {wi : TI} {g : TG} {rep : α → D} {xs : List α} {s0 : σ} {f : α → σ → G (Lv ρ σ)} {w : ρ → τ} {k : σ → G τ} (rb : Rb Rx) (us : α → List (Nat × D)) (hi : EvI K wi env (xs.map rep)) (h0 : Sub env (L s0)) (hg : ∀ x, EvG K g (rep x) (us x))
    (hw : Exits Φ Rx w) (hb : ∀ x s, Blk K TyL (PLx K Rx L) t (sets (L s) (us x)) (f x s)) (hk : ∀ s, Blk K T Φ tNext (L s) (k s)) : Blk K T Φ (tFor wi g t) env ((G.loop xs s0 f).on w k) := fun H0 H1 En hT ok hΦ => by
  have := xx_loop (u := tNext) rb us hi h0 hg hw hb hk H0 H1 En hT ok hΦ
  exact this
/-! what callers know -/
def RX1 {ξ a1 r : Type} (m : a1 → G (Sum ξ r)) (e1 : a1 → D) (xd : ξ → XD) (o : r → O) : List D → Sum XD O → Prop := fun ds q => ∃ x1, ds = [e1 x1] ∧ (m x1).ok ∧ q = outc xd o (m x1).val
/-- the value, where nothing is raised -/
def calmG {ξ ρ : Type} [Inhabited ρ] (m : G (Sum ξ ρ)) : G ρ := ⟨m.ok ∧ ∃ r, m.val = .inr r, match m.val with | .inr r => r | .inl _ => default⟩
def RC1 {ξ a1 r : Type} [Inhabited r] (m : a1 → G (Sum ξ r)) (e1 : a1 → D) (o : r → O) : List D → O → Prop := R1 (fun x => calmG (m x)) e1 o
theorem calm1 {ξ a1 r : Type} [Inhabited r] {m : a1 → G (Sum ξ r)} {e1 : a1 → D} {xd : ξ → XD} {o : r → O} {ds : List D} {q : O} (h : RC1 m e1 o ds q) : RX1 m e1 xd o ds (.inr q) := by
  obtain ⟨x, rfl, ⟨ok, r, hr⟩, rfl⟩ := h
  refine ⟨x, rfl, ok, ?_⟩
  unfold calmG
  simp only [hr]
  rfl
end
end Y

/-! X26: suites that are left in part; a suite that knows the exception's class. -/
namespace Y
open PySem PySem.Spec PyProof.Rows L2
section
variable {K : PySem.W.Frag} {env : List Slot} {te : TE} {tt : TT} {t u A : TS} {β σ τ : Type} {T : Ends → Prop} {Φ : Phi τ} {N : σ → List Slot}
/-- in a suite: if c: return .. -/
theorem xm_leave {c : Bool} {x : G τ} {y : G (Sum τ σ)} (ni : Ni Φ) (h : EvT K tt env c) (h1 : Blk K TyA Φ A env x) (h2 : Blk K T (PM K Φ N) u env y) : Blk K T (PM K Φ N) (tSeq (tIfS tt A tNext) u) env (.ite c (x.b fun v => .p (.inl v)) y) := fun H0 H1 E hT ok hΦ => by
  refine go_if (E := { E with nx := u E }) h (fun hc => ?_) (fun hc => ?_)
  · have hv : (G.ite c (x.b fun v => .p (.inl v)) y).val = .inl x.val := by show (if c = true then _ else _) = _; rw [if_pos hc]; rfl
    rw [hv] at hΦ
    exact h1 H0 H1 _ trivial (ok.1 hc).1 (ni _ _ _ _ _ hΦ)
  · have hv : (G.ite c (x.b fun v => .p (.inl v)) y).val = y.val := by show (if c = true then _ else _) = _; rw [if_neg (by rw [hc]; decide)]
    rw [hv] at hΦ
    exact h2 H0 H1 E hT (ok.2 hc) hΦ
end
/-- a suite, told the class of its exception; ns: names that no class has by itself -/
def tCls (K : PySem.W.Frag) (cls : Value) (ns : List Str) (t : Addr → TS) : TS := fun En σ H => ∃ D, cls = .ref D ∧ ExcC K D ∧ XfC K D ∧ (∀ n ∈ ns, PySem.W.findIn K (.ref D) n = some none) ∧ t D En σ H
theorem pss_cls {X : Cx} {b : List Stmt} {cls : Value} {ns : List Str} {t : Addr → TS} (h : ∀ D, cls = .ref D → ExcC X.K D → XfC X.K D → (∀ n ∈ ns, PySem.W.findIn X.K (.ref D) n = some none) → PSs X b (t D)) : PSs X b (tCls X.K cls ns t) :=
  ⟨fun pins s σ H En I ⟨D, e, c, f, n, q⟩ => (h D e c f n).run pins s σ H En I q⟩
theorem xb_cls {K : PySem.W.Frag} {τ : Type} {T : Ends → Prop} {Φ : Phi τ} {cls : Value} {ns : List Str} {t : Addr → TS} {env : List Slot} {m : G τ} {D : Addr} (e : cls = .ref D) (c : ExcC K D) (f : XfC K D) (n : ∀ n ∈ ns, PySem.W.findIn K (.ref D) n = some none) (h : Blk K T Φ (t D) env m) : Blk K T Φ (tCls K cls ns t) env m := fun H0 H1 En hT ok hΦ B F σ st =>
  ⟨D, e, c, f, n, h H0 H1 En hT ok hΦ B F σ st⟩
theorem msgs_nil : ∀ d ∈ ([] : List D), Msg d := fun d h => absurd h List.not_mem_nil
theorem msgs_cons {d : D} {ds : List D} (h : Msg d) (hs : ∀ x ∈ ds, Msg x) : ∀ x ∈ d :: ds, Msg x := fun x hx => by
  rcases List.mem_cons.1 hx with rfl | hx
  · exact h
  · exact hs x hx
end Y

/-! X27: what gen3 needs more: pss_cls told K; defs of more arguments that may raise. -/
namespace Y
open PySem PySem.Spec PyProof.Rows L2
theorem pss_clsK {X : Cx} {K : PySem.W.Frag} (e : X.K = K) {b : List Stmt} {cls : Value} {ns : List Str} {t : Addr → TS} (h : ∀ D, cls = .ref D → ExcC X.K D → XfC X.K D → (∀ n ∈ ns, PySem.W.findIn X.K (.ref D) n = some none) → PSs X b (t D)) : PSs X b (tCls K cls ns t) := by
  subst e
  exact pss_cls h
section
variable {ξ r : Type}
def RX2 {a1 a2 : Type} (m : a1 → a2 → G (Sum ξ r)) (e1 : a1 → D) (e2 : a2 → D) (xd : ξ → XD) (o : r → O) : List D → Sum XD O → Prop := fun ds q => ∃ x1 x2, ds = [e1 x1, e2 x2] ∧ (m x1 x2).ok ∧ q = outc xd o (m x1 x2).val
def RX3 {a1 a2 a3 : Type} (m : a1 → a2 → a3 → G (Sum ξ r)) (e1 : a1 → D) (e2 : a2 → D) (e3 : a3 → D) (xd : ξ → XD) (o : r → O) : List D → Sum XD O → Prop := fun ds q => ∃ x1 x2 x3, ds = [e1 x1, e2 x2, e3 x3] ∧ (m x1 x2 x3).ok ∧ q = outc xd o (m x1 x2 x3).val
def RX4 {a1 a2 a3 a4 : Type} (m : a1 → a2 → a3 → a4 → G (Sum ξ r)) (e1 : a1 → D) (e2 : a2 → D) (e3 : a3 → D) (e4 : a4 → D) (xd : ξ → XD) (o : r → O) : List D → Sum XD O → Prop := fun ds q => ∃ x1 x2 x3 x4, ds = [e1 x1, e2 x2, e3 x3, e4 x4] ∧ (m x1 x2 x3 x4).ok ∧ q = outc xd o (m x1 x2 x3 x4).val
def RC2 {a1 a2 : Type} [Inhabited r] (m : a1 → a2 → G (Sum ξ r)) (e1 : a1 → D) (e2 : a2 → D) (o : r → O) : List D → O → Prop := R2 (fun x y => calmG (m x y)) e1 e2 o
def RC3 {a1 a2 a3 : Type} [Inhabited r] (m : a1 → a2 → a3 → G (Sum ξ r)) (e1 : a1 → D) (e2 : a2 → D) (e3 : a3 → D) (o : r → O) : List D → O → Prop := R3 (fun x y z => calmG (m x y z)) e1 e2 e3 o
def RC4 {a1 a2 a3 a4 : Type} [Inhabited r] (m : a1 → a2 → a3 → a4 → G (Sum ξ r)) (e1 : a1 → D) (e2 : a2 → D) (e3 : a3 → D) (e4 : a4 → D) (o : r → O) : List D → O → Prop := R4 (fun x y z u => calmG (m x y z u)) e1 e2 e3 e4 o
theorem outc_calm {ρ : Type} [Inhabited ρ] {m : G (Sum ξ ρ)} {xd : ξ → XD} {o : ρ → O} (h : ∃ r, m.val = .inr r) : Sum.inr (o (calmG m).val) = outc xd o m.val := by
  obtain ⟨r, hr⟩ := h
  unfold calmG
  simp only [hr]
  rfl
theorem calm2 {a1 a2 : Type} [Inhabited r] {m : a1 → a2 → G (Sum ξ r)} {e1 : a1 → D} {e2 : a2 → D} {xd : ξ → XD} {o : r → O} {ds : List D} {q : O} (h : RC2 m e1 e2 o ds q) : RX2 m e1 e2 xd o ds (.inr q) := by
  obtain ⟨x, y, rfl, ⟨ok, hr⟩, rfl⟩ := h
  exact ⟨x, y, rfl, ok, outc_calm hr⟩
theorem calm3 {a1 a2 a3 : Type} [Inhabited r] {m : a1 → a2 → a3 → G (Sum ξ r)} {e1 : a1 → D} {e2 : a2 → D} {e3 : a3 → D} {xd : ξ → XD} {o : r → O} {ds : List D} {q : O} (h : RC3 m e1 e2 e3 o ds q) : RX3 m e1 e2 e3 xd o ds (.inr q) := by
  obtain ⟨x, y, z, rfl, ⟨ok, hr⟩, rfl⟩ := h
  exact ⟨x, y, z, rfl, ok, outc_calm hr⟩
theorem calm4 {a1 a2 a3 a4 : Type} [Inhabited r] {m : a1 → a2 → a3 → a4 → G (Sum ξ r)} {e1 : a1 → D} {e2 : a2 → D} {e3 : a3 → D} {e4 : a4 → D} {xd : ξ → XD} {o : r → O} {ds : List D} {q : O} (h : RC4 m e1 e2 e3 e4 o ds q) : RX4 m e1 e2 e3 e4 xd o ds (.inr q) := by
  obtain ⟨x, y, z, u, rfl, ⟨ok, hr⟩, rfl⟩ := h
  exact ⟨x, y, z, u, rfl, ok, outc_calm hr⟩
end
end Y

/-! X28: the facts of an own exception class, put together. -/
namespace Y
open PySem PySem.Spec PyProof.Rows L2
def clsBody : Stmt → List Stmt
  | .ClassDef _ _ _ b _ _ _ _ _ _ _ => b
  | _ => []
theorem xf_of {K : PySem.W.Frag} {C : Addr} (e : ExcC K C) : XfC K C := ⟨e.hg, e.hk, e.hs, e.hd⟩
theorem nodup3 {a b c : Str} (h1 : a ≠ b) (h2 : a ≠ c) (h3 : b ≠ c) : [a, b, c].Nodup := by simp [h1, h2, h3]
theorem prts_wf {s : Str} {i : Nat} (h : Prt.f i ∈ [Prt.w s, Prt.f 1]) : i = 1 := by
  simp at h; exact h
end Y
namespace Y
open PySem PySem.Spec PyProof.Rows L2
theorem calmTo {P : Program} {w : World} {K : PySem.W.Frag} {mg : Str → Option Value} {base : Heap} {k : Nat} {f : Addr} {fd : FuncData} {ps : List Str} {R : List D → Sum XD O → Prop} {R' : List D → O → Prop} (F : FnOk P w K mg base (L2.CX P w) k f fd ps (spE K R)) (hl : ∀ ds r, R ds r → ds.length = ps.length) (h : ∀ ds q, R' ds q → R ds (.inr q)) : FnOk P w K mg base CX0 k f fd ps (spX K R') :=
  (FnOk.calm F hl).imp fun vs H Q E ⟨B, ds, o, h1, h2, h3, h4⟩ => ⟨B, ds, o, h1, h2, h _ _ h3, h4⟩
end Y
namespace Y
open PySem PySem.Spec PyProof.Rows L2
section
variable {K : PySem.W.Frag} {A C : Addr}
theorem kit_self (t : Value) : PySem.W.kitOne K t t = some true := by unfold PySem.W.kitOne; rw [if_pos (beq_self_eq_true t)]
theorem kit_ref (hs : PySem.W.subIn K (.ref A) (.ref C) = some true) (hd : PySem.W.hasDictIn K C = true) (ht : PySem.W.typeIn K (.ref C) = some (.type "type")) : PySem.W.kitOne K (.ref A) (.ref C) = some true := by
  unfold PySem.W.kitOne
  split
  · rfl
  · unfold PySem.W.kitCls
    have h1 : (PySem.W.clsIn K C).isSome = true := by
      unfold PySem.W.hasDictIn at hd
      cases e : PySem.W.clsIn K C with
      | none => rw [e] at hd; cases hd
      | some _ => rfl
    show (if ((PySem.W.clsIn K C).isSome && PySem.W.typeIn K (.ref C) == some (.type "type")) = true then PySem.W.subIn K (.ref A) (.ref C) else none) = some true
    rw [ht, h1]
    simp only [BEq.rfl, Bool.and_self, if_true]
    exact hs
theorem kit_type {T : String} {b : Bool} (hm : PySem.W.kitMeta T = true) (hs : PySem.W.subIn K (.ref A) (.type T) = some b) : PySem.W.kitOne K (.ref A) (.type T) = some b := by
  unfold PySem.W.kitOne
  rw [if_neg (by simp)]
  unfold PySem.W.kitCls
  show (if PySem.W.kitMeta T = true then PySem.W.subIn K (.ref A) (.type T) else none) = some b
  rw [if_pos hm]
  exact hs
theorem along_base {nm q : Str} {N : Addr} {bs bm : List Value} {hdct : Bool} {sn : List Str} {sub : List Value} {ab : Bool} {col : Option Bool} {dd : Option Addr} {k0 k1 k2 k3 k5 : Option Value} {newId : String} {name : Str} {r : List Value}
    (h : K.lookup A = some (excClassObj nm q A N bs bm hdct sn sub ab col dd k0 k1 k2 k3 k5 newId)) (hn : PySem.W.nsIn K N name = some none) : PySem.W.alongIn K name (.ref A :: r) = PySem.W.alongIn K name r := by
  rw [PySem.W.alongIn]
  have : PySem.W.ownIn K name (.ref A) = some none := by
    unfold PySem.W.ownIn
    simp only [h]
    exact hn
  rw [this]
theorem along_ve {r : List Value} : PySem.W.alongIn K "__init__" (.type "ValueError" :: r) = some (some (.builtin "ValueError.__init__")) := by
  rw [PySem.W.alongIn]
  have : PySem.W.ownIn K "__init__" (.type "ValueError") = some (some (.builtin "ValueError.__init__")) := by rfl
  rw [this]
theorem super_of {nm q : Str} {N : Addr} {bs bm : List Value} {hdct : Bool} {sn : List Str} {sub : List Value} {ab : Bool} {col : Option Bool} {dd : Option Addr} {k0 k1 k2 k3 k5 : Option Value} {newId : String} {name : Str} {v : Option (Option Value)}
    (h : K.lookup A = some (excClassObj nm q A N bs bm hdct sn sub ab col dd k0 k1 k2 k3 k5 newId)) (hv : PySem.W.alongIn K name bm = v) : PySem.W.ks_superIn K A A name = v := by
  unfold PySem.W.ks_superIn
  have e : PySem.W.clsIn K A = some { name := nm, bases := bs, mro := .ref A :: bm, ns := N, qualname := q, hasDict := hdct, slotNames := sn, subclasses := sub, abstract := ab, collection := col } := by unfold PySem.W.clsIn; rw [h]
  rw [e, Option.bind_some]
  have : (Value.ref A != Value.ref A) = false := by simp
  rw [List.dropWhile_cons, if_neg (by rw [this]; decide)]
  exact hv
theorem cls_of {nm q : Str} {N : Addr} {bs bm : List Value} {hdct : Bool} {sn : List Str} {sub : List Value} {ab : Bool} {col : Option Bool} {dd : Option Addr} {k0 k1 k2 k3 k5 : Option Value} {newId : String}
    (h : K.lookup A = some (excClassObj nm q A N bs bm hdct sn sub ab col dd k0 k1 k2 k3 k5 newId)) : ∃ cd, PySem.W.clsIn K A = some cd := ⟨_, by unfold PySem.W.clsIn; rw [h]⟩
end
end Y

/-! X29: xs.extend(ys). -/
namespace Y
open PySem PySem.Spec PyProof.Rows L2
section
variable {K : PySem.W.Frag} {env : List Slot} {te : TE} {α : Type}
theorem frs_of (e : α → D) (l : List α) : l.map (oF e) = (l.map e).map .fr := by rw [List.map_map]; rfl
/-- xs.extend(zs), both one's own -/
theorem st_extV {i j : Nat} {e : α → D} {xs zs : List α} (ei : env[i]? = some (.own (oL (oF e) xs))) (ej : env[j]? = some (.own (oL (oF e) zs))) :
    St K (tDrop (tBM K "list" rExtend (tVar i) (tCons (tVar j) tNil))) env ⟨xs.length + zs.length ≤ 100000, xs ++ zs⟩ (fun ys => env.set i (.own (oL (oF e) ys))) := fun H0 H1 E c kq => fun B F σ st => by
  obtain ⟨Ps, vs, hout⟩ := st.ex
  obtain ⟨x0, hx0, _⟩ := vs.own i _ ei
  obtain ⟨y0, hy0, _⟩ := vs.own j _ ej
  obtain ⟨p, u, ws, Po, rfl, a2, a3, a4, _, _, f6⟩ := st.chg (js := []) (xs := xs.map (oF e)) (Gr.refl st.gr.f) ei rfl hx0 rfl
  have a3 : u = .lst ws := a3
  subst a3
  obtain ⟨p2, u2, ws2, Po2, rfl, b2, b3, b4, _⟩ := st.chg (js := []) (xs := zs.map (oF e)) (Gr.refl st.gr.f) ej rfl hy0 rfl
  have b3 : u2 = .lst ws2 := b3
  subst b3
  rw [frs_of] at a4 b4
  have rx := a4.frs.1
  have rz := b4.frs.1
  have lx := rx.len
  have lz := rz.len
  rw [List.length_map] at lx lz
  have c : xs.length + zs.length ≤ 100000 := c
  refine ⟨_, hx0, .inl ⟨rfl, ws, .inl (.inl a2)⟩, _, hy0, ?_⟩
  refine ⟨p, p2, ws, ws2, rfl, rfl, a2, b2, by rw [lx, lz]; exact Nat.le_of_lt (smallZ c), ?_⟩
  have st3 := f6 .lst ((xs ++ zs).map (oF e)) (.lst (ws ++ ws2)) (ws ++ ws2) (fun _ => False) rfl (by
    rw [frs_of, List.map_append]
    exact owns_fr (rx.append rz)) (fun a h => h.elim)
  exact kq B _ σ st3
/-- xs.extend(e), e a new list -/
theorem st_extX {i : Nat} {e : α → D} {xs zs : List α} (ei : env[i]? = some (.own (oL (oF e) xs))) (h : EvX K te env (oL (oF e) zs)) :
    St K (tDrop (tBM K "list" rExtend (tVar i) (tCons te tNil))) env ⟨xs.length + zs.length ≤ 100000, xs ++ zs⟩ (fun ys => env.set i (.own (oL (oF e) ys))) := fun H0 H1 E c kq => fun B F σ st => by
  obtain ⟨Ps, vs, hout⟩ := st.ex
  obtain ⟨x0, hx0, _⟩ := vs.own i _ ei
  obtain ⟨p, u, ws, Po, rfl, a2, a3, _⟩ := st.chg (js := []) (xs := xs.map (oF e)) (Gr.refl st.gr.f) ei rfl hx0 rfl
  have a3 : u = .lst ws := a3
  subst a3
  refine ⟨_, hx0, .inl ⟨rfl, ws, .inl (.inl a2)⟩, h B F σ st.gr.f st.vs _ fun B1 F1 y P g w hp => ?_⟩
  have w : Own K B1 F1 (.ow .lst (zs.map (oF e))) y P := w
  unfold Own at w
  obtain ⟨p2, u2, ws2, P2, rfl, b2, b3, b4, _⟩ := w
  have b3 : u2 = .lst ws2 := b3
  subst b3
  obtain ⟨p3, u3, ws3, Po3, e3, d2, d3, d4, _, _, f6⟩ := st.chg (js := []) (xs := xs.map (oF e)) g ei rfl hx0 rfl
  cases e3
  have d3 : u3 = .lst ws3 := d3
  subst d3
  rw [frs_of] at d4 b4
  have rx := d4.frs.1
  have rz := b4.frs.1
  have lx := rx.len
  have lz := rz.len
  rw [List.length_map] at lx lz
  have c : xs.length + zs.length ≤ 100000 := c
  refine ⟨p, p2, ws3, ws2, rfl, rfl, d2, b2, by rw [lx, lz]; exact Nat.le_of_lt (smallZ c), ?_⟩
  have st3 := f6 .lst ((xs ++ zs).map (oF e)) (.lst (ws3 ++ ws2)) (ws3 ++ ws2) (fun _ => False) rfl (by
    rw [frs_of, List.map_append]
    exact owns_fr (rx.append rz)) (fun a h => h.elim)
  exact kq B1 _ σ st3
end
end Y

/-! X30: tuples of any size, == over texts, options, tuples; signs; defs with defaults. -/
namespace Y
open PySem PySem.Spec PyProof.Rows L2
abbrev eT5 {α β γ δ ε : Type} (e : α → D) (f : β → D) (g : γ → D) (h : δ → D) (i : ε → D) : α × β × γ × δ × ε → D := fun q => .tup [e q.1, f q.2.1, g q.2.2.1, h q.2.2.2.1, i q.2.2.2.2]
abbrev eT6 {α β γ δ ε ζ : Type} (e : α → D) (f : β → D) (g : γ → D) (h : δ → D) (i : ε → D) (j : ζ → D) : α × β × γ × δ × ε × ζ → D := fun q => .tup [e q.1, f q.2.1, g q.2.2.1, h q.2.2.2.1, i q.2.2.2.2.1, j q.2.2.2.2.2]
abbrev eT7 {α β γ δ ε ζ η : Type} (e : α → D) (f : β → D) (g : γ → D) (h : δ → D) (i : ε → D) (j : ζ → D) (k : η → D) : α × β × γ × δ × ε × ζ × η → D := fun q => .tup [e q.1, f q.2.1, g q.2.2.1, h q.2.2.2.1, i q.2.2.2.2.1, j q.2.2.2.2.2.1, k q.2.2.2.2.2.2]
abbrev eT1 {α : Type} (e : α → D) : α → D := fun q => .tup [e q]
abbrev eH5 {α β γ δ ε : Type} (e : α → D) (f : β → D) (g : γ → D) (h : δ → D) (i : ε → D) : α × β × γ × δ × ε → D := fun q => .lst [e q.1, f q.2.1, g q.2.2.1, h q.2.2.2.1, i q.2.2.2.2]
abbrev eH6 {α β γ δ ε ζ : Type} (e : α → D) (f : β → D) (g : γ → D) (h : δ → D) (i : ε → D) (j : ζ → D) : α × β × γ × δ × ε × ζ → D := fun q => .lst [e q.1, f q.2.1, g q.2.2.1, h q.2.2.2.1, i q.2.2.2.2.1, j q.2.2.2.2.2]
/-- a sign -/
abbrev eC : Nat → D := fun c => stx [c]
theorem ind_stx : ∀ a, Ind (stx a) := fun _ => by unfold stx Ind; trivial
theorem ind_c : ∀ a, Ind (eC a) := fun _ => by unfold eC stx Ind; trivial
theorem sc_stx : ∀ a, Scal (stx a) := fun _ => by unfold stx Scal; trivial
theorem sc_c : ∀ a, Scal (eC a) := fun _ => by unfold eC stx Scal; trivial
theorem ind_n0 : Ind .non := by unfold Ind; trivial
theorem nn_x : Nn stx := fun K H a x r => by unfold stx Rep at r; subst r; simp
theorem nn_b : Nn D.bl := fun K H a x r => by unfold Rep at r; subst r; simp
theorem nn_u {α : Type} {e : α → D} : Nn (eU e) := fun K H a x r => by
  have r : Rep K H (.tup (a.map e)) x := r
  unfold Rep at r
  obtain ⟨p, ws, rfl, _⟩ := r
  simp
theorem nn_tup {α : Type} {f : α → List D} : Nn (fun a => .tup (f a)) := fun K H a x r => by
  have r : Rep K H (.tup (f a)) x := r
  unfold Rep at r
  obtain ⟨p, ws, rfl, _⟩ := r
  simp
/-! == of data of any kind: texts too -/
theorem dp_of_plain {K : PySem.W.Frag} {H : Hp} : True := trivial
def rEqP (K : PySem.W.Frag) : L2.R2 := fun x y H Q => ∃ d e, Dp K H x d ∧ Dp K H y e ∧ d.plain = true ∧ e.plain = true ∧ d.depth ≤ 60 ∧ Q (.bl (PyData.eqv d e)) H
def rNeP (K : PySem.W.Frag) : L2.R2 := fun x y H Q => ∃ d e, Dp K H x d ∧ Dp K H y e ∧ d.plain = true ∧ e.plain = true ∧ d.depth ≤ 60 ∧ Q (.bl (!PyData.eqv d e)) H
def rInP (K : PySem.W.Frag) (neg : Bool) : L2.R2 := fun x y H Q => ∃ d ds, Dp K H x d ∧ (Dp K H y (.list ds) ∨ Dp K H y (.tuple ds)) ∧ d.plain = true ∧ PyData.plainAll ds = true ∧ d.depth ≤ 60 ∧ Q (.bl (if neg then !(ds.any fun z => PyData.eqv z d) else ds.any fun z => PyData.eqv z d)) H
section
variable {X : Cx}
theorem op_eqP (hu : X.A.units + 64 < cLine) : OpR X (compareOp .Eq) (rEqP X.K) := by
  intro pins s σ H x y v u Q I rx ry h
  obtain ⟨d, e, hd, he, sd, se, hz, q⟩ := h
  obtain ⟨as, r1⟩ := Dp.reads I d x v hd rx
  obtain ⟨bs, r2⟩ := Dp.reads I e y u he ry
  exact SeqAt.eq_plain r1 r2 sd se (by have := Nat.min_le_left d.depth e.depth; omega) ⟨.bl _, H, I, rfl, q⟩
theorem op_neP (hu : X.A.units + 64 < cLine) : OpR X (compareOp .NotEq) (rNeP X.K) := by
  intro pins s σ H x y v u Q I rx ry h
  obtain ⟨d, e, hd, he, sd, se, hz, q⟩ := h
  obtain ⟨as, r1⟩ := Dp.reads I d x v hd rx
  obtain ⟨bs, r2⟩ := Dp.reads I e y u he ry
  exact SeqAt.ne_plain r1 r2 sd se (by have := Nat.min_le_left d.depth e.depth; omega) ⟨.bl _, H, I, rfl, q⟩
theorem op_inP (hu : X.A.units + 64 < cLine) : OpR X (compareOp .In) (rInP X.K false) := by
  intro pins s σ H x y v u Q I rx ry h
  obtain ⟨d, ds, hd, he, sd, se, hz, q⟩ := h
  obtain ⟨as, r1⟩ := Dp.reads I d x v hd rx
  have hm : X.A.units + 1 + min (PyData.depthAll ds) d.depth < cLine := by have := Nat.min_le_right (PyData.depthAll ds) d.depth; omega
  rcases he with he | he
  · obtain ⟨bs, r2⟩ := Dp.reads I (.list ds) y u he ry
    exact SeqAt.in_list_data r2 r1 se sd hm ⟨.bl _, H, I, rfl, q⟩
  · obtain ⟨bs, r2⟩ := Dp.reads I (.tuple ds) y u he ry
    exact SeqAt.in_tuple_data r2 r1 se sd hm ⟨.bl _, H, I, rfl, q⟩
theorem op_ninP (hu : X.A.units + 64 < cLine) : OpR X (compareOp .NotIn) (rInP X.K true) := by
  intro pins s σ H x y v u Q I rx ry h
  obtain ⟨d, ds, hd, he, sd, se, hz, q⟩ := h
  obtain ⟨as, r1⟩ := Dp.reads I d x v hd rx
  have hm : X.A.units + 1 + min (PyData.depthAll ds) d.depth < cLine := by have := Nat.min_le_right (PyData.depthAll ds) d.depth; omega
  rcases he with he | he
  · obtain ⟨bs, r2⟩ := Dp.reads I (.list ds) y u he ry
    exact SeqAt.notIn_list_data r2 r1 se sd hm ⟨.bl _, H, I, rfl, q⟩
  · obtain ⟨bs, r2⟩ := Dp.reads I (.tuple ds) y u he ry
    exact SeqAt.notIn_tuple_data r2 r1 se sd hm ⟨.bl _, H, I, rfl, q⟩
theorem k_eqP (K : PySem.W.Frag) (hu : X.A.units + 64 < cLine) (h : X.K = K := by rfl) : OpR X (compareOp .Eq) (rEqP K) := by subst h; exact op_eqP hu
theorem k_neP (K : PySem.W.Frag) (hu : X.A.units + 64 < cLine) (h : X.K = K := by rfl) : OpR X (compareOp .NotEq) (rNeP K) := by subst h; exact op_neP hu
theorem k_inP (K : PySem.W.Frag) (hu : X.A.units + 64 < cLine) (h : X.K = K := by rfl) : OpR X (compareOp .In) (rInP K false) := by subst h; exact op_inP hu
theorem k_ninP (K : PySem.W.Frag) (hu : X.A.units + 64 < cLine) (h : X.K = K := by rfl) : OpR X (compareOp .NotIn) (rInP K true) := by subst h; exact op_ninP hu
end
/-- data that are compared, n: how deep -/
structure EqP {α : Type} [DecidableEq α] (e : α → D) (n : Nat) where
  pd : α → PyData
  dp : ∀ (K : PySem.W.Frag) (H : Hp) (a : α) (x : V), Rep K H (e a) x → Dp K H x (pd a)
  pl : ∀ a, (pd a).plain = true
  dep : ∀ a, (pd a).depth ≤ n
  eqv : ∀ a b, PyData.eqv (pd a) (pd b) = decide (a = b)
structure EqPs {α : Type} [DecidableEq α] (f : α → List D) (n : Nat) where
  pds : α → List PyData
  dp : ∀ (K : PySem.W.Frag) (H : Hp) (a : α) (ws : List V), Reps K H (f a) ws → DpAll K H ws (pds a)
  pl : ∀ a, PyData.plainAll (pds a) = true
  dep : ∀ a, PyData.depthAll (pds a) ≤ n
  eqv : ∀ a b, PyData.eqvAll (pds a) (pds b) = decide (a = b)
section
variable {α β : Type} [DecidableEq α] [DecidableEq β] {e : α → D} {f : β → List D} {n m : Nat}
def eqps_0 : EqPs (fun _ : Unit => []) 0 where
  pds := fun _ => []
  dp := fun K H a ws r => by unfold Reps at r; subst r; exact .nil
  pl := fun _ => rfl
  dep := fun _ => by simp [PyData.depthAll]
  eqv := fun _ _ => by simp [PyData.eqvAll]
def eqps_1 (c : EqP e n) : EqPs (fun a => [e a]) n where
  pds := fun a => [c.pd a]
  dp := fun K H a ws r => by
    obtain ⟨x, rfl, r1⟩ := reps1 r
    exact .cons (c.dp _ _ _ _ r1) .nil
  pl := fun a => by simp [PyData.plainAll, c.pl]
  dep := fun a => by have := c.dep a; simp [PyData.depthAll]; omega
  eqv := fun a b => by simp [PyData.eqvAll, c.eqv]
def eqps_c (c : EqP e n) (cs : EqPs f m) : EqPs (fun q : α × β => e q.1 :: f q.2) (max n m) where
  pds := fun q => c.pd q.1 :: cs.pds q.2
  dp := fun K H a ws r => by
    unfold Reps at r
    obtain ⟨x, us, rfl, r1, r2⟩ := r
    exact .cons (c.dp _ _ _ _ r1) (cs.dp _ _ _ _ r2)
  pl := fun a => by simp [PyData.plainAll, c.pl, cs.pl]
  dep := fun a => by have h1 := c.dep a.1; have h2 := cs.dep a.2; simp [PyData.depthAll]; omega
  eqv := fun a b => by
    obtain ⟨a1, a2⟩ := a
    obtain ⟨b1, b2⟩ := b
    simp only [PyData.eqvAll, c.eqv, cs.eqv]
    by_cases h : a1 = b1 <;> by_cases h2 : a2 = b2 <;> simp [h, h2]
def eqp_tup (cs : EqPs f n) : EqP (fun a => .tup (f a)) (n + 1) where
  pd := fun a => .tuple (cs.pds a)
  dp := fun K H a x r => by
    have r : Rep K H (.tup (f a)) x := r
    unfold Rep at r
    obtain ⟨p, ws, rfl, e1, e2⟩ := r
    exact .tup e1 (cs.dp _ _ _ _ e2)
  pl := fun a => by rw [PyData.plain]; exact cs.pl a
  dep := fun a => by rw [PyData.depth]; have := cs.dep a; omega
  eqv := fun a b => by rw [PyData.eqv, cs.eqv]
def eqp_hl (cs : EqPs f n) : EqP (fun a => .lst (f a)) (n + 1) where
  pd := fun a => .list (cs.pds a)
  dp := fun K H a x r => by
    have r : Rep K H (.lst (f a)) x := r
    unfold Rep at r
    obtain ⟨p, ws, rfl, e1, e2⟩ := r
    exact .lst e1 (cs.dp _ _ _ _ e2)
  pl := fun a => by rw [PyData.plain]; exact cs.pl a
  dep := fun a => by rw [PyData.depth]; have := cs.dep a; omega
  eqv := fun a b => by rw [PyData.eqv, cs.eqv]
def eqps_m (c : EqP e n) : EqPs (fun l : List α => l.map e) n where
  pds := fun l => l.map c.pd
  dp := fun K H a => by
    induction a with
    | nil => intro ws r; simp only [List.map_nil] at r; unfold Reps at r; subst r; exact .nil
    | cons x l ih =>
      intro ws r
      simp only [List.map_cons] at r
      unfold Reps at r
      obtain ⟨y, us, rfl, r1, r2⟩ := r
      exact .cons (c.dp _ _ _ _ r1) (ih _ r2)
  pl := fun a => by
    induction a with
    | nil => rfl
    | cons x l ih => simp only [List.map_cons, PyData.plainAll, c.pl, ih]; rfl
  dep := fun a => by
    induction a with
    | nil => simp [PyData.depthAll]
    | cons x l ih => have := c.dep x; simp [PyData.depthAll]; omega
  eqv := fun a => by
    induction a with
    | nil => intro b; cases b <;> simp [PyData.eqvAll]
    | cons x l ih =>
      intro b
      cases b with
      | nil => simp [PyData.eqvAll]
      | cons y r => simp only [List.map_cons, PyData.eqvAll, c.eqv, ih]; by_cases h : x = y <;> by_cases h2 : l = r <;> simp [h, h2]
def eqp_u (c : EqP e n) : EqP (eU e) (n + 1) := eqp_tup (eqps_m c)
def eqp_l (c : EqP e n) : EqP (eL e) (n + 1) := eqp_hl (eqps_m c)
end
theorem S_eqb {a b : List Nat} : (S a == S b) = decide (a = b) := by
  rw [← S_dec]
  by_cases h : S a = S b
  · simp [h]
  · rw [decide_eq_false h]; exact Bool.eq_false_iff.2 fun e => h (eq_of_beq e)
def eqp_x : EqP stx 0 := ⟨fun l => .str (S l), fun K H a x r => by unfold stx Rep at r; subst r; exact .str _, fun a => rfl, fun a => by simp [PyData.depth], fun a b => by rw [PyData.eqv]; exact S_eqb⟩
def eqp_c : EqP eC 0 := ⟨fun l => .str (S [l]), fun K H a x r => by unfold eC stx Rep at r; subst r; exact .str _, fun a => rfl, fun a => by simp [PyData.depth], fun a b => by rw [PyData.eqv, S_eqb]; simp⟩
def eqp_b : EqP D.bl 0 := ⟨.bool, fun K H a x r => by unfold Rep at r; subst r; exact .bl a, fun a => rfl, fun a => by simp [PyData.depth], fun a b => by rw [PyData.eqv]; cases a <;> cases b <;> rfl⟩
def eqp_int : EqP D.int 0 := ⟨.int, fun K H a x r => by unfold Rep at r; subst r; exact .int a, fun a => rfl, fun a => by simp [PyData.depth], fun a b => by rw [PyData.eqv]; exact beq_dec a b⟩
/-- a datum that is not None, as PyData -/
def NnP {α : Type} [DecidableEq α] {e : α → D} {n : Nat} (c : EqP e n) : Prop := ∀ a, PyData.eqv (c.pd a) .none = false ∧ PyData.eqv .none (c.pd a) = false
theorem nnp_int : NnP eqp_int := fun a => ⟨by show PyData.eqv (.int a) .none = false; rw [PyData.eqv] <;> intros <;> contradiction, by show PyData.eqv .none (.int a) = false; rw [PyData.eqv] <;> intros <;> contradiction⟩
theorem nnp_x : NnP eqp_x := fun a => ⟨by show PyData.eqv (.str _) .none = false; rw [PyData.eqv] <;> intros <;> contradiction, by show PyData.eqv .none (.str _) = false; rw [PyData.eqv] <;> intros <;> contradiction⟩
theorem nnp_b : NnP eqp_b := fun a => ⟨by show PyData.eqv (.bool _) .none = false; rw [PyData.eqv] <;> intros <;> contradiction, by show PyData.eqv .none (.bool _) = false; rw [PyData.eqv] <;> intros <;> contradiction⟩
theorem nnp_tup {α : Type} [DecidableEq α] {f : α → List D} {n : Nat} (cs : EqPs f n) : NnP (eqp_tup cs) := fun a => ⟨by show PyData.eqv (.tuple _) .none = false; rw [PyData.eqv] <;> intros <;> contradiction, by show PyData.eqv .none (.tuple _) = false; rw [PyData.eqv] <;> intros <;> contradiction⟩
theorem nnp_hl {α : Type} [DecidableEq α] {f : α → List D} {n : Nat} (cs : EqPs f n) : NnP (eqp_hl cs) := fun a => ⟨by show PyData.eqv (.list _) .none = false; rw [PyData.eqv] <;> intros <;> contradiction, by show PyData.eqv .none (.list _) = false; rw [PyData.eqv] <;> intros <;> contradiction⟩
def eqp_n {α : Type} [DecidableEq α] {e : α → D} {n : Nat} (c : EqP e n) (hn : NnP c) : EqP (eN e) n where
  pd := fun v => match v with | none => .none | some a => c.pd a
  dp := fun K H a x r => by
    cases a with
    | none => have r : Rep K H .non x := r; unfold Rep at r; subst r; exact .non
    | some a => exact c.dp K H a x r
  pl := fun a => by cases a with | none => rfl | some a => exact c.pl a
  dep := fun a => by cases a with | none => simp [PyData.depth] | some a => exact c.dep a
  eqv := fun a b => by
    cases a <;> cases b
    · simp [PyData.eqv]
    · rename_i b; show PyData.eqv .none (c.pd b) = _; rw [(hn b).2]; simp
    · rename_i a; show PyData.eqv (c.pd a) .none = _; rw [(hn a).1]; simp
    · rename_i a b; show PyData.eqv (c.pd a) (c.pd b) = _; rw [c.eqv]; simp
section
variable {K : PySem.W.Frag} {env : List Slot} {ta tb : TE} {α : Type} [DecidableEq α] {e : α → D} {n : Nat} {a b : α} {xs : List α}
theorem ee_eqP (c : EqP e n) (hn : n ≤ 60) (h1 : EvE K ta env (e a)) (h2 : EvE K tb env (e b)) : EvE K (tOp (rEqP K) ta tb) env (.bl (decide (a = b))) :=
  ee_op h1 h2 fun B F x y hs rx ry Q q => ⟨c.pd a, c.pd b, c.dp _ _ _ _ (rx.mono hs), c.dp _ _ _ _ (ry.mono hs), c.pl a, c.pl b, Nat.le_trans (c.dep a) hn, q B F _ (Gr.refl hs) (by rw [c.eqv]; exact rp_bl _)⟩
theorem ee_neP (c : EqP e n) (hn : n ≤ 60) (h1 : EvE K ta env (e a)) (h2 : EvE K tb env (e b)) : EvE K (tOp (rNeP K) ta tb) env (.bl (!decide (a = b))) :=
  ee_op h1 h2 fun B F x y hs rx ry Q q => ⟨c.pd a, c.pd b, c.dp _ _ _ _ (rx.mono hs), c.dp _ _ _ _ (ry.mono hs), c.pl a, c.pl b, Nat.le_trans (c.dep a) hn, q B F _ (Gr.refl hs) (by rw [c.eqv]; exact rp_bl _)⟩
theorem any_eqv (c : EqP e n) (a : α) : ∀ xs : List α, ((xs.map c.pd).any fun z => PyData.eqv z (c.pd a)) = decide (a ∈ xs)
  | [] => by simp
  | x :: xs => by
    rw [List.map_cons, List.any_cons, any_eqv c a xs, c.eqv]
    by_cases h : x = a
    · subst h; simp
    · have h' : ¬ a = x := fun e => h e.symm
      simp [h, h']
/-- x in xs, a list of data -/
theorem ee_inPL {neg : Bool} (c : EqP e n) (hn : n ≤ 60) (h1 : EvE K ta env (e a)) (h2 : EvE K tb env (eL e xs)) : EvE K (tOp (rInP K neg) ta tb) env (.bl (if neg then !decide (a ∈ xs) else decide (a ∈ xs))) :=
  ee_op h1 h2 fun B F x y hs rx ry Q q => ⟨c.pd a, xs.map c.pd, c.dp _ _ _ _ (rx.mono hs), .inl ((eqp_l c).dp _ _ _ _ (ry.mono hs)), c.pl a, (eqps_m c).pl xs, Nat.le_trans (c.dep a) hn, q B F _ (Gr.refl hs) (by rw [any_eqv c a]; exact rp_bl _)⟩
theorem ee_inPU {neg : Bool} (c : EqP e n) (hn : n ≤ 60) (h1 : EvE K ta env (e a)) (h2 : EvE K tb env (eU e xs)) : EvE K (tOp (rInP K neg) ta tb) env (.bl (if neg then !decide (a ∈ xs) else decide (a ∈ xs))) :=
  ee_op h1 h2 fun B F x y hs rx ry Q q => ⟨c.pd a, xs.map c.pd, c.dp _ _ _ _ (rx.mono hs), .inr ((eqp_u c).dp _ _ _ _ (ry.mono hs)), c.pl a, (eqps_m c).pl xs, Nat.le_trans (c.dep a) hn, q B F _ (Gr.refl hs) (by rw [any_eqv c a]; exact rp_bl _)⟩
end
end Y

/-! X31: classes: their __init__ (which may raise), methods, properties, making by keywords; defs with defaults. -/
namespace Y
open PySem PySem.Spec PyProof.Rows L2
/-- a def behind the top, whatever its defaults are -/
structure FunG (K : PySem.W.Frag) (x qual : Str) (st : Stmt) (f : Addr) (fd : FuncData) : Prop where
  ex : ∃ (oc : Value) (od : Option Addr) (dV kV doc pm : Value) (an : Option Addr) (cdv ct : Value) (osl : Array (Option Value)),
    fd = PySem.W.fnOf x qual (defArgs st) (defBody st) (defScope st) dV kV doc pm an cdv ct ∧ K.lookup f = some ⟨oc, od, .func fd, osl⟩ ∧ PySem.W.codeIn K cdv qual = true
  kp : PySem.W.keepIn K (.ref f) = true
section
variable {P : Program} {w : World} {K : PySem.W.Frag} {mg : Str → Option Value} {base : Heap} {x qual : Str} {st : Stmt} {f : Addr} {fd : FuncData} {N ps : List Str} {k : Nat}
theorem _root_.L2.Fun.g (F : Fun K x qual st f fd) : FunG K x qual st f fd := by
  obtain ⟨oc, od, kV, doc, pm, an, cdv, ct, osl, h⟩ := F.ex
  exact ⟨⟨oc, od, .none, kV, doc, pm, an, cdv, ct, osl, h⟩, F.kp⟩
theorem _root_.L2.FunD.g {dvs : List V} {kws : List (Str × V)} (F : FunD K x qual (defArgs st) (defBody st) (defScope st) dvs kws f fd) : FunG K x qual st f fd := by
  obtain ⟨oc, od, dV, kV, doc, pm, an, cdv, ct, osl, h1, h2, h3, _⟩ := F.ex
  exact ⟨⟨oc, od, dV, kV, doc, pm, an, cdv, ct, osl, h1, h2, h3⟩, F.kp⟩
theorem FunG.ok0 {sp : Sp} (F : FunG K x qual st f fd) (S : FnScope N ps (defScope st)) (len : ∀ vs H Q E, sp vs H Q E → vs.length = ps.length)
    (hbody : ∀ (cdv : Value) (A : Around) (outer : List Env) (s : Shared) (H : Hp) (vs : List V) (Q : VK) (E : XK), Room k (A.deeper (envOfC qual (defScope st) s.heap.objs.size f cdv)) → sp vs H Q E →
      ∃ t, PSs (cxOf CX0 P w K mg base N qual (defScope st) f cdv A outer s H E).nox (defBody st) t ∧ t { nx := fun _ H' => Q .non H', rt := Q } (start N vs) H) : FnOk P w K mg base CX0 (k + 1) f fd ps sp := by
  obtain ⟨oc, od, dV, kV, doc, pm, an, cdv, ct, osl, rfl, lk, hcd⟩ := F.ex
  refine fn_of lk hcd S len fun A outer s H vs Q E hr hsp => ?_
  obtain ⟨t, h, q⟩ := hbody cdv A outer s H vs Q E hr hsp
  exact ⟨t, h.nox, q⟩
theorem FunG.okX {sp : Sp} {CX : CXT} (F : FunG K x qual st f fd) (S : FnScope N ps (defScope st)) (len : ∀ vs H Q E, sp vs H Q E → vs.length = ps.length)
    (hbody : ∀ (cdv : Value) (A : Around) (outer : List Env) (s : Shared) (H : Hp) (vs : List V) (Q : VK) (E : XK), Room k (A.deeper (envOfC qual (defScope st) s.heap.objs.size f cdv)) → sp vs H Q E →
      ∃ t, PSs (cxOf CX P w K mg base N qual (defScope st) f cdv A outer s H E) (defBody st) t ∧ t { nx := fun _ H' => Q .non H', rt := Q } (start N vs) H) : FnOk P w K mg base CX (k + 1) f fd ps sp := by
  obtain ⟨oc, od, dV, kV, doc, pm, an, cdv, ct, osl, rfl, lk, hcd⟩ := F.ex
  exact fn_of lk hcd S len fun A outer s H vs Q E hr hsp => hbody cdv A outer s H vs Q E hr hsp
theorem ok_defG {R : List D → O → Prop} (F : FunG K x qual st f fd) (S : FnScope N ps (defScope st)) (len : ∀ ds r, R ds r → ds.length = ps.length)
    (hbody : ∀ (cdv : Value) (A : Around) (outer : List Env) (s : Shared) (H : Hp) (E : XK), Room k (A.deeper (envOfC qual (defScope st) s.heap.objs.size f cdv)) →
      ∃ t, PSs (cxOf CX0 P w K mg base N qual (defScope st) f cdv A outer s H E).nox (defBody st) t ∧ ∀ ds r, R ds r → ∀ H0 H1 rt, RtX K H0 H1 rt r → Go K H0 H1 t { nx := fun _ H' => rt .non H', rt := rt } (startE N ds)) : FnOk P w K mg base CX0 (k + 1) f fd ps (spX K R) := by
  refine F.ok0 S (fun vs H Q E h => ?_) (fun cdv A outer s H vs Q E hr h => ?_)
  · obtain ⟨B, ds, r, _, h2, h3, _⟩ := h
    rw [h2.len, len ds r h3]
  · obtain ⟨t, ht, hg⟩ := hbody cdv A outer s H E hr
    obtain ⟨B, ds, r, h1, h2, h3, h4⟩ := h
    exact ⟨t, ht, hg ds r h3 B H Q (fun B' F' x P g w p => h4 B' F' x P g w p) B H _ (start_state h1 h2)⟩
theorem ok_defGE {R : List D → Sum XD O → Prop} (F : FunG K x qual st f fd) (S : FnScope N ps (defScope st)) (len : ∀ ds r, R ds r → ds.length = ps.length)
    (hbody : ∀ (cdv : Value) (A : Around) (outer : List Env) (s : Shared) (H : Hp) (E : XK), Room k (A.deeper (envOfC qual (defScope st) s.heap.objs.size f cdv)) →
      ∃ t, PSs (cxOf (L2.CX P w) P w K mg base N qual (defScope st) f cdv A outer s H E) (defBody st) t ∧ ∀ ds r, R ds r → ∀ H0 H1 rt, (∀ o, r = .inr o → RtX K H0 H1 rt o) → (∀ x, r = .inl x → RtE K H0 H1 E x) → Go K H0 H1 t { nx := fun _ H' => rt .non H', rt := rt } (startE N ds)) :
    FnOk P w K mg base (L2.CX P w) (k + 1) f fd ps (spE K R) := by
  refine F.okX S (fun vs H Q E h => ?_) (fun cdv A outer s H vs Q E hr h => ?_)
  · obtain ⟨B, ds, r, _, h2, h3, _⟩ := h
    rw [h2.len, len ds r h3]
  · obtain ⟨t, ht, hg⟩ := hbody cdv A outer s H E hr
    obtain ⟨B, ds, r, h1, h2, h3, h4, h5⟩ := h
    exact ⟨t, ht, hg ds r h3 B H Q (fun o e B' F' x P g w p => h4 o e B' F' x P g w p) (fun x e B' F' cls d g rx => h5 x e B' F' cls d g rx) B H _ (start_state h1 h2)⟩
end
/-! ### __init__ that may raise -/
def spIE (K : PySem.W.Frag) (C : Addr) (R : List D → Sum XD (List Str × List D) → Prop) : Sp := fun vs F Q E => ∃ B a dx ws ds r, vs = .ref a :: ws ∧ F a = some (.ins C dx []) ∧ B a = none ∧ Same B F ∧ Reps K B ds ws ∧ R ds r ∧
  (∀ q, r = .inr q → ∀ B' G us dx', Gr B (dl a F) B' (dl a G) → B' a = none → G a = some (.ins C dx' (q.1.zip us)) → Reps K B' q.2 us → q.1.length = q.2.length → Q .non G) ∧
  (∀ x, r = .inl x → ∀ B' G cls d, Gr B (dl a F) B' G → RepX K B' x cls d → E cls d G)
/-- the end of an __init__: what is made is told by slot 0 -/
def RxI {ξ ρ : Type} (K : PySem.W.Frag) (E : XK) (xd : ξ → XD) (a C : Addr) (ns : List Str) (ob : ρ → List D) : Rxt (Sum ξ ρ) := fun H0 H1 rt r => match r with
  | .inl x => RtE K H0 H1 E (xd x)
  | .inr v => ∀ env : List Slot, env[0]? = some (.obj (.ref a) (.ow (.ins C ns) ((ob v).map .fr))) → Nx K H0 H1 (fun _ H' => rt .non H') env
def RxI0 {ρ : Type} (K : PySem.W.Frag) (a C : Addr) (ns : List Str) (ob : ρ → List D) : Rxt ρ := fun H0 H1 rt v => ∀ env : List Slot, env[0]? = some (.obj (.ref a) (.ow (.ins C ns) ((ob v).map .fr))) → Nx K H0 H1 (fun _ H' => rt .non H') env
section
variable {ξ ρ σ τ β : Type} {K : PySem.W.Frag} {E : XK} {xd : ξ → XD} {a C : Addr} {ns : List Str} {ob : ρ → List D} {env : List Slot} {t : TS}
theorem lv_I : Leaves K (PRx (RxI K E xd a C ns ob)) (WD E) env xd (fun x => (.inl x : Sum ξ ρ)) := fun H0 H1 En x h => NxX.of h
theorem xi_end0 {v : ρ} (h : env[0]? = some (.obj (.ref a) (.ow (.ins C ns) ((ob v).map .fr)))) : Blk K TyR (PRx (RxI0 K a C ns ob)) tNext env (.p v) := fun H0 H1 En hT _ hΦ B F σ st => by
  show En.nx σ F
  rw [show En.nx = _ from hT]
  exact hΦ env h B F σ st
theorem xi_one0 {m : G β} {N : β → List Slot} {g : β → ρ} (h : St K t env m N) (hs : ∀ s, (N s)[0]? = some (.obj (.ref a) (.ow (.ins C ns) ((ob (g s)).map .fr)))) : Blk K TyR (PRx (RxI0 K a C ns ob)) t env (m.b fun s => .p (g s)) := fun H0 H1 En hT ok hΦ =>
  h H0 H1 En ok.1 fun B F σ st => by
    rw [show En.nx = _ from hT]
    exact hΦ _ (hs _) B F σ st
theorem xi_endX {v : ρ} (h : env[0]? = some (.obj (.ref a) (.ow (.ins C ns) ((ob v).map .fr)))) : Blk K TyR (PRx (RxI K E xd a C ns ob)) tNext env (.p (.inr v)) := fun H0 H1 En hT _ hΦ B F σ st => by
  show En.nx σ F
  rw [show En.nx = _ from hT]
  exact hΦ env h B F σ st
theorem xi_oneX {m : G β} {N : β → List Slot} {g : β → ρ} (h : St K t env m N) (hs : ∀ s, (N s)[0]? = some (.obj (.ref a) (.ow (.ins C ns) ((ob (g s)).map .fr)))) : Blk K TyR (PRx (RxI K E xd a C ns ob)) t env (m.b fun s => .p (.inr (g s))) := fun H0 H1 En hT ok hΦ =>
  h H0 H1 En ok.1 fun B F σ st => by
    rw [show En.nx = _ from hT]
    exact hΦ _ (hs _) B F σ st
/-- self.f = e, f new -/
theorem st_fldS {te : TE} {i : Nat} {x : V} {ds : List D} {f : Str} {e : σ → D} {v : σ} (he : env[i]? = some (.obj x (.ow (.ins C ns) (ds.map .fr)))) (h : EvE K te env (e v)) (c : Cls K C) (n : NoAttr K C f) (hf : f ∉ ns) (hz : ns.length < 900) :
    St K (sFld K (tVar i) te f) env (.p v) (fun y => env.set i (.obj x (.ow (.ins C (ns ++ [f])) ((ds ++ [e y]).map .fr)))) := fun H0 H1 En _ k => go_fldS he h c n hf hz k
/-- self.f where self is being made -/
theorem ee_fldI {i : Nat} {x : V} {ds : List D} {f : Str} {d : D} (he : env[i]? = some (.obj x (.ow (.ins C ns) (ds.map .fr)))) (c : Cls K C) (n : NoAttr K C f) (hf : (ns.zip ds).lookup f = some d) : EvE K (tFld K (tVar i) f) env d := ee_fldS he c n hf
end
def outI {ξ ρ : Type} (xd : ξ → XD) (ns : List Str) (ob : ρ → List D) : Sum ξ ρ → Sum XD (List Str × List D)
  | .inl x => .inl (xd x)
  | .inr v => .inr (ns, ob v)
theorem outI_calm {ξ ρ : Type} [Inhabited ρ] {m : G (Sum ξ ρ)} {xd : ξ → XD} {ns : List Str} {ob : ρ → List D} (h : ∃ r, m.val = .inr r) : Sum.inr (ns, ob (calmG m).val) = outI xd ns ob m.val := by
  obtain ⟨r, hr⟩ := h
  unfold calmG
  simp only [hr]
  rfl
def RI1 {ρ a1 : Type} (m : a1 → G ρ) (e1 : a1 → D) (ns : List Str) (ob : ρ → List D) : List D → List Str × List D → Prop := fun ds q => ∃ x1, ds = [e1 x1] ∧ (m x1).ok ∧ q = (ns, ob (m x1).val)
def RJ1 {ξ ρ a1 : Type} (m : a1 → G (Sum ξ ρ)) (e1 : a1 → D) (xd : ξ → XD) (ns : List Str) (ob : ρ → List D) : List D → Sum XD (List Str × List D) → Prop := fun ds q => ∃ x1, ds = [e1 x1] ∧ (m x1).ok ∧ q = outI xd ns ob (m x1).val
theorem calmI1 {ξ ρ a1 : Type} [Inhabited ρ] {m : a1 → G (Sum ξ ρ)} {e1 : a1 → D} {xd : ξ → XD} {ns : List Str} {ob : ρ → List D} {ds : List D} {q : List Str × List D} (h : RI1 (fun x1 => calmG (m x1)) e1 ns ob ds q) : RJ1 m e1 xd ns ob ds (.inr q) := by
  obtain ⟨x1, rfl, ⟨ok, hv⟩, rfl⟩ := h
  exact ⟨x1, rfl, ok, outI_calm hv⟩
def RI2 {ρ a1 a2 : Type} (m : a1 → a2 → G ρ) (e1 : a1 → D) (e2 : a2 → D) (ns : List Str) (ob : ρ → List D) : List D → List Str × List D → Prop := fun ds q => ∃ x1 x2, ds = [e1 x1, e2 x2] ∧ (m x1 x2).ok ∧ q = (ns, ob (m x1 x2).val)
def RJ2 {ξ ρ a1 a2 : Type} (m : a1 → a2 → G (Sum ξ ρ)) (e1 : a1 → D) (e2 : a2 → D) (xd : ξ → XD) (ns : List Str) (ob : ρ → List D) : List D → Sum XD (List Str × List D) → Prop := fun ds q => ∃ x1 x2, ds = [e1 x1, e2 x2] ∧ (m x1 x2).ok ∧ q = outI xd ns ob (m x1 x2).val
theorem calmI2 {ξ ρ a1 a2 : Type} [Inhabited ρ] {m : a1 → a2 → G (Sum ξ ρ)} {e1 : a1 → D} {e2 : a2 → D} {xd : ξ → XD} {ns : List Str} {ob : ρ → List D} {ds : List D} {q : List Str × List D} (h : RI2 (fun x1 x2 => calmG (m x1 x2)) e1 e2 ns ob ds q) : RJ2 m e1 e2 xd ns ob ds (.inr q) := by
  obtain ⟨x1, x2, rfl, ⟨ok, hv⟩, rfl⟩ := h
  exact ⟨x1, x2, rfl, ok, outI_calm hv⟩
def RI3 {ρ a1 a2 a3 : Type} (m : a1 → a2 → a3 → G ρ) (e1 : a1 → D) (e2 : a2 → D) (e3 : a3 → D) (ns : List Str) (ob : ρ → List D) : List D → List Str × List D → Prop := fun ds q => ∃ x1 x2 x3, ds = [e1 x1, e2 x2, e3 x3] ∧ (m x1 x2 x3).ok ∧ q = (ns, ob (m x1 x2 x3).val)
def RJ3 {ξ ρ a1 a2 a3 : Type} (m : a1 → a2 → a3 → G (Sum ξ ρ)) (e1 : a1 → D) (e2 : a2 → D) (e3 : a3 → D) (xd : ξ → XD) (ns : List Str) (ob : ρ → List D) : List D → Sum XD (List Str × List D) → Prop := fun ds q => ∃ x1 x2 x3, ds = [e1 x1, e2 x2, e3 x3] ∧ (m x1 x2 x3).ok ∧ q = outI xd ns ob (m x1 x2 x3).val
theorem calmI3 {ξ ρ a1 a2 a3 : Type} [Inhabited ρ] {m : a1 → a2 → a3 → G (Sum ξ ρ)} {e1 : a1 → D} {e2 : a2 → D} {e3 : a3 → D} {xd : ξ → XD} {ns : List Str} {ob : ρ → List D} {ds : List D} {q : List Str × List D} (h : RI3 (fun x1 x2 x3 => calmG (m x1 x2 x3)) e1 e2 e3 ns ob ds q) : RJ3 m e1 e2 e3 xd ns ob ds (.inr q) := by
  obtain ⟨x1, x2, x3, rfl, ⟨ok, hv⟩, rfl⟩ := h
  exact ⟨x1, x2, x3, rfl, ok, outI_calm hv⟩
def RI4 {ρ a1 a2 a3 a4 : Type} (m : a1 → a2 → a3 → a4 → G ρ) (e1 : a1 → D) (e2 : a2 → D) (e3 : a3 → D) (e4 : a4 → D) (ns : List Str) (ob : ρ → List D) : List D → List Str × List D → Prop := fun ds q => ∃ x1 x2 x3 x4, ds = [e1 x1, e2 x2, e3 x3, e4 x4] ∧ (m x1 x2 x3 x4).ok ∧ q = (ns, ob (m x1 x2 x3 x4).val)
def RJ4 {ξ ρ a1 a2 a3 a4 : Type} (m : a1 → a2 → a3 → a4 → G (Sum ξ ρ)) (e1 : a1 → D) (e2 : a2 → D) (e3 : a3 → D) (e4 : a4 → D) (xd : ξ → XD) (ns : List Str) (ob : ρ → List D) : List D → Sum XD (List Str × List D) → Prop := fun ds q => ∃ x1 x2 x3 x4, ds = [e1 x1, e2 x2, e3 x3, e4 x4] ∧ (m x1 x2 x3 x4).ok ∧ q = outI xd ns ob (m x1 x2 x3 x4).val
theorem calmI4 {ξ ρ a1 a2 a3 a4 : Type} [Inhabited ρ] {m : a1 → a2 → a3 → a4 → G (Sum ξ ρ)} {e1 : a1 → D} {e2 : a2 → D} {e3 : a3 → D} {e4 : a4 → D} {xd : ξ → XD} {ns : List Str} {ob : ρ → List D} {ds : List D} {q : List Str × List D} (h : RI4 (fun x1 x2 x3 x4 => calmG (m x1 x2 x3 x4)) e1 e2 e3 e4 ns ob ds q) : RJ4 m e1 e2 e3 e4 xd ns ob ds (.inr q) := by
  obtain ⟨x1, x2, x3, x4, rfl, ⟨ok, hv⟩, rfl⟩ := h
  exact ⟨x1, x2, x3, x4, rfl, ok, outI_calm hv⟩
def RX5 {ξ r a1 a2 a3 a4 a5 : Type} (m : a1 → a2 → a3 → a4 → a5 → G (Sum ξ r)) (e1 : a1 → D) (e2 : a2 → D) (e3 : a3 → D) (e4 : a4 → D) (e5 : a5 → D) (xd : ξ → XD) (o : r → O) : List D → Sum XD O → Prop := fun ds q => ∃ x1 x2 x3 x4 x5, ds = [e1 x1, e2 x2, e3 x3, e4 x4, e5 x5] ∧ (m x1 x2 x3 x4 x5).ok ∧ q = outc xd o (m x1 x2 x3 x4 x5).val
def RC5 {ξ r a1 a2 a3 a4 a5 : Type} [Inhabited r] (m : a1 → a2 → a3 → a4 → a5 → G (Sum ξ r)) (e1 : a1 → D) (e2 : a2 → D) (e3 : a3 → D) (e4 : a4 → D) (e5 : a5 → D) (o : r → O) : List D → O → Prop := R5 (fun x1 x2 x3 x4 x5 => calmG (m x1 x2 x3 x4 x5)) e1 e2 e3 e4 e5 o
theorem calm5 {ξ r a1 a2 a3 a4 a5 : Type} [Inhabited r] {m : a1 → a2 → a3 → a4 → a5 → G (Sum ξ r)} {e1 : a1 → D} {e2 : a2 → D} {e3 : a3 → D} {e4 : a4 → D} {e5 : a5 → D} {xd : ξ → XD} {o : r → O} {ds : List D} {q : O} (h : RC5 m e1 e2 e3 e4 e5 o ds q) : RX5 m e1 e2 e3 e4 e5 xd o ds (.inr q) := by
  obtain ⟨x1, x2, x3, x4, x5, rfl, ⟨ok, hv⟩, rfl⟩ := h
  exact ⟨x1, x2, x3, x4, x5, rfl, ok, outc_calm hv⟩
def RI5 {ρ a1 a2 a3 a4 a5 : Type} (m : a1 → a2 → a3 → a4 → a5 → G ρ) (e1 : a1 → D) (e2 : a2 → D) (e3 : a3 → D) (e4 : a4 → D) (e5 : a5 → D) (ns : List Str) (ob : ρ → List D) : List D → List Str × List D → Prop := fun ds q => ∃ x1 x2 x3 x4 x5, ds = [e1 x1, e2 x2, e3 x3, e4 x4, e5 x5] ∧ (m x1 x2 x3 x4 x5).ok ∧ q = (ns, ob (m x1 x2 x3 x4 x5).val)
def RJ5 {ξ ρ a1 a2 a3 a4 a5 : Type} (m : a1 → a2 → a3 → a4 → a5 → G (Sum ξ ρ)) (e1 : a1 → D) (e2 : a2 → D) (e3 : a3 → D) (e4 : a4 → D) (e5 : a5 → D) (xd : ξ → XD) (ns : List Str) (ob : ρ → List D) : List D → Sum XD (List Str × List D) → Prop := fun ds q => ∃ x1 x2 x3 x4 x5, ds = [e1 x1, e2 x2, e3 x3, e4 x4, e5 x5] ∧ (m x1 x2 x3 x4 x5).ok ∧ q = outI xd ns ob (m x1 x2 x3 x4 x5).val
theorem calmI5 {ξ ρ a1 a2 a3 a4 a5 : Type} [Inhabited ρ] {m : a1 → a2 → a3 → a4 → a5 → G (Sum ξ ρ)} {e1 : a1 → D} {e2 : a2 → D} {e3 : a3 → D} {e4 : a4 → D} {e5 : a5 → D} {xd : ξ → XD} {ns : List Str} {ob : ρ → List D} {ds : List D} {q : List Str × List D} (h : RI5 (fun x1 x2 x3 x4 x5 => calmG (m x1 x2 x3 x4 x5)) e1 e2 e3 e4 e5 ns ob ds q) : RJ5 m e1 e2 e3 e4 e5 xd ns ob ds (.inr q) := by
  obtain ⟨x1, x2, x3, x4, x5, rfl, ⟨ok, hv⟩, rfl⟩ := h
  exact ⟨x1, x2, x3, x4, x5, rfl, ok, outI_calm hv⟩
def RX6 {ξ r a1 a2 a3 a4 a5 a6 : Type} (m : a1 → a2 → a3 → a4 → a5 → a6 → G (Sum ξ r)) (e1 : a1 → D) (e2 : a2 → D) (e3 : a3 → D) (e4 : a4 → D) (e5 : a5 → D) (e6 : a6 → D) (xd : ξ → XD) (o : r → O) : List D → Sum XD O → Prop := fun ds q => ∃ x1 x2 x3 x4 x5 x6, ds = [e1 x1, e2 x2, e3 x3, e4 x4, e5 x5, e6 x6] ∧ (m x1 x2 x3 x4 x5 x6).ok ∧ q = outc xd o (m x1 x2 x3 x4 x5 x6).val
def RC6 {ξ r a1 a2 a3 a4 a5 a6 : Type} [Inhabited r] (m : a1 → a2 → a3 → a4 → a5 → a6 → G (Sum ξ r)) (e1 : a1 → D) (e2 : a2 → D) (e3 : a3 → D) (e4 : a4 → D) (e5 : a5 → D) (e6 : a6 → D) (o : r → O) : List D → O → Prop := R6 (fun x1 x2 x3 x4 x5 x6 => calmG (m x1 x2 x3 x4 x5 x6)) e1 e2 e3 e4 e5 e6 o
theorem calm6 {ξ r a1 a2 a3 a4 a5 a6 : Type} [Inhabited r] {m : a1 → a2 → a3 → a4 → a5 → a6 → G (Sum ξ r)} {e1 : a1 → D} {e2 : a2 → D} {e3 : a3 → D} {e4 : a4 → D} {e5 : a5 → D} {e6 : a6 → D} {xd : ξ → XD} {o : r → O} {ds : List D} {q : O} (h : RC6 m e1 e2 e3 e4 e5 e6 o ds q) : RX6 m e1 e2 e3 e4 e5 e6 xd o ds (.inr q) := by
  obtain ⟨x1, x2, x3, x4, x5, x6, rfl, ⟨ok, hv⟩, rfl⟩ := h
  exact ⟨x1, x2, x3, x4, x5, x6, rfl, ok, outc_calm hv⟩
def RI6 {ρ a1 a2 a3 a4 a5 a6 : Type} (m : a1 → a2 → a3 → a4 → a5 → a6 → G ρ) (e1 : a1 → D) (e2 : a2 → D) (e3 : a3 → D) (e4 : a4 → D) (e5 : a5 → D) (e6 : a6 → D) (ns : List Str) (ob : ρ → List D) : List D → List Str × List D → Prop := fun ds q => ∃ x1 x2 x3 x4 x5 x6, ds = [e1 x1, e2 x2, e3 x3, e4 x4, e5 x5, e6 x6] ∧ (m x1 x2 x3 x4 x5 x6).ok ∧ q = (ns, ob (m x1 x2 x3 x4 x5 x6).val)
def RJ6 {ξ ρ a1 a2 a3 a4 a5 a6 : Type} (m : a1 → a2 → a3 → a4 → a5 → a6 → G (Sum ξ ρ)) (e1 : a1 → D) (e2 : a2 → D) (e3 : a3 → D) (e4 : a4 → D) (e5 : a5 → D) (e6 : a6 → D) (xd : ξ → XD) (ns : List Str) (ob : ρ → List D) : List D → Sum XD (List Str × List D) → Prop := fun ds q => ∃ x1 x2 x3 x4 x5 x6, ds = [e1 x1, e2 x2, e3 x3, e4 x4, e5 x5, e6 x6] ∧ (m x1 x2 x3 x4 x5 x6).ok ∧ q = outI xd ns ob (m x1 x2 x3 x4 x5 x6).val
theorem calmI6 {ξ ρ a1 a2 a3 a4 a5 a6 : Type} [Inhabited ρ] {m : a1 → a2 → a3 → a4 → a5 → a6 → G (Sum ξ ρ)} {e1 : a1 → D} {e2 : a2 → D} {e3 : a3 → D} {e4 : a4 → D} {e5 : a5 → D} {e6 : a6 → D} {xd : ξ → XD} {ns : List Str} {ob : ρ → List D} {ds : List D} {q : List Str × List D} (h : RI6 (fun x1 x2 x3 x4 x5 x6 => calmG (m x1 x2 x3 x4 x5 x6)) e1 e2 e3 e4 e5 e6 ns ob ds q) : RJ6 m e1 e2 e3 e4 e5 e6 xd ns ob ds (.inr q) := by
  obtain ⟨x1, x2, x3, x4, x5, x6, rfl, ⟨ok, hv⟩, rfl⟩ := h
  exact ⟨x1, x2, x3, x4, x5, x6, rfl, ok, outI_calm hv⟩
abbrev R7 {a1 a2 a3 a4 a5 a6 a7 ρ : Type} (m : a1 → a2 → a3 → a4 → a5 → a6 → a7 → G ρ) (e1 : a1 → D) (e2 : a2 → D) (e3 : a3 → D) (e4 : a4 → D) (e5 : a5 → D) (e6 : a6 → D) (e7 : a7 → D) (o : ρ → O) : List D → O → Prop := fun ds r => ∃ x1 x2 x3 x4 x5 x6 x7, ds = [e1 x1, e2 x2, e3 x3, e4 x4, e5 x5, e6 x6, e7 x7] ∧ (m x1 x2 x3 x4 x5 x6 x7).ok ∧ r = o (m x1 x2 x3 x4 x5 x6 x7).val
def RX7 {ξ r a1 a2 a3 a4 a5 a6 a7 : Type} (m : a1 → a2 → a3 → a4 → a5 → a6 → a7 → G (Sum ξ r)) (e1 : a1 → D) (e2 : a2 → D) (e3 : a3 → D) (e4 : a4 → D) (e5 : a5 → D) (e6 : a6 → D) (e7 : a7 → D) (xd : ξ → XD) (o : r → O) : List D → Sum XD O → Prop := fun ds q => ∃ x1 x2 x3 x4 x5 x6 x7, ds = [e1 x1, e2 x2, e3 x3, e4 x4, e5 x5, e6 x6, e7 x7] ∧ (m x1 x2 x3 x4 x5 x6 x7).ok ∧ q = outc xd o (m x1 x2 x3 x4 x5 x6 x7).val
def RC7 {ξ r a1 a2 a3 a4 a5 a6 a7 : Type} [Inhabited r] (m : a1 → a2 → a3 → a4 → a5 → a6 → a7 → G (Sum ξ r)) (e1 : a1 → D) (e2 : a2 → D) (e3 : a3 → D) (e4 : a4 → D) (e5 : a5 → D) (e6 : a6 → D) (e7 : a7 → D) (o : r → O) : List D → O → Prop := R7 (fun x1 x2 x3 x4 x5 x6 x7 => calmG (m x1 x2 x3 x4 x5 x6 x7)) e1 e2 e3 e4 e5 e6 e7 o
theorem calm7 {ξ r a1 a2 a3 a4 a5 a6 a7 : Type} [Inhabited r] {m : a1 → a2 → a3 → a4 → a5 → a6 → a7 → G (Sum ξ r)} {e1 : a1 → D} {e2 : a2 → D} {e3 : a3 → D} {e4 : a4 → D} {e5 : a5 → D} {e6 : a6 → D} {e7 : a7 → D} {xd : ξ → XD} {o : r → O} {ds : List D} {q : O} (h : RC7 m e1 e2 e3 e4 e5 e6 e7 o ds q) : RX7 m e1 e2 e3 e4 e5 e6 e7 xd o ds (.inr q) := by
  obtain ⟨x1, x2, x3, x4, x5, x6, x7, rfl, ⟨ok, hv⟩, rfl⟩ := h
  exact ⟨x1, x2, x3, x4, x5, x6, x7, rfl, ok, outc_calm hv⟩
def RI7 {ρ a1 a2 a3 a4 a5 a6 a7 : Type} (m : a1 → a2 → a3 → a4 → a5 → a6 → a7 → G ρ) (e1 : a1 → D) (e2 : a2 → D) (e3 : a3 → D) (e4 : a4 → D) (e5 : a5 → D) (e6 : a6 → D) (e7 : a7 → D) (ns : List Str) (ob : ρ → List D) : List D → List Str × List D → Prop := fun ds q => ∃ x1 x2 x3 x4 x5 x6 x7, ds = [e1 x1, e2 x2, e3 x3, e4 x4, e5 x5, e6 x6, e7 x7] ∧ (m x1 x2 x3 x4 x5 x6 x7).ok ∧ q = (ns, ob (m x1 x2 x3 x4 x5 x6 x7).val)
def RJ7 {ξ ρ a1 a2 a3 a4 a5 a6 a7 : Type} (m : a1 → a2 → a3 → a4 → a5 → a6 → a7 → G (Sum ξ ρ)) (e1 : a1 → D) (e2 : a2 → D) (e3 : a3 → D) (e4 : a4 → D) (e5 : a5 → D) (e6 : a6 → D) (e7 : a7 → D) (xd : ξ → XD) (ns : List Str) (ob : ρ → List D) : List D → Sum XD (List Str × List D) → Prop := fun ds q => ∃ x1 x2 x3 x4 x5 x6 x7, ds = [e1 x1, e2 x2, e3 x3, e4 x4, e5 x5, e6 x6, e7 x7] ∧ (m x1 x2 x3 x4 x5 x6 x7).ok ∧ q = outI xd ns ob (m x1 x2 x3 x4 x5 x6 x7).val
theorem calmI7 {ξ ρ a1 a2 a3 a4 a5 a6 a7 : Type} [Inhabited ρ] {m : a1 → a2 → a3 → a4 → a5 → a6 → a7 → G (Sum ξ ρ)} {e1 : a1 → D} {e2 : a2 → D} {e3 : a3 → D} {e4 : a4 → D} {e5 : a5 → D} {e6 : a6 → D} {e7 : a7 → D} {xd : ξ → XD} {ns : List Str} {ob : ρ → List D} {ds : List D} {q : List Str × List D} (h : RI7 (fun x1 x2 x3 x4 x5 x6 x7 => calmG (m x1 x2 x3 x4 x5 x6 x7)) e1 e2 e3 e4 e5 e6 e7 ns ob ds q) : RJ7 m e1 e2 e3 e4 e5 e6 e7 xd ns ob ds (.inr q) := by
  obtain ⟨x1, x2, x3, x4, x5, x6, x7, rfl, ⟨ok, hv⟩, rfl⟩ := h
  exact ⟨x1, x2, x3, x4, x5, x6, x7, rfl, ok, outI_calm hv⟩
abbrev R8 {a1 a2 a3 a4 a5 a6 a7 a8 ρ : Type} (m : a1 → a2 → a3 → a4 → a5 → a6 → a7 → a8 → G ρ) (e1 : a1 → D) (e2 : a2 → D) (e3 : a3 → D) (e4 : a4 → D) (e5 : a5 → D) (e6 : a6 → D) (e7 : a7 → D) (e8 : a8 → D) (o : ρ → O) : List D → O → Prop := fun ds r => ∃ x1 x2 x3 x4 x5 x6 x7 x8, ds = [e1 x1, e2 x2, e3 x3, e4 x4, e5 x5, e6 x6, e7 x7, e8 x8] ∧ (m x1 x2 x3 x4 x5 x6 x7 x8).ok ∧ r = o (m x1 x2 x3 x4 x5 x6 x7 x8).val
def RX8 {ξ r a1 a2 a3 a4 a5 a6 a7 a8 : Type} (m : a1 → a2 → a3 → a4 → a5 → a6 → a7 → a8 → G (Sum ξ r)) (e1 : a1 → D) (e2 : a2 → D) (e3 : a3 → D) (e4 : a4 → D) (e5 : a5 → D) (e6 : a6 → D) (e7 : a7 → D) (e8 : a8 → D) (xd : ξ → XD) (o : r → O) : List D → Sum XD O → Prop := fun ds q => ∃ x1 x2 x3 x4 x5 x6 x7 x8, ds = [e1 x1, e2 x2, e3 x3, e4 x4, e5 x5, e6 x6, e7 x7, e8 x8] ∧ (m x1 x2 x3 x4 x5 x6 x7 x8).ok ∧ q = outc xd o (m x1 x2 x3 x4 x5 x6 x7 x8).val
def RC8 {ξ r a1 a2 a3 a4 a5 a6 a7 a8 : Type} [Inhabited r] (m : a1 → a2 → a3 → a4 → a5 → a6 → a7 → a8 → G (Sum ξ r)) (e1 : a1 → D) (e2 : a2 → D) (e3 : a3 → D) (e4 : a4 → D) (e5 : a5 → D) (e6 : a6 → D) (e7 : a7 → D) (e8 : a8 → D) (o : r → O) : List D → O → Prop := R8 (fun x1 x2 x3 x4 x5 x6 x7 x8 => calmG (m x1 x2 x3 x4 x5 x6 x7 x8)) e1 e2 e3 e4 e5 e6 e7 e8 o
theorem calm8 {ξ r a1 a2 a3 a4 a5 a6 a7 a8 : Type} [Inhabited r] {m : a1 → a2 → a3 → a4 → a5 → a6 → a7 → a8 → G (Sum ξ r)} {e1 : a1 → D} {e2 : a2 → D} {e3 : a3 → D} {e4 : a4 → D} {e5 : a5 → D} {e6 : a6 → D} {e7 : a7 → D} {e8 : a8 → D} {xd : ξ → XD} {o : r → O} {ds : List D} {q : O} (h : RC8 m e1 e2 e3 e4 e5 e6 e7 e8 o ds q) : RX8 m e1 e2 e3 e4 e5 e6 e7 e8 xd o ds (.inr q) := by
  obtain ⟨x1, x2, x3, x4, x5, x6, x7, x8, rfl, ⟨ok, hv⟩, rfl⟩ := h
  exact ⟨x1, x2, x3, x4, x5, x6, x7, x8, rfl, ok, outc_calm hv⟩
def RI8 {ρ a1 a2 a3 a4 a5 a6 a7 a8 : Type} (m : a1 → a2 → a3 → a4 → a5 → a6 → a7 → a8 → G ρ) (e1 : a1 → D) (e2 : a2 → D) (e3 : a3 → D) (e4 : a4 → D) (e5 : a5 → D) (e6 : a6 → D) (e7 : a7 → D) (e8 : a8 → D) (ns : List Str) (ob : ρ → List D) : List D → List Str × List D → Prop := fun ds q => ∃ x1 x2 x3 x4 x5 x6 x7 x8, ds = [e1 x1, e2 x2, e3 x3, e4 x4, e5 x5, e6 x6, e7 x7, e8 x8] ∧ (m x1 x2 x3 x4 x5 x6 x7 x8).ok ∧ q = (ns, ob (m x1 x2 x3 x4 x5 x6 x7 x8).val)
def RJ8 {ξ ρ a1 a2 a3 a4 a5 a6 a7 a8 : Type} (m : a1 → a2 → a3 → a4 → a5 → a6 → a7 → a8 → G (Sum ξ ρ)) (e1 : a1 → D) (e2 : a2 → D) (e3 : a3 → D) (e4 : a4 → D) (e5 : a5 → D) (e6 : a6 → D) (e7 : a7 → D) (e8 : a8 → D) (xd : ξ → XD) (ns : List Str) (ob : ρ → List D) : List D → Sum XD (List Str × List D) → Prop := fun ds q => ∃ x1 x2 x3 x4 x5 x6 x7 x8, ds = [e1 x1, e2 x2, e3 x3, e4 x4, e5 x5, e6 x6, e7 x7, e8 x8] ∧ (m x1 x2 x3 x4 x5 x6 x7 x8).ok ∧ q = outI xd ns ob (m x1 x2 x3 x4 x5 x6 x7 x8).val
theorem calmI8 {ξ ρ a1 a2 a3 a4 a5 a6 a7 a8 : Type} [Inhabited ρ] {m : a1 → a2 → a3 → a4 → a5 → a6 → a7 → a8 → G (Sum ξ ρ)} {e1 : a1 → D} {e2 : a2 → D} {e3 : a3 → D} {e4 : a4 → D} {e5 : a5 → D} {e6 : a6 → D} {e7 : a7 → D} {e8 : a8 → D} {xd : ξ → XD} {ns : List Str} {ob : ρ → List D} {ds : List D} {q : List Str × List D} (h : RI8 (fun x1 x2 x3 x4 x5 x6 x7 x8 => calmG (m x1 x2 x3 x4 x5 x6 x7 x8)) e1 e2 e3 e4 e5 e6 e7 e8 ns ob ds q) : RJ8 m e1 e2 e3 e4 e5 e6 e7 e8 xd ns ob ds (.inr q) := by
  obtain ⟨x1, x2, x3, x4, x5, x6, x7, x8, rfl, ⟨ok, hv⟩, rfl⟩ := h
  exact ⟨x1, x2, x3, x4, x5, x6, x7, x8, rfl, ok, outI_calm hv⟩
abbrev R9 {a1 a2 a3 a4 a5 a6 a7 a8 a9 ρ : Type} (m : a1 → a2 → a3 → a4 → a5 → a6 → a7 → a8 → a9 → G ρ) (e1 : a1 → D) (e2 : a2 → D) (e3 : a3 → D) (e4 : a4 → D) (e5 : a5 → D) (e6 : a6 → D) (e7 : a7 → D) (e8 : a8 → D) (e9 : a9 → D) (o : ρ → O) : List D → O → Prop := fun ds r => ∃ x1 x2 x3 x4 x5 x6 x7 x8 x9, ds = [e1 x1, e2 x2, e3 x3, e4 x4, e5 x5, e6 x6, e7 x7, e8 x8, e9 x9] ∧ (m x1 x2 x3 x4 x5 x6 x7 x8 x9).ok ∧ r = o (m x1 x2 x3 x4 x5 x6 x7 x8 x9).val
def RX9 {ξ r a1 a2 a3 a4 a5 a6 a7 a8 a9 : Type} (m : a1 → a2 → a3 → a4 → a5 → a6 → a7 → a8 → a9 → G (Sum ξ r)) (e1 : a1 → D) (e2 : a2 → D) (e3 : a3 → D) (e4 : a4 → D) (e5 : a5 → D) (e6 : a6 → D) (e7 : a7 → D) (e8 : a8 → D) (e9 : a9 → D) (xd : ξ → XD) (o : r → O) : List D → Sum XD O → Prop := fun ds q => ∃ x1 x2 x3 x4 x5 x6 x7 x8 x9, ds = [e1 x1, e2 x2, e3 x3, e4 x4, e5 x5, e6 x6, e7 x7, e8 x8, e9 x9] ∧ (m x1 x2 x3 x4 x5 x6 x7 x8 x9).ok ∧ q = outc xd o (m x1 x2 x3 x4 x5 x6 x7 x8 x9).val
def RC9 {ξ r a1 a2 a3 a4 a5 a6 a7 a8 a9 : Type} [Inhabited r] (m : a1 → a2 → a3 → a4 → a5 → a6 → a7 → a8 → a9 → G (Sum ξ r)) (e1 : a1 → D) (e2 : a2 → D) (e3 : a3 → D) (e4 : a4 → D) (e5 : a5 → D) (e6 : a6 → D) (e7 : a7 → D) (e8 : a8 → D) (e9 : a9 → D) (o : r → O) : List D → O → Prop := R9 (fun x1 x2 x3 x4 x5 x6 x7 x8 x9 => calmG (m x1 x2 x3 x4 x5 x6 x7 x8 x9)) e1 e2 e3 e4 e5 e6 e7 e8 e9 o
theorem calm9 {ξ r a1 a2 a3 a4 a5 a6 a7 a8 a9 : Type} [Inhabited r] {m : a1 → a2 → a3 → a4 → a5 → a6 → a7 → a8 → a9 → G (Sum ξ r)} {e1 : a1 → D} {e2 : a2 → D} {e3 : a3 → D} {e4 : a4 → D} {e5 : a5 → D} {e6 : a6 → D} {e7 : a7 → D} {e8 : a8 → D} {e9 : a9 → D} {xd : ξ → XD} {o : r → O} {ds : List D} {q : O} (h : RC9 m e1 e2 e3 e4 e5 e6 e7 e8 e9 o ds q) : RX9 m e1 e2 e3 e4 e5 e6 e7 e8 e9 xd o ds (.inr q) := by
  obtain ⟨x1, x2, x3, x4, x5, x6, x7, x8, x9, rfl, ⟨ok, hv⟩, rfl⟩ := h
  exact ⟨x1, x2, x3, x4, x5, x6, x7, x8, x9, rfl, ok, outc_calm hv⟩
def RI9 {ρ a1 a2 a3 a4 a5 a6 a7 a8 a9 : Type} (m : a1 → a2 → a3 → a4 → a5 → a6 → a7 → a8 → a9 → G ρ) (e1 : a1 → D) (e2 : a2 → D) (e3 : a3 → D) (e4 : a4 → D) (e5 : a5 → D) (e6 : a6 → D) (e7 : a7 → D) (e8 : a8 → D) (e9 : a9 → D) (ns : List Str) (ob : ρ → List D) : List D → List Str × List D → Prop := fun ds q => ∃ x1 x2 x3 x4 x5 x6 x7 x8 x9, ds = [e1 x1, e2 x2, e3 x3, e4 x4, e5 x5, e6 x6, e7 x7, e8 x8, e9 x9] ∧ (m x1 x2 x3 x4 x5 x6 x7 x8 x9).ok ∧ q = (ns, ob (m x1 x2 x3 x4 x5 x6 x7 x8 x9).val)
def RJ9 {ξ ρ a1 a2 a3 a4 a5 a6 a7 a8 a9 : Type} (m : a1 → a2 → a3 → a4 → a5 → a6 → a7 → a8 → a9 → G (Sum ξ ρ)) (e1 : a1 → D) (e2 : a2 → D) (e3 : a3 → D) (e4 : a4 → D) (e5 : a5 → D) (e6 : a6 → D) (e7 : a7 → D) (e8 : a8 → D) (e9 : a9 → D) (xd : ξ → XD) (ns : List Str) (ob : ρ → List D) : List D → Sum XD (List Str × List D) → Prop := fun ds q => ∃ x1 x2 x3 x4 x5 x6 x7 x8 x9, ds = [e1 x1, e2 x2, e3 x3, e4 x4, e5 x5, e6 x6, e7 x7, e8 x8, e9 x9] ∧ (m x1 x2 x3 x4 x5 x6 x7 x8 x9).ok ∧ q = outI xd ns ob (m x1 x2 x3 x4 x5 x6 x7 x8 x9).val
theorem calmI9 {ξ ρ a1 a2 a3 a4 a5 a6 a7 a8 a9 : Type} [Inhabited ρ] {m : a1 → a2 → a3 → a4 → a5 → a6 → a7 → a8 → a9 → G (Sum ξ ρ)} {e1 : a1 → D} {e2 : a2 → D} {e3 : a3 → D} {e4 : a4 → D} {e5 : a5 → D} {e6 : a6 → D} {e7 : a7 → D} {e8 : a8 → D} {e9 : a9 → D} {xd : ξ → XD} {ns : List Str} {ob : ρ → List D} {ds : List D} {q : List Str × List D} (h : RI9 (fun x1 x2 x3 x4 x5 x6 x7 x8 x9 => calmG (m x1 x2 x3 x4 x5 x6 x7 x8 x9)) e1 e2 e3 e4 e5 e6 e7 e8 e9 ns ob ds q) : RJ9 m e1 e2 e3 e4 e5 e6 e7 e8 e9 xd ns ob ds (.inr q) := by
  obtain ⟨x1, x2, x3, x4, x5, x6, x7, x8, x9, rfl, ⟨ok, hv⟩, rfl⟩ := h
  exact ⟨x1, x2, x3, x4, x5, x6, x7, x8, x9, rfl, ok, outI_calm hv⟩
section
variable {P : Program} {w : World} {K : PySem.W.Frag} {mg : Str → Option Value} {base : Heap} {C : Addr} {x qual : Str} {st : Stmt} {f : Addr} {fd : FuncData} {N ps : List Str} {k : Nat}
theorem init_end {a : Addr} {H : Hp} {B : Hp} {Q : VK} {r : List Str × List D} (hl : r.1.length = r.2.length) (h4 : ∀ B' G us dx', Gr B (dl a H) B' (dl a G) → B' a = none → G a = some (.ins C dx' (r.1.zip us)) → Reps K B' r.2 us → r.1.length = r.2.length → Q .non G) :
    ∀ env : List Slot, env[0]? = some (.obj (.ref a) (.ow (.ins C r.1) (r.2.map .fr))) → Nx K B (dl a H) (fun _ H' => Q .non H') env := fun env he B' G σ st => by
  obtain ⟨Ps, vs, hp⟩ := st.ex
  obtain ⟨_, w1⟩ := vs.obj he
  unfold Own at w1
  obtain ⟨p, u, us, P', e1, e2, ⟨e3, dx', rfl⟩, e4, e5, e6⟩ := w1
  cases e1
  have b1 : B' a = none := vs.out 0 a ((e6 a).2 (.inl rfl))
  refine h4 B' G us dx' ⟨st.gr.b, same_dl st.gr.f b1, fun b o z => ?_, st.gr.n⟩ b1 e2 (owns_reps e4) hl
  have zb : b ≠ a := fun e => by rw [e, dl_at] at z; cases z
  rw [dl_ne zb]
  exact st.gr.s b o z
theorem ok_initG {ρ : Type} {ns : List Str} {ob : ρ → List D} {R : List D → List Str × List D → Prop} (F : FunG K x qual st f fd) (S : FnScope N ps (defScope st)) (len : ∀ ds r, R ds r → ds.length + 1 = ps.length) (hn : ∀ ds r, R ds r → r.1.length = r.2.length)
    (hbody : ∀ (cdv : Value) (A : Around) (outer : List Env) (s : Shared) (H : Hp) (E : XK), Room k (A.deeper (envOfC qual (defScope st) s.heap.objs.size f cdv)) →
      ∃ t, PSs (cxOf CX0 P w K mg base N qual (defScope st) f cdv A outer s H E).nox (defBody st) t ∧ ∀ ds r, R ds r → ∀ (a : Addr), ∃ m : G ρ, Blk K TyR (PRx (RxI0 K a C ns ob)) t (startI (.ref a) C N ds) m ∧ m.ok ∧ r = (ns, ob m.val)) :
    FnOk P w K mg base CX0 (k + 1) f fd ps (spI K C R) := by
  refine F.ok0 S (fun vs H Q E h => ?_) (fun cdv A outer s H vs Q E hr h => ?_)
  · obtain ⟨B, a, dx, ws, ds, r, rfl, _, _, _, h2, h3, _⟩ := h
    rw [List.length_cons, h2.len, len ds r h3]
  · obtain ⟨t, ht, hg⟩ := hbody cdv A outer s H E hr
    obtain ⟨B, a, dx, ws, ds, r, rfl, hf, hb, hs, h2, h3, h4⟩ := h
    obtain ⟨m, bl, ok, rfl⟩ := hg ds r h3 a
    exact ⟨t, ht, bl B (dl a H) { nx := fun _ H' => Q .non H', rt := Q } rfl ok (init_end (hn ds _ h3) h4) B H _ (start_stateI hs hb hf h2)⟩
theorem ok_initGE {ξ ρ : Type} {xd : ξ → XD} {ns : List Str} {ob : ρ → List D} {R : List D → Sum XD (List Str × List D) → Prop} (F : FunG K x qual st f fd) (S : FnScope N ps (defScope st)) (len : ∀ ds r, R ds r → ds.length + 1 = ps.length) (hn : ∀ v : ρ, ns.length = (ob v).length)
    (hbody : ∀ (cdv : Value) (A : Around) (outer : List Env) (s : Shared) (H : Hp) (E : XK), Room k (A.deeper (envOfC qual (defScope st) s.heap.objs.size f cdv)) →
      ∃ t, PSs (cxOf (L2.CX P w) P w K mg base N qual (defScope st) f cdv A outer s H E) (defBody st) t ∧ ∀ ds r, R ds r → ∀ (a : Addr), ∃ m : G (Sum ξ ρ), Blk K TyR (PRx (RxI K E xd a C ns ob)) t (startI (.ref a) C N ds) m ∧ m.ok ∧ r = outI xd ns ob m.val) :
    FnOk P w K mg base (L2.CX P w) (k + 1) f fd ps (spIE K C R) := by
  refine F.okX S (fun vs H Q E h => ?_) (fun cdv A outer s H vs Q E hr h => ?_)
  · obtain ⟨B, a, dx, ws, ds, r, rfl, _, _, _, h2, h3, _⟩ := h
    rw [List.length_cons, h2.len, len ds r h3]
  · obtain ⟨t, ht, hg⟩ := hbody cdv A outer s H E hr
    obtain ⟨B, a, dx, ws, ds, r, rfl, hf, hb, hs, h2, h3, h4, h5⟩ := h
    obtain ⟨m, bl, ok, rfl⟩ := hg ds r h3 a
    refine ⟨t, ht, bl B (dl a H) { nx := fun _ H' => Q .non H', rt := Q } rfl ok ?_ B H _ (start_stateI hs hb hf h2)⟩
    show RxI K E xd a C ns ob B (dl a H) Q m.val
    cases e : m.val with
    | inl x => exact fun B' G cls d g rx => h5 _ (by rw [e]; rfl) B' G cls d g rx
    | inr v => exact init_end (r := (ns, ob v)) (hn v) (h4 _ (by rw [e]; rfl))
/-- an __init__ that does not raise here -/
theorem calmI {R : List D → Sum XD (List Str × List D) → Prop} {R' : List D → List Str × List D → Prop} (F : FnOk P w K mg base (L2.CX P w) k f fd ps (spIE K C R)) (hl : ∀ ds r, R ds r → ds.length + 1 = ps.length) (h : ∀ ds q, R' ds q → R ds (.inr q)) : FnOk P w K mg base CX0 k f fd ps (spI K C R') := by
  refine ⟨fun vs H Q E ⟨B, a, dx, ws, ds, r, h0, _, _, _, h2, h3, _⟩ => by rw [h0, List.length_cons, h2.len, hl ds _ (h _ _ h3)], fun A outer s H args us vs Q E hr he hb hv hs => ?_⟩
  obtain ⟨B, a, dx, ws, ds, r, h0, h1, h2, h3, h4, h5, h6⟩ := hs
  have q := F.run A outer s H args us vs Q (fun _ _ _ => False) hr he hb hv ⟨B, a, dx, ws, ds, .inr r, h0, h1, h2, h3, h4, h _ _ h5, fun q e => by cases e; exact h6, fun x e => by cases e⟩
  refine codeAny_mono q fun r s' hr => ?_
  cases r with
  | ok r => cases r <;> exact hr
  | error e =>
    obtain ⟨_, _, _, _, _, _, _, _, _, _, _, _, z⟩ := hr
    exact z.elim
/-! ### contracts of methods, properties, making -/
structure MthC (P : Program) (w : World) (K : PySem.W.Frag) (mg : Str → Option Value) (base : Heap) (C : Addr) (m : Str) (k : Nat) (ps : List Str) (sp : Sp) : Prop where
  h : ∃ (f : Addr) (fd : FuncData), Cls K C ∧ Meth K C m f ∧ FnOk P w K mg base CX0 k f fd ps sp ∧ Binds K fd ps []
theorem MthC.mono {m : Str} {j k : Nat} {sp : Sp} (c : MthC P w K mg base C m j ps sp) (h : j ≤ k) : MthC P w K mg base C m k ps sp := by
  obtain ⟨f, fd, h1, h2, h3, h4⟩ := c.h
  exact ⟨f, fd, h1, h2, h3.mono h, h4⟩
structure PrpC (P : Program) (w : World) (K : PySem.W.Frag) (mg : Str → Option Value) (base : Heap) (C : Addr) (m : Str) (k : Nat) (sp : Sp) : Prop where
  h : ∃ (p g : Addr) (fd : FuncData), Cls K C ∧ PropOf K C m p g ∧ FnOk P w K mg base CX0 k g fd ["self"] sp ∧ Binds K fd ["self"] []
theorem PrpC.mono {m : Str} {j k : Nat} {sp : Sp} (c : PrpC P w K mg base C m j sp) (h : j ≤ k) : PrpC P w K mg base C m k sp := by
  obtain ⟨p, f, fd, h1, h2, h3, h4⟩ := c.h
  exact ⟨p, f, fd, h1, h2, h3.mono h, h4⟩
structure MakC (P : Program) (w : World) (K : PySem.W.Frag) (mg : Str → Option Value) (base : Heap) (x : Str) (C : Addr) (k : Nat) (ps : List Str) (sp : Sp) : Prop where
  h : ∃ (f : Addr) (fd : FuncData), mg x = some (.ref C) ∧ Mk K C f ∧ FnOk P w K mg base CX0 k f fd ps sp ∧ Binds K fd ps []
theorem MakC.mono {x : Str} {j k : Nat} {sp : Sp} (c : MakC P w K mg base x C j ps sp) (h : j ≤ k) : MakC P w K mg base x C k ps sp := by
  obtain ⟨f, fd, h1, h2, h3, h4⟩ := c.h
  exact ⟨f, fd, h1, h2, h3.mono h, h4⟩
/-- C(e, .., k = v, ..): n values behind self, keywords ks, all parameters in order -/
structure MakN (P : Program) (w : World) (K : PySem.W.Frag) (mg : Str → Option Value) (base : Heap) (x : Str) (C : Addr) (k : Nat) (ps : List Str) (n : Nat) (ks : List Str) (gV : List V → List V → List V) (sp : Sp) : Prop where
  h : ∃ (f : Addr) (fd : FuncData) (g : List Value → List Value → List Value), mg x = some (.ref C) ∧ Mk K C f ∧ FnOk P w K mg base CX0 k f fd ps sp ∧ KBn K fd ps (n + 1) ks g gV
theorem MakN.mono {x : Str} {j k n : Nat} {ks : List Str} {gV : List V → List V → List V} {sp : Sp} (c : MakN P w K mg base x C j ps n ks gV sp) (h : j ≤ k) : MakN P w K mg base x C k ps n ks gV sp := by
  obtain ⟨f, fd, g, h1, h2, h3, h4⟩ := c.h
  exact ⟨f, fd, g, h1, h2, h3.mono h, h4⟩
/-- f(e, .., k = v, ..) -/
structure CalN (P : Program) (w : World) (K : PySem.W.Frag) (mg : Str → Option Value) (base : Heap) (x : Str) (k : Nat) (ps : List Str) (n : Nat) (ks : List Str) (gV : List V → List V → List V) (sp : Sp) : Prop where
  h : ∃ (f : Addr) (fd : FuncData) (g : List Value → List Value → List Value), mg x = some (.ref f) ∧ PySem.W.keepIn K (.ref f) = true ∧ FnOk P w K mg base CX0 k f fd ps sp ∧ KBn K fd ps n ks g gV
theorem CalN.mono {x : Str} {j k n : Nat} {ks : List Str} {gV : List V → List V → List V} {sp : Sp} (c : CalN P w K mg base x j ps n ks gV sp) (h : j ≤ k) : CalN P w K mg base x k ps n ks gV sp := by
  obtain ⟨f, fd, g, h1, h2, h3, h4⟩ := c.h
  exact ⟨f, fd, g, h1, h2, h3.mono h, h4⟩
end
section
variable {X : Cx} {C : Addr} {m x : Str} {k n : Nat} {ps ks : List Str} {sp : Sp} {p pos apos : Pos} {o e : Expr} {es : List Expr} {kws : List Keyword} {ta : TE} {t tk : TA} {gV : List V → List V → List V}
theorem pe_mth {pl : Sem Bool} (c : MthC X.prog X.w X.K X.mg X.base C m k ps sp) (hr : Room k X.A) (he : PE X o ta) (ha : PA X (e :: es) t)
    (hst : starEach (e :: es) X.env = (false, eval e X.env) :: starEach es X.env := by rfl) (hpl : (backTo pos (starEach es X.env)).any (·.1) = false := by rfl)
    (ht : eval (.Call (.Attribute o m apos) (e :: es) [] pos) X.env = (do
      let ov ← eval o X.env
      standAt apos.atName
      let (f, first) ← holding [ov] (getMethod ov m pl)
      callWith pos f first (backTo pos (starEach (e :: es) X.env)) (backToKw pos (keywordEach [] X.env))) := by rfl) :
    PE X (.Call (.Attribute o m apos) (e :: es) [] pos) (tMeth C m sp [] E0 ta t) := by
  obtain ⟨f, fd, h1, h2, h3, h4⟩ := c.h
  exact pe_meth he h1 h2 h3 hr h4 .nil pass0 ha hst hpl ht
theorem pe_mth0 {pl : Sem Bool} (c : MthC X.prog X.w X.K X.mg X.base C m k ps sp) (hr : Room k X.A) (he : PE X o ta)
    (ht : eval (.Call (.Attribute o m apos) [] [] pos) X.env = (do
      let ov ← eval o X.env
      standAt apos.atName
      let (f, first) ← holding [ov] (getMethod ov m pl)
      callWith pos f first (backTo pos (starEach [] X.env)) (backToKw pos (keywordEach [] X.env))) := by rfl) :
    PE X (.Call (.Attribute o m apos) [] [] pos) (tMeth C m sp [] E0 ta tNil) := by
  obtain ⟨f, fd, h1, h2, h3, h4⟩ := c.h
  exact pe_meth0 he h1 h2 h3 hr h4 .nil pass0 ht
theorem pe_mak (c : MakC X.prog X.w X.K X.mg X.base x C k ps sp) (hr : Room (k + 1) X.A) (hg : Gl X x) (ha : PA X (e :: es) t) (hdb : (x == ("__debug__" : Str)) = false := by decide) (he : starEach (e :: es) X.env = (false, eval e X.env) :: starEach es X.env := by rfl) (hpl : (backTo pos (starEach es X.env)).any (·.1) = false := by rfl) :
    PE X (.Call (.Name x p) (e :: es) [] pos) (tMake C sp [] E0 t) := by
  obtain ⟨f, fd, h1, h2, h3, h4⟩ := c.h
  exact pe_make h2 h3 hr hg h1 h4 .nil pass0 ha hdb he hpl
theorem pe_makN (c : MakN X.prog X.w X.K X.mg X.base x C k ps n ks gV sp) (hr : Room (k + 1) X.A) (hg : Gl X x) (ha : PA X (e :: es) t) (hkw : PK X kws tk)
    (hall : (backToKw pos (keywordEach kws X.env)).all (·.1.isSome) = true := by rfl) (hks : (backToKw pos (keywordEach kws X.env)).filterMap (·.1) = ks := by rfl)
    (hdb : (x == ("__debug__" : Str)) = false := by decide) (he : starEach (e :: es) X.env = (false, eval e X.env) :: starEach es X.env := by rfl)
    (hpl : ((backTo pos (starEach (e :: es) X.env)).any (·.1) || (backToKw pos (keywordEach kws X.env)).any (·.1.isNone)) = false := by rfl) :
    PE X (.Call (.Name x p) (e :: es) kws pos) (tMakeN C n ks.length sp gV E0 t tk) := by
  obtain ⟨f, fd, g, h1, h2, h3, h4⟩ := c.h
  exact pe_makeN h2 h3 hr hg h1 h4 pass0 ha hkw hall hks hdb he hpl
theorem pe_calN (c : CalN X.prog X.w X.K X.mg X.base x k ps n ks gV sp) (hr : Room k X.A) (hg : Gl X x) (ha : PA X (e :: es) t) (hkw : PK X kws tk)
    (hall : (backToKw pos (keywordEach kws X.env)).all (·.1.isSome) = true := by rfl) (hks : (backToKw pos (keywordEach kws X.env)).filterMap (·.1) = ks := by rfl)
    (hdb : (x == ("__debug__" : Str)) = false := by decide) (he : starEach (e :: es) X.env = (false, eval e X.env) :: starEach es X.env := by rfl)
    (hpl : ((backTo pos (starEach (e :: es) X.env)).any (·.1) || (backToKw pos (keywordEach kws X.env)).any (·.1.isNone)) = false := by rfl) :
    PE X (.Call (.Name x p) (e :: es) kws pos) (tCallN n ks.length sp gV E0 t tk) := by
  obtain ⟨f, fd, g, h1, h2, h3, h4⟩ := c.h
  exact pe_callN h3 hr hg h1 h2 h4 pass0 ha hkw hall hks hdb he hpl
theorem pe_prp (c : PrpC X.prog X.w X.K X.mg X.base C m k sp) (hr : Room (k + 1) X.A) (he : PE X e ta) (hb : attributeBase e m X.env (eval e X.env) = eval e X.env := by rfl) : PE X (.Attribute e m pos) (tProp C sp [] E0 ta) := by
  obtain ⟨p, g, fd, h1, h2, h3, h4⟩ := c.h
  exact pe_prop he h1 h2 h3 hr h4 .nil pass0 hb
end
/-! over data -/
section
variable {K : PySem.W.Frag} {env : List Slot} {ta te : TE} {C : Addr} {ρ : Type} {m : G ρ} {E : XK} {t tk : TA}
/-- C(..), its value by a mirror -/
theorem xe_make {ds : List D} {ns : List Str} {ob : ρ → List D} {R : List D → List Str × List D → Prop} (ha : EvA K t env ds) (hr : m.ok → R ds (ns, ob m.val)) : XE K (tMake C (spI K C R) [] E t) env m (fun v => .ins C ns (ob v)) := fun ok => ee_make ha (hr ok)
/-- C(e, .., k = v, ..) -/
theorem xe_makeN {ds es : List D} {ns : List Str} {ob : ρ → List D} {R : List D → List Str × List D → Prop} (h1 : EvA K t env ds) (h2 : EvA K tk env es) (hr : m.ok → R (ds ++ es) (ns, ob m.val)) : XE K (tMakeN C ds.length es.length (spI K C R) (fun vs zs => vs ++ zs) E t tk) env m (fun v => .ins C ns (ob v)) := fun ok B F σ hs vs Q q =>
  h1 B F σ hs vs _ fun B0 F0 ys0 g0 r0 => h2 B0 F0 σ g0.f (vs.grow g0) _ fun B1 F1 ys g1 ry => ⟨r0.len, ry.len, fun x dx hx hdx hne => by
    have g := g0.trans g1
    have bx : B1 x = none := g.f.free hx
    refine ⟨B1, x, dx, ys0 ++ ys, ds ++ es, (ns, ob m.val), rfl, upd_same, bx, ?_, (r0.mono g1.b).append ry, hr ok, fun B2 G us dx' g2 b2 hG r2 hl => ⟨rfl, make_end g hx hdx hne q g2 b2 hG r2 hl⟩⟩
    exact (same_out g.f (g.f.free hdx)).trans (same_new (by rw [upd_ne (Ne.symm hne)]; exact hx))⟩
theorem xo_callN {ds es : List D} {R : List D → O → Prop} {o : ρ → O} (h1 : EvA K t env ds) (h2 : EvA K tk env es) (hr : m.ok → R (ds ++ es) (o m.val)) : XO K (tCallN ds.length es.length (spX K R) (fun vs zs => vs ++ zs) E t tk) env m o := fun ok B F σ hs vs Q q =>
  h1 B F σ hs vs _ fun B0 F0 ys0 g0 r0 => h2 B0 F0 σ g0.f (vs.grow g0) _ fun B1 F1 ys g1 ry => ⟨r0.len, ry.len, by
    have g := g0.trans g1
    exact ⟨B1, ds ++ es, o m.val, g.f, (r0.mono g1.b).append ry, hr ok, fun B2 F2 x P g2 w p => q B2 F2 x P (g.trans g2) w fun a ha => ⟨g.s.free (p a ha).1, (p a ha).2⟩⟩⟩
/-- e.f, a property -/
theorem xo_prp {ns : List Str} {ds : List D} {R : List D → O → Prop} {o : ρ → O} (h : EvE K ta env (.ins C ns ds)) (hr : m.ok → R [.ins C ns ds] (o m.val)) : XO K (tProp C (spX K R) [] E ta) env m o := fun ok B F σ hs vs Q q =>
  h B F σ hs vs _ fun B1 F1 x g r => by
    have r' := r
    unfold Rep at r'
    obtain ⟨a, dx, ws, rfl, e1, e2, e3⟩ := r'
    exact ⟨a, dx, _, rfl, g.f _ _ e1, B1, [.ins C ns ds], o m.val, g.f, Reps.cons r Reps.nil, hr ok, fun B3 F3 z P g3 w p => q B3 F3 z P (g.trans g3) w fun a ha => ⟨g.s.free (p a ha).1, (p a ha).2⟩⟩
end
end Y

/-! X32: lists of unlike parts of one's own; own parameters; keys of {**a, **b}. -/
namespace Y
open PySem PySem.Spec PyProof.Rows L2
abbrev oH2 {α β : Type} (e : α → O) (f : β → O) : α × β → O := fun q => .ow .lst [e q.1, f q.2]
abbrev oH3 {α β γ : Type} (e : α → O) (f : β → O) (g : γ → O) : α × β × γ → O := fun q => .ow .lst [e q.1, f q.2.1, g q.2.2]
abbrev oH4 {α β γ δ : Type} (e : α → O) (f : β → O) (g : γ → O) (h : δ → O) : α × β × γ × δ → O := fun q => .ow .lst [e q.1, f q.2.1, g q.2.2.1, h q.2.2.2]
abbrev oH5 {α β γ δ ε : Type} (e : α → O) (f : β → O) (g : γ → O) (h : δ → O) (i : ε → O) : α × β × γ × δ × ε → O := fun q => .ow .lst [e q.1, f q.2.1, g q.2.2.1, h q.2.2.2.1, i q.2.2.2.2]
theorem fz_h2 {α β : Type} {o : α → O} {e : α → D} {o2 : β → O} {f : β → D} (h : Frz o e) (h2 : Frz o2 f) : Frz (oH2 o o2) (eH2 e f) := fun q => by
  show D.lst (frzs [o q.1, o2 q.2]) = _
  simp only [frzs]; rw [h q.1, h2 q.2]
theorem fz_h3 {α β γ : Type} {o : α → O} {e : α → D} {o2 : β → O} {f : β → D} {o3 : γ → O} {g : γ → D} (h : Frz o e) (h2 : Frz o2 f) (h3 : Frz o3 g) : Frz (oH3 o o2 o3) (eH3 e f g) := fun q => by
  show D.lst (frzs [o q.1, o2 q.2.1, o3 q.2.2]) = _
  simp only [frzs]; rw [h q.1, h2 q.2.1, h3 q.2.2]
theorem fz_h4 {α β γ δ : Type} {o : α → O} {e : α → D} {o2 : β → O} {f : β → D} {o3 : γ → O} {g : γ → D} {o4 : δ → O} {k : δ → D} (h : Frz o e) (h2 : Frz o2 f) (h3 : Frz o3 g) (h4 : Frz o4 k) : Frz (oH4 o o2 o3 o4) (eH4 e f g k) := fun q => by
  show D.lst (frzs [o q.1, o2 q.2.1, o3 q.2.2.1, o4 q.2.2.2]) = _
  simp only [frzs]; rw [h q.1, h2 q.2.1, h3 q.2.2.1, h4 q.2.2.2]
theorem fz_h5 {α β γ δ ε : Type} {o : α → O} {e : α → D} {o2 : β → O} {f : β → D} {o3 : γ → O} {g : γ → D} {o4 : δ → O} {k : δ → D} {o5 : ε → O} {l : ε → D} (h : Frz o e) (h2 : Frz o2 f) (h3 : Frz o3 g) (h4 : Frz o4 k) (h5 : Frz o5 l) : Frz (oH5 o o2 o3 o4 o5) (eH5 e f g k l) := fun q => by
  show D.lst (frzs [o q.1, o2 q.2.1, o3 q.2.2.1, o4 q.2.2.2.1, o5 q.2.2.2.2]) = _
  simp only [frzs]; rw [h q.1, h2 q.2.1, h3 q.2.2.1, h4 q.2.2.2.1, h5 q.2.2.2.2]
section
variable {K : PySem.W.Frag} {env : List Slot} {ta tb te tk : TE} {d : D} {o2 : O} {os : List O} {α σ : Type}
theorem owns_fr_get {B F : Hp} : ∀ {os : List O} {vs : List V} {P : Fp} {k : Nat} {d : D}, Owns K B F os vs P → os[k]? = some (.fr d) → ∃ x, vs[k]? = some x ∧ Rep K B d x
  | [], _, _, k, d, _, h => by simp at h
  | o :: os, vs, P, 0, d, w, h => by
    unfold Owns at w
    obtain ⟨x, ws, P1, P2, rfl, w1, _⟩ := w
    simp at h
    subst h
    unfold Own at w1
    exact ⟨x, rfl, w1.1⟩
  | o :: os, vs, P, k + 1, d, w, h => by
    unfold Owns at w
    obtain ⟨x, ws, P1, P2, rfl, _, w2, _⟩ := w
    exact owns_fr_get (os := os) (k := k) w2 (by simpa using h)
/-- xs[k], xs of one's own, its part k known -/
theorem ee_ixH {i k : Nat} (e : env[i]? = some (.own (.ow .lst os))) (hk : os[k]? = some (.fr d)) : EvE K (tOp (rIxL K) (tVar i) (tC (.int (k : Nat)))) env d := fun B F σ hs ⟨Ps, vs⟩ Q q => by
  obtain ⟨x, h1, h3⟩ := vs.own i _ e
  unfold Own at h3
  obtain ⟨p, u, ws, P', rfl, a2, a3, a4, a5, a6⟩ := h3
  have a3 : u = .lst ws := a3
  subst a3
  obtain ⟨z, z3, z4⟩ := owns_fr_get a4 hk
  refine ⟨_, h1, ?_⟩
  exact ⟨p, ws, (k : Nat), z, rfl, rfl, .inl (.inl a2), atI_nat z3, q B F _ (Gr.refl hs) z4⟩
theorem st_setHn {i k : Nat} {on : σ → O} {v : σ} (e : env[i]? = some (.own (.ow .lst os))) (h : EvX K te env o2) (hk : k < os.length) (he : .ow .lst (os.set k o2) = on v) : St K (tAsg te (gSub (tVar i) (tC (.int (k : Nat))) rSetL)) env (.p v) (fun x => env.set i (.own (on x))) :=
  st_setL (js := []) (j := k) (C := True) e (fun _ => el_var e) (fun _ => rfl) (fun _ => h) ee_int (fun _ => (inR_j (inR_nat (by omega) (by omega))).1.trans (by rw [ixJ_nat])) (fun _ => he)
/-- the parts of a tuple told one by one -/
theorem ea_t2 {te : TE} {t : TA} {es : List D} {d1 d2 : D} (h1 : EvE K te env (.tup [d1, d2])) (h2 : EvA K t env es) : EvA K (StX.tStar K te t) env (d1 :: d2 :: es) := ea_starT (ds := [d1, d2]) h1 h2
theorem ea_t3 {te : TE} {t : TA} {es : List D} {d1 d2 d3 : D} (h1 : EvE K te env (.tup [d1, d2, d3])) (h2 : EvA K t env es) : EvA K (StX.tStar K te t) env (d1 :: d2 :: d3 :: es) := ea_starT (ds := [d1, d2, d3]) h1 h2
end
/-! ### keys of {**a, **b} -/
section
variable {κ α β : Type} [DecidableEq κ]
def addK (ks : List κ) (k : κ) : List κ := if k ∈ ks then ks else ks ++ [k]
def mergeK2 (a b : List κ) : List κ := b.foldl addK (a.foldl addK [])
theorem dput_keys (d : List (κ × α)) (k : κ) (v : α) : (dput d k v).map (·.1) = addK (d.map (·.1)) k := by
  have h := putKs_mapG (kk := fun k : κ => k) (fun _ _ e => e) d k v
  rw [← h]
  unfold putKs addK hasK
  by_cases m : k ∈ d.map (·.1)
  · rw [if_pos m, if_pos]
    rw [List.any_eq_true]
    exact ⟨k, m, by simp⟩
  · rw [if_neg m, if_neg]
    intro c
    rw [List.any_eq_true] at c
    obtain ⟨x, hx, e⟩ := c
    have e : x = k := by simpa using e
    exact m (e ▸ hx)
theorem putAll_keys : ∀ (qs d : List (κ × α)), (putAll d qs).map (·.1) = (qs.map (·.1)).foldl addK (d.map (·.1))
  | [], d => rfl
  | q :: qs, d => by
    show (putAll (dput d q.1 q.2) qs).map (·.1) = _
    rw [putAll_keys qs, dput_keys]
    rfl
theorem addK_nodup {ks : List κ} (h : ks.Nodup) (k : κ) : (addK ks k).Nodup := by
  unfold addK
  split
  · exact h
  · rename_i m
    rw [List.nodup_append]
    exact ⟨h, by simp, fun a ha b hb => by simp at hb; subst hb; exact fun e => m (e ▸ ha)⟩
theorem foldK_nodup : ∀ (b a : List κ), a.Nodup → (b.foldl addK a).Nodup
  | [], a, h => h
  | k :: b, a, h => foldK_nodup b _ (addK_nodup h k)
theorem addK_mem {ks : List κ} {k x : κ} : x ∈ addK ks k ↔ x ∈ ks ∨ x = k := by
  unfold addK
  split
  · rename_i m
    exact ⟨.inl, fun h => h.elim id fun e => e ▸ m⟩
  · simp
theorem foldK_mem : ∀ {b a : List κ} {x : κ}, x ∈ b.foldl addK a ↔ x ∈ a ∨ x ∈ b
  | [], a, x => by simp
  | k :: b, a, x => by
    rw [List.foldl_cons, foldK_mem, addK_mem]
    simp [or_assoc]
theorem mergeK2_mem {a b : List κ} {x : κ} : x ∈ mergeK2 a b ↔ x ∈ a ∨ x ∈ b := by
  unfold mergeK2
  rw [foldK_mem, foldK_mem]
  simp
theorem mergeK2_nodup {a b : List κ} : (mergeK2 a b).Nodup := foldK_nodup _ _ (foldK_nodup _ _ List.nodup_nil)
variable {K : PySem.W.Frag} {env : List Slot} {ta tb te : TE} {kk : κ → Key} {e : α → D} {f : β → D} {d : List (κ × α)} {d2 : List (κ × β)}
theorem ee_unval (h : EvE K ta env (eK kk e d)) : EvE K ta env (eK kk (fun x : D => x) (d.map fun q => (q.1, e q.2))) := by
  have : eK kk (fun x : D => x) (d.map fun q => (q.1, e q.2)) = eK kk e d := by simp [eK, List.map_map, Function.comp_def]
  rw [this]; exact h
/-- for k in {**a, **b} -/
theorem ei_mrgK (ha : EvE K ta env (eK kk e d)) (hb : EvE K tb env (eK kk f d2)) (hi : Inj kk) (hz : d.length + d2.length ≤ 100000) : EvI K (iKeys (tLkT (tMrg2 ta tb))) env ((mergeK2 (d.map (·.1)) (d2.map (·.1))).map fun k => kD (kk k)) := by
  have h := ei_keysZ (ee_lkT (ex_mrg2 (ee_unval ha) (ee_unval hb) hi (by simpa using hz)))
  have e0 : (putAll (putAll [] (d.map fun q => (q.1, e q.2))) (d2.map fun q => (q.1, f q.2))).map (fun q => kD (kk q.1)) = (mergeK2 (d.map (·.1)) (d2.map (·.1))).map fun k => kD (kk k) := by
    rw [show (fun q : κ × D => kD (kk q.1)) = (fun k => kD (kk k)) ∘ (fun q : κ × D => q.1) from rfl, ← List.map_map, putAll_keys, putAll_keys]
    simp [mergeK2, List.map_map, Function.comp_def]
  rw [e0] at h
  exact h
end
/-! ### own parameters: given up by the caller -/
def slotO : O → Slot
  | .fr d => .val d
  | .ow k xs => .own (.ow k xs)
def startO (N : List Str) (os : List O) : List Slot := os.map slotO ++ List.replicate (N.length - os.length) .no
def spO (K : PySem.W.Frag) (R : List O → O → Prop) : Sp := fun vs F Q _ => ∃ B os o P, Same B F ∧ Owns K B F os vs P ∧ (∀ a, P a → B a = none) ∧ R os o ∧
  ∀ B' F' x P', Gr B (less P F) B' F' → Own K B' F' o x P' → (∀ a, P' a → less P F a = none ∧ B' a = none) → Q x F'
section
variable {K : PySem.W.Frag} {B F : Hp}
/-- footprints, one by one -/
def fps : List Fp → Nat → Fp
  | [], _ => fun _ => False
  | P :: _, 0 => P
  | _ :: Ps, i + 1 => fps Ps i
theorem owns_fps : ∀ {os : List O} {vs : List V} {P : Fp}, Owns K B F os vs P → ∃ Ps : List Fp, (∀ i o, os[i]? = some o → ∃ x, vs[i]? = some x ∧ Own K B F o x (fps Ps i)) ∧ (∀ i, os[i]? = none → ∀ a, ¬ fps Ps i a) ∧ (∀ i j a, i ≠ j → fps Ps i a → fps Ps j a → False) ∧ ∀ i a, fps Ps i a → P a
  | [], vs, P, w => ⟨[], fun i o h => by simp at h, fun _ _ _ h => h, fun _ _ _ _ h => h.elim, fun _ _ h => h.elim⟩
  | o :: os, vs, P, w => by
    unfold Owns at w
    obtain ⟨x, ws, P1, P2, rfl, w1, w2, dis, un⟩ := w
    obtain ⟨Ps, h1, h2, h3, h4⟩ := owns_fps w2
    refine ⟨P1 :: Ps, fun i o' h => ?_, fun i h => ?_, fun i j a n p q => ?_, fun i a p => ?_⟩
    · cases i with
      | zero => simp at h; subst h; exact ⟨x, rfl, w1⟩
      | succ i => exact h1 i o' (by simpa using h)
    · cases i with
      | zero => simp at h
      | succ i => exact h2 i (by simpa using h)
    · cases i with
      | zero =>
        cases j with
        | zero => exact n rfl
        | succ j => exact dis a p (h4 j a q)
      | succ i =>
        cases j with
        | zero => exact dis a q (h4 i a p)
        | succ j => exact h3 i j a (fun e => n (by omega)) p q
    · cases i with
      | zero => exact (un a).2 (.inl p)
      | succ i => exact (un a).2 (.inr (h4 i a p))
theorem same_less {P : Fp} (h : Same B F) (hp : ∀ a, P a → B a = none) : Same B (less P F) := fun a o e => by
  rw [less_out (fun p => by rw [hp a p] at e; cases e)]
  exact h a o e
theorem start_stateO {N : List Str} {os : List O} {vs : List V} {P : Fp} (s : Same B F) (w : Owns K B F os vs P) (hp : ∀ a, P a → B a = none) : State K B (less P F) B F (L2.start N vs) (startO N os) := by
  obtain ⟨Ps, h1, h2, h3, h4⟩ := owns_fps w
  have hl := w.len
  refine ⟨⟨Same.refl _, s, fun a o e => ?_, fun a p q => absurd q p⟩, fps Ps, ⟨by simp [L2.start, startO, hl], fun i => ?_, h3, fun i a p => hp a (h4 i a p)⟩, fun i a p => less_in (h4 i a p)⟩
  · by_cases p : P a
    · rw [less_in p] at e; cases e
    · rw [less_out p] at e; exact e
  · by_cases hi : i < os.length
    · obtain ⟨x, e1, e2⟩ := h1 i _ (List.getElem?_eq_getElem hi)
      have a1 : (L2.start N vs)[i]? = some (some x) := by
        unfold L2.start
        rw [List.getElem?_append_left (by simp [hl, hi]), List.getElem?_map, e1]; rfl
      have a2 : (startO N os)[i]? = some (slotO os[i]) := by
        unfold startO
        rw [List.getElem?_append_left (by simpa using hi), List.getElem?_map, List.getElem?_eq_getElem hi]; rfl
      rw [a1, a2]
      cases ho : os[i] with
      | fr d =>
        rw [ho] at e2
        unfold Own at e2
        exact ⟨⟨x, rfl, e2.1⟩, e2.2⟩
      | ow k xs =>
        rw [ho] at e2
        exact ⟨x, rfl, e2⟩
    · have a2 : (startO N os)[i]? = (List.replicate (N.length - os.length) Slot.no)[i - (os.map slotO).length]? := by
        unfold startO
        exact List.getElem?_append_right (by simpa using hi)
      rw [a2]
      have hn := h2 i (List.getElem?_eq_none (by omega))
      generalize hs : (List.replicate (N.length - os.length) Slot.no)[i - (os.map slotO).length]? = sl
      cases sl with
      | none => exact hn
      | some z =>
        have := List.mem_of_getElem? hs
        simp at this
        rw [this.2]
        exact hn
variable {P : Program} {w : World} {mg : Str → Option Value} {base : Heap} {x qual : Str} {st : Stmt} {f : Addr} {fd : FuncData} {N ps : List Str} {k : Nat}
theorem ok_defO {R : List O → O → Prop} (F : FunG K x qual st f fd) (S : FnScope N ps (defScope st)) (len : ∀ ds r, R ds r → ds.length = ps.length)
    (hbody : ∀ (cdv : Value) (A : Around) (outer : List Env) (s : Shared) (H : Hp) (E : XK), Room k (A.deeper (envOfC qual (defScope st) s.heap.objs.size f cdv)) →
      ∃ t, PSs (cxOf CX0 P w K mg base N qual (defScope st) f cdv A outer s H E).nox (defBody st) t ∧ ∀ ds r, R ds r → ∀ H0 H1 rt, RtX K H0 H1 rt r → Go K H0 H1 t { nx := fun _ H' => rt .non H', rt := rt } (startO N ds)) : FnOk P w K mg base CX0 (k + 1) f fd ps (spO K R) := by
  refine F.ok0 S (fun vs H Q E h => ?_) (fun cdv A outer s H vs Q E hr h => ?_)
  · obtain ⟨B, os, o, Pf, _, h2, _, h3, _⟩ := h
    rw [h2.len, len os o h3]
  · obtain ⟨t, ht, hg⟩ := hbody cdv A outer s H E hr
    obtain ⟨B, os, o, Pf, h1, h2, h3, h4, h5⟩ := h
    exact ⟨t, ht, hg os o h4 B (less Pf H) Q (fun B' F' x P g w p => h5 B' F' x P g w p) B H _ (start_stateO h1 h2 h3)⟩
end
section
variable {K : PySem.W.Frag} {env : List Slot} {t : TA} {E : XK} {os : List O} {o : O} {R : List O → O → Prop} {ρ : Type} {m : G ρ} {oo : ρ → O}
theorem ex_callO (h : EvXs K t env os) (hr : R os o) : EvX K (tCall (spO K R) [] E t) env o := fun B F σ hs vs Q q => h B F σ hs vs _ fun B1 F1 xs P g w hp => by
  refine ⟨B1, os, o, P, g.f, by simpa using w, fun a p => (hp a p).2, hr, fun B' F' x P' g2 w2 hp2 => q B' F' x P' ⟨g.b.trans g2.b, g2.f, fun a u e => ?_, fun a h1 h2 => ?_⟩ w2 fun a p => ⟨?_, (hp2 a p).2⟩⟩
  · refine g2.s a u ?_
    rw [less_out (fun p => by rw [(hp a p).1] at e; cases e)]
    exact g.s a u e
  · by_cases z : B1 a = none
    · have := g2.n a h1 z
      by_cases pp : P a
      · exact (hp a pp).1
      · rw [less_out pp] at this; exact g.s.free this
    · exact g.n a z h2
  · have := (hp2 a p).1
    by_cases pp : P a
    · exact (hp a pp).1
    · rw [less_out pp] at this; exact g.s.free this
theorem xo_callO (h : EvXs K t env os) (hr : m.ok → R os (oo m.val)) : XO K (tCall (spO K R) [] E t) env m oo := fun ok => ex_callO h (hr ok)
end
end Y

/-! X33: fields told their table; small rules. -/
namespace Y
open PySem PySem.Spec PyProof.Rows L2
section
variable {X : Cx}
theorem k_fld (K : PySem.W.Frag) {e : Expr} {f : Str} {ta : TE} {pos : Pos} (he : PE X e ta) (h : X.K = K := by rfl) (hb : attributeBase e f X.env (eval e X.env) = eval e X.env := by rfl) : PE X (.Attribute e f pos) (tFld K ta f) := by subst h; exact pe_fld he hb
theorem k_sfld (K : PySem.W.Frag) {o value : Expr} {f : Str} {ta tv : TE} {pos pos' : Pos} (ha : PE X o ta) (hv : PE X value tv) (h : X.K = K := by rfl) (hs : swapsWith value (some (.Attribute o f pos')) pos.line X.env = pure false := by rfl) : L2.PS X (.Assign [.Attribute o f pos'] value pos) (sFld K ta tv f) := by subst h; exact ps_fld ha hv hs
end
section
variable {K : PySem.W.Frag} {env : List Slot} {te ta tb : TE} {α β κ : Type}
theorem ee_isiB {n : String} {b : Bool} {i : Bool} (h : EvE K te env (.bl i)) (hb : PySem.W.kitOne K (.type "bool") (.type n) = some b) : EvE K (tCB (rIsi K) (tCons te (tCons (tC (.ty n)) tNil))) env (.bl b) :=
  ee_isi (v := .bl i) (t := "bool") h rfl (fun H => .base (by first | exact .bool _ | constructor)) hb
theorem ee_isiN {n : String} {b : Bool} (h : EvE K te env .non) (hb : PySem.W.kitOne K (.type "NoneType") (.type n) = some b) : EvE K (tCB (rIsi K) (tCons te (tCons (tC (.ty n)) tNil))) env (.bl b) :=
  ee_isi (v := .non) (t := "NoneType") h rfl (fun H => .base (by first | exact .none | constructor)) hb
theorem et_truB' {b : Bool} (h : EvE K te env (.bl b)) : True := trivial
/-- 'abc'[i] as a text -/
theorem ee_ixX1 {k : Int} {l : List Nat} (h1 : EvE K ta env (stx l)) (h2 : EvE K tb env (.int k)) (hz : InR l.length k ∧ l.length ≤ 100000) : EvE K (tOp rIxS ta tb) env (stx [ix l k]) := by
  refine ee_ixX h1 h2 hz.2 ?_
  have := atI_ix (e := fun c : Nat => c) hz.1
  simpa using this
theorem ee_addX {a b : List Nat} (h1 : EvE K ta env (stx a)) (h2 : EvE K tb env (stx b)) (hz : a.length + b.length ≤ 100000) : EvE K (tOp (fun x y H Q => ∃ i j, x = .str i ∧ y = .str j ∧ i.length + j.length ≤ sizeLine ∧ Q (.str (i ++ j)) H) ta tb) env (stx (a ++ b)) := ee_catX h1 h2 hz
end
abbrev RO1 {a1 ρ : Type} (m : a1 → G ρ) (o1 : a1 → O) (o : ρ → O) : List O → O → Prop := fun os r => ∃ x1, os = [o1 x1] ∧ (m x1).ok ∧ r = o (m x1).val
abbrev RO2 {a1 a2 ρ : Type} (m : a1 → a2 → G ρ) (o1 : a1 → O) (o2 : a2 → O) (o : ρ → O) : List O → O → Prop := fun os r => ∃ x1 x2, os = [o1 x1, o2 x2] ∧ (m x1 x2).ok ∧ r = o (m x1 x2).val
abbrev RO3 {a1 a2 a3 ρ : Type} (m : a1 → a2 → a3 → G ρ) (o1 : a1 → O) (o2 : a2 → O) (o3 : a3 → O) (o : ρ → O) : List O → O → Prop := fun os r => ∃ x1 x2 x3, os = [o1 x1, o2 x2, o3 x3] ∧ (m x1 x2 x3).ok ∧ r = o (m x1 x2 x3).val
abbrev RO4 {a1 a2 a3 a4 ρ : Type} (m : a1 → a2 → a3 → a4 → G ρ) (o1 : a1 → O) (o2 : a2 → O) (o3 : a3 → O) (o4 : a4 → O) (o : ρ → O) : List O → O → Prop := fun os r => ∃ x1 x2 x3 x4, os = [o1 x1, o2 x2, o3 x3, o4 x4] ∧ (m x1 x2 x3 x4).ok ∧ r = o (m x1 x2 x3 x4).val
abbrev RO5 {a1 a2 a3 a4 a5 ρ : Type} (m : a1 → a2 → a3 → a4 → a5 → G ρ) (o1 : a1 → O) (o2 : a2 → O) (o3 : a3 → O) (o4 : a4 → O) (o5 : a5 → O) (o : ρ → O) : List O → O → Prop := fun os r => ∃ x1 x2 x3 x4 x5, os = [o1 x1, o2 x2, o3 x3, o4 x4, o5 x5] ∧ (m x1 x2 x3 x4 x5).ok ∧ r = o (m x1 x2 x3 x4 x5).val
abbrev RO6 {a1 a2 a3 a4 a5 a6 ρ : Type} (m : a1 → a2 → a3 → a4 → a5 → a6 → G ρ) (o1 : a1 → O) (o2 : a2 → O) (o3 : a3 → O) (o4 : a4 → O) (o5 : a5 → O) (o6 : a6 → O) (o : ρ → O) : List O → O → Prop := fun os r => ∃ x1 x2 x3 x4 x5 x6, os = [o1 x1, o2 x2, o3 x3, o4 x4, o5 x5, o6 x6] ∧ (m x1 x2 x3 x4 x5 x6).ok ∧ r = o (m x1 x2 x3 x4 x5 x6).val
/-! rows of scalars -/
structure RowK {α : Type} (f : α → List D) (k : α → List Sc) (sh : List Bool) : Prop where
  e : ∀ a, f a = (k a).map scD
  sh : ∀ a, (k a).map Kd = sh
  inj : ∀ a a', k a = k a' → a = a'
def scI1 : Int → List Sc := fun a => [.i a]
def scX1 : List Nat → List Sc := fun a => [.s (S a)]
def scI {β : Type} (k : β → List Sc) : Int × β → List Sc := fun q => .i q.1 :: k q.2
def scX {β : Type} (k : β → List Sc) : List Nat × β → List Sc := fun q => .s (S q.1) :: k q.2
theorem rowk_i1 : RowK (fun a : Int => [D.int a]) scI1 [true] := ⟨fun _ => rfl, fun _ => rfl, fun a b h => by simpa [scI1] using h⟩
theorem rowk_x1 : RowK (fun a : List Nat => [stx a]) scX1 [false] := ⟨fun _ => rfl, fun _ => rfl, fun a b h => SX.S_inj (by simpa [scX1] using h)⟩
theorem rowk_i {β : Type} {f : β → List D} {k : β → List Sc} {sh : List Bool} (c : RowK f k sh) : RowK (fun q : Int × β => D.int q.1 :: f q.2) (scI k) (true :: sh) :=
  ⟨fun a => by simp [scI, c.e, scD], fun a => by simp [scI, c.sh, Kd], fun a b h => by
    simp [scI] at h
    exact Prod.ext h.1 (c.inj _ _ h.2)⟩
theorem rowk_x {β : Type} {f : β → List D} {k : β → List Sc} {sh : List Bool} (c : RowK f k sh) : RowK (fun q : List Nat × β => stx q.1 :: f q.2) (scX k) (false :: sh) :=
  ⟨fun a => by simp [scX, c.e, scD, stx], fun a => by simp [scX, c.sh, Kd], fun a b h => by
    simp [scX] at h
    exact Prod.ext (by first | exact h.1 | exact SX.S_inj h.1) (c.inj _ _ h.2)⟩
theorem rowc_of {α : Type} {f : α → List D} {k : α → List Sc} {b : Bool} {sh : List Bool} (c : RowK f k (b :: sh)) : RowC (fun a => .tup (f a)) k b sh := ⟨fun a => by rw [c.e], c.sh, c.inj⟩
end Y

/-! X34: x = {..: .. for ..} into a plain local; a, b, c = x, y, z. -/
namespace Y
open PySem PySem.Spec PyProof.Rows L2
section
variable {X : Cx}
theorem sw_trueD {kx vx : Expr} {gs : List Comprehension} {scope : Scope} {pos py : Pos} {y : Str} {l : Nat} {env : Env} (hk : env.scope.kind = .function) (hy : env.scope.names.lookup y = some .local) (hl : (py.line == pos.line) = true)
    (ha : (scope.names.any fun (n, k) => n == y && (k == .local || k == .cell)) = false) : swapsWith (.DictComp kx vx gs scope pos) (some (.Name y py)) l env = pure true := by
  have ky : env.kindOf y = some .local := hy
  have hb : env.blockKind = .function := by unfold Env.blockKind; rw [hk]; rfl
  unfold swapsWith
  simp only [hb, ky, ha, Expr.pos, hl]
  rfl
/-- what is stored when a comprehension has run -/
theorem store_post {D : Ends} {i : Nat} {y : Str} {py : Pos} {pins : List (Addr × Obj)} {σ : L2.St} {H' : Hp} {s' : Shared} {L C : Addr} {m : Str → Option Value} (hN : X.N.Nodup) (hy : X.N[i]? = some y) (hyl : X.env.scope.names.lookup y = some .local) (I' : Inv X pins σ H' s') (q : gName i (.ref L) σ H' D.nx) (hn : s'.heap.Ns C m) (f : FpOk X pins H' C) :
    compPost (model X.prog X.w) X.A X.xe (some (assign (.Name y py) X.env)) (fun _ s' => SP X pins D .next s') (.ref L) C (.ok .next) s' := by
  show wpAny _ _ (assign (.Name y py) X.env (.ref L)) _ _ _
  refine wpAny_assign_Name (store_ok2 (v := V.ref L) I' hN hy (.inl hyl) rfl (fun s2 I2 ⟨a, sb, ha⟩ => ?_) (.inr hyl))
  obtain ⟨f0, f1, f2, f3, f4, f5⟩ := f
  have haC : C ≠ a := by
    rcases ha with z | z
    · rw [z]; exact f1
    · exact fun e => f4 y a z e.symm
  refine ⟨m, hn.sameBut sb haC, fun h3 sb3 => ?_⟩
  exact ⟨_, H', I2.turned (t' := s2.toks) (fun b o hb e => (sb3.2 b hb).trans e) f0 f1 f3 f4 f5, q⟩
theorem ps_setDc {i : Nat} {y : Str} {py : Pos} {kx vx tg iter : Expr} {ifs : List Expr} {scope : Scope} {own : List (Str × Nat)} {pos spos : Pos} {wi : TI} {g : TG} {tt : TT} {tk tv : TE} (hc : X.calm = true) (hN : X.N.Nodup) (hy : X.N[i]? = some y) (hyl : X.env.scope.names.lookup y = some .local)
    (hsw : swapsWith (.DictComp kx vx [⟨tg, iter, ifs, 0⟩] scope pos) (some (.Name y py)) spos.line X.env = pure true) (hi : PI X tg iter wi) (ok : BlkOk X.N X.env.scope scope own)
    (hg : ∀ (s : Shared) (H : Hp) (C : Addr) (cl : List (Str × Addr)) (fp : List Addr), PG (X.blk s H scope (compEnvC scope cl C X.env) fp) tg g) (ht : ∀ (s : Shared) (H : Hp) (C : Addr) (cl : List (Str × Addr)) (fp : List Addr), PTs (X.blk s H scope (compEnvC scope cl C X.env) fp) ifs tt)
    (hk : ∀ (s : Shared) (H : Hp) (C : Addr) (cl : List (Str × Addr)) (fp : List Addr), PE (X.blk s H scope (compEnvC scope cl C X.env) fp) kx tk)
    (he : ∀ (s : Shared) (H : Hp) (C : Addr) (cl : List (Str × Addr)) (fp : List Addr), PE (X.blk s H scope (compEnvC scope cl C X.env) fp) vx tv) (hs : ∀ x, foldedSetIterable iter X.env x = pure x := by intro _; rfl) :
    L2.PS X (.Assign [.Name y py] (.DictComp kx vx [⟨tg, iter, ifs, 0⟩] scope pos) spos) (tAsg (tDc wi g tt tk tv (own.map (·.2))) (gName i)) := by
  refine ⟨fun pins s σ H D I h => ?_⟩
  rw [exec_Assign_Name_used _ _ _ _ hsw]
  refine wpAny_bind (wpAny_standAt (wpAny_bind ?_))
  show wpAny _ X.A (do let _ ← comprehension (.DictComp kx vx [⟨tg, iter, ifs, 0⟩] scope pos) scope X.env (firstIterPos [⟨tg, iter, ifs, 0⟩] pos) newDict false (eval iter X.env) (some (assign (.Name y py) X.env))) _ _ s
  have h : tDc wi g tt tk tv (own.map (·.2)) σ H (fun x H1 => gName i x σ H1 D.nx) := h
  exact wpAny_bind (thn (dc_core (Qf := fun _ s' => SP X pins D .next s') hc hN I hi ok hg ht hk he hs h fun L C s' m H' I' q hn f => store_post hN hy hyl I' q hn f) fun _ s' hq => wpAny_pure (wpAny_pure hq))
theorem ps_setDcP {i : Nat} {y : Str} {py : Pos} {kx vx tg iter : Expr} {ifs : List Expr} {scope : Scope} {own : List (Str × Nat)} {pos spos : Pos} {wi : TI} {g : TG} {tt : TT} {tk tv : TE} (hu : X.A.units + 1 < cLine) (hc : X.calm = true) (hN : X.N.Nodup) (hy : X.N[i]? = some y) (hyl : X.env.scope.names.lookup y = some .local)
    (hsw : swapsWith (.DictComp kx vx [⟨tg, iter, ifs, 0⟩] scope pos) (some (.Name y py)) spos.line X.env = pure true) (hi : PI X tg iter wi) (ok : BlkOk X.N X.env.scope scope own)
    (hg : ∀ (s : Shared) (H : Hp) (C : Addr) (cl : List (Str × Addr)) (fp : List Addr), PG (X.blk s H scope (compEnvC scope cl C X.env) fp) tg g) (ht : ∀ (s : Shared) (H : Hp) (C : Addr) (cl : List (Str × Addr)) (fp : List Addr), PTs (X.blk s H scope (compEnvC scope cl C X.env) fp) ifs tt)
    (hk : ∀ (s : Shared) (H : Hp) (C : Addr) (cl : List (Str × Addr)) (fp : List Addr), PE (X.blk s H scope (compEnvC scope cl C X.env) fp) kx tk)
    (hv : ∀ (s : Shared) (H : Hp) (C : Addr) (cl : List (Str × Addr)) (fp : List Addr), PE (X.blk s H scope (compEnvC scope cl C X.env) fp) vx tv) (hs : ∀ x, foldedSetIterable iter X.env x = pure x := by intro _; rfl) :
    L2.PS X (.Assign [.Name y py] (.DictComp kx vx [⟨tg, iter, ifs, 0⟩] scope pos) spos) (tAsg (tDcP wi g tt (tPut tk tv) (own.map (·.2))) (gName i)) := by
  refine ⟨fun pins s σ H D I h => ?_⟩
  rw [exec_Assign_Name_used _ _ _ _ hsw]
  refine wpAny_bind (wpAny_standAt (wpAny_bind ?_))
  show wpAny _ X.A (do let _ ← comprehension (.DictComp kx vx [⟨tg, iter, ifs, 0⟩] scope pos) scope X.env (firstIterPos [⟨tg, iter, ifs, 0⟩] pos) newDict false (eval iter X.env) (some (assign (.Name y py) X.env))) _ _ s
  have h : tDcP wi g tt (tPut tk tv) (own.map (·.2)) σ H (fun x H1 => gName i x σ H1 D.nx) := h
  refine wpAny_bind (thn (dcP_core (vsb := []) (Bd := fun env L => BdD X.prog X.w X.A kx vx env L) (Qf := fun _ s' => SP X pins D .next s') hc hN I hi ok (fun _ h => by simp at h) hg ht (fun C cl L => loop_dict) (fun s H C cl fp L => body_put rfl ?_ (hk s H C cl fp) (hv s H C cl fp)) hs h fun L C s' m H' I' q hn f => store_post hN hy hyl I' q hn f) fun _ s' hq => wpAny_pure (wpAny_pure hq))
  show X.A.units < cLine
  omega
theorem ps_setLcN {i : Nat} {y : Str} {py : Pos} {elt t it : Expr} {ifs : List Expr} {gs : List Comprehension} {scope : Scope} {own : List (Str × Nat)} {vsb : List Nat} {pos spos : Pos} {wi : TI} {g : TG} {tt : TT} {tb : TB} {Bd : Env → Addr → Shared → (Shared → Prop) → Prop}
    (hc : X.calm = true) (hN : X.N.Nodup) (hy : X.N[i]? = some y) (hyl : X.env.scope.names.lookup y = some .local) (hsw : swapsWith (.ListComp elt (⟨t, it, ifs, 0⟩ :: gs) scope pos) (some (.Name y py)) spos.line X.env = pure true) (hi : PI X t it wi) (ok : BlkOk X.N X.env.scope scope own) (sub : ∀ j ∈ vsb, j ∈ own.map (·.2))
    (hg : ∀ (s : Shared) (H : Hp) (C : Addr) (cl : List (Str × Addr)) (fp : List Addr), PG (X.blk s H scope (compEnvC scope cl C X.env) fp) t g) (ht : ∀ (s : Shared) (H : Hp) (C : Addr) (cl : List (Str × Addr)) (fp : List Addr), PTs (X.blk s H scope (compEnvC scope cl C X.env) fp) ifs tt)
    (lr : ∀ (C : Addr) (cl : List (Str × Addr)) (L : Addr), LoopR X.prog X.w X.A (.ListComp elt (⟨t, it, ifs, 0⟩ :: gs) scope pos) 0 (compEnvC scope cl C X.env) t ifs (.ref L) (Bd (compEnvC scope cl C X.env) L))
    (bd : ∀ (s : Shared) (H : Hp) (C : Addr) (cl : List (Str × Addr)) (fp : List Addr) (L : Addr), BodyR (X.blk s H scope (compEnvC scope cl C X.env) fp) (Bd (compEnvC scope cl C X.env) L) (tb L) vsb) (hs : ∀ x, foldedSetIterable it X.env x = pure x := by intro _; rfl) :
    L2.PS X (.Assign [.Name y py] (.ListComp elt (⟨t, it, ifs, 0⟩ :: gs) scope pos) spos) (tAsg (tLcN wi g tt tb (own.map (·.2))) (gName i)) := by
  refine ⟨fun pins s σ H D I h => ?_⟩
  rw [exec_Assign_Name_used _ _ _ _ hsw]
  refine wpAny_bind (wpAny_standAt (wpAny_bind ?_))
  show wpAny _ X.A (do let _ ← comprehension (.ListComp elt (⟨t, it, ifs, 0⟩ :: gs) scope pos) scope X.env (firstIterPos (⟨t, it, ifs, 0⟩ :: gs) pos) (newList []) false (eval it X.env) (some (assign (.Name y py) X.env))) _ _ s
  have h : tLcN wi g tt tb (own.map (·.2)) σ H (fun x H1 => gName i x σ H1 D.nx) := h
  exact wpAny_bind (thn (lcN_core (Qf := fun _ s' => SP X pins D .next s') hc hN I hi ok sub hg ht lr bd hs h fun L C s' m H' I' q hn f => store_post hN hy hyl I' q hn f) fun _ s' hq => wpAny_pure (wpAny_pure hq))
end
section
variable {K : PySem.W.Frag} {env : List Slot} {te ta tb tk to : TE} {α β γ σ : Type}
theorem st_par3 {i j l : Nat} {t : TA} {e : α → D} {f : β → D} {g : γ → D} {u : α} {v : β} {w : γ} (h : EvA K t env [e u, f v, g w]) : St K (tPar3 i j l t) env (.p (u, v, w)) (fun x => ((env.set i (.val (e x.1))).set j (.val (f x.2.1))).set l (.val (g x.2.2))) := fun H0 H1 En _ k B F σ st =>
  h B F σ st.gr.f st.vs _ fun B1 F1 xs gr r => by
    unfold Reps at r
    obtain ⟨x1, ws, rfl, r1, r⟩ := r
    obtain ⟨x2, x3, rfl, r2, r3⟩ := reps2 r
    exact ⟨x1, x2, x3, rfl, k B1 F1 _ ((((st.grow gr).set r1).set r2).set r3)⟩
variable [DecidableEq α] {e : α → D} {n : Nat} {a b : α} {xs : List α}
theorem dec_any {p : Prop} (i j : Decidable p) : @decide p i = @decide p j := by cases i <;> cases j <;> first | rfl | contradiction
theorem ee_inL {i : Decidable (a ∈ xs)} (c : EqP e n) (hn : n ≤ 60) (h1 : EvE K ta env (e a)) (h2 : EvE K tb env (eL e xs)) : EvE K (tOp (rInP K false) ta tb) env (.bl (@decide (a ∈ xs) i)) := by rw [dec_any i]; exact ee_inPL (neg := false) c hn h1 h2
theorem ee_ninL {i : Decidable (a ∈ xs)} (c : EqP e n) (hn : n ≤ 60) (h1 : EvE K ta env (e a)) (h2 : EvE K tb env (eL e xs)) : EvE K (tOp (rInP K true) ta tb) env (.bl (!@decide (a ∈ xs) i)) := by rw [dec_any i]; exact ee_inPL (neg := true) c hn h1 h2
theorem ee_inU {i : Decidable (a ∈ xs)} (c : EqP e n) (hn : n ≤ 60) (h1 : EvE K ta env (e a)) (h2 : EvE K tb env (eU e xs)) : EvE K (tOp (rInP K false) ta tb) env (.bl (@decide (a ∈ xs) i)) := by rw [dec_any i]; exact ee_inPU (neg := false) c hn h1 h2
theorem ee_ninU {i : Decidable (a ∈ xs)} (c : EqP e n) (hn : n ≤ 60) (h1 : EvE K ta env (e a)) (h2 : EvE K tb env (eU e xs)) : EvE K (tOp (rInP K true) ta tb) env (.bl (!@decide (a ∈ xs) i)) := by rw [dec_any i]; exact ee_inPU (neg := true) c hn h1 h2
theorem ee_eqQ {i : Decidable (a = b)} (c : EqP e n) (hn : n ≤ 60) (h1 : EvE K ta env (e a)) (h2 : EvE K tb env (e b)) : EvE K (tOp (rEqP K) ta tb) env (.bl (@decide (a = b) i)) := by rw [dec_any i]; exact ee_eqP c hn h1 h2
theorem ee_neQ {i : Decidable (a = b)} (c : EqP e n) (hn : n ≤ 60) (h1 : EvE K ta env (e a)) (h2 : EvE K tb env (e b)) : EvE K (tOp (rNeP K) ta tb) env (.bl (!@decide (a = b) i)) := by rw [dec_any i]; exact ee_neP c hn h1 h2
theorem ee_isB0 {a b : Bool} (h1 : EvE K ta env (.bl a)) (h2 : EvE K tb env (.bl b)) : EvE K (tOp (fun x y H Q => ∃ a b, x = .bl a ∧ y = .bl b ∧ Q (.bl (if false then !decide (a = b) else decide (a = b))) H) ta tb) env (.bl (decide (a = b))) := ee_isB (neg := false) h1 h2
theorem ee_isB1 {a b : Bool} (h1 : EvE K ta env (.bl a)) (h2 : EvE K tb env (.bl b)) : EvE K (tOp (fun x y H Q => ∃ a b, x = .bl a ∧ y = .bl b ∧ Q (.bl (if true then !decide (a = b) else decide (a = b))) H) ta tb) env (.bl (!decide (a = b))) := ee_isB (neg := true) h1 h2
end
end Y

/-! X35: all parameters given, some of them by name. -/
namespace Y
open PySem PySem.Spec PyProof.Rows L2
theorem kbn_all {K : PySem.W.Frag} {x qual : Str} {st : Stmt} {f : Addr} {fd : FuncData} {ps ks : List Str} {n : Nat} (F : Fun K x qual st f fd)
    (h : ∀ (kV doc pm : Value) (an : Option Addr) (cdv ct : Value) (us ws : List Value), us.length = n → ws.length = ks.length → bindArgs (PySem.W.fnOf x qual (defArgs st) (defBody st) (defScope st) .none kV doc pm an cdv ct) ⟨us, ks.zip ws⟩ = pure (ps.zip (us ++ ws))) :
    KBn K fd ps n ks (fun us ws => us ++ ws) (fun vs zs => vs ++ zs) := by
  obtain ⟨oc, od, kV, doc, pm, an, cdv, ct, osl, rfl, lk, hcd⟩ := F.ex
  exact ⟨fun s us ws _ h1 h2 => .of_eq (h kV doc pm an cdv ct us ws h1 h2), fun r1 r2 => r1.append r2⟩
end Y

/-! X36: what is never reached; looks at one's own lists out of which instances come; plain data; isinstance of own classes; own operators as contracts; the laws' comparison of a datum with its like. -/
namespace Y
open PySem PySem.Spec PyProof.Rows L2
/-! ### never reached -/
def tNev : TS := fun _ _ _ => False
theorem ps_nev {X : Cx} {s : Stmt} : L2.PS X s tNev := ⟨fun _ _ _ _ _ _ h => h.elim⟩
theorem pss_nev {X : Cx} {s : List Stmt} : L2.PSs X s tNev := ⟨fun _ _ _ _ _ _ h => h.elim⟩
/-! ### one's own lists, looked at -/
mutual
def OnlyL : O → Prop
  | .fr _ => True
  | .ow k xs => k = .lst ∧ OnlyLs xs
def OnlyLs : List O → Prop
  | [] => True
  | o :: os => OnlyL o ∧ OnlyLs os
end
theorem onlyLs_map {α : Type} {e : α → O} (h : ∀ a, OnlyL (e a)) : ∀ xs : List α, OnlyLs (xs.map e)
  | [] => trivial
  | x :: xs => ⟨h x, onlyLs_map h xs⟩
theorem onl_f {α : Type} {e : α → D} : ∀ a, OnlyL (oF e a) := fun _ => trivial
theorem onl_l {α : Type} {o : α → O} (h : ∀ a, OnlyL (o a)) : ∀ a, OnlyL (oL o a) := fun xs => ⟨rfl, onlyLs_map h xs⟩
/-! no list in it -/
mutual
def NoL : D → Prop
  | .lst _ => False
  | .tup xs => NoLs xs | .ins _ _ xs => NoLs xs | .dic _ xs => NoLs xs | .dit _ xs => NoLs xs | .dicz _ xs => NoLs xs | .ditz _ xs => NoLs xs | .xc _ _ _ xs => NoLs xs
  | _ => True
def NoLs : List D → Prop
  | [] => True
  | d :: ds => NoL d ∧ NoLs ds
end
theorem noLs_map {α : Type} {e : α → D} (h : ∀ a, NoL (e a)) : ∀ xs : List α, NoLs (xs.map e)
  | [] => trivial
  | x :: xs => ⟨h x, noLs_map h xs⟩
theorem nol_int : ∀ a, NoL (D.int a) := fun _ => trivial
theorem nol_bl : ∀ a, NoL (D.bl a) := fun _ => trivial
theorem nol_stx : ∀ a, NoL (stx a) := fun _ => trivial
theorem nol_c : ∀ a, NoL (eC a) := fun _ => trivial
theorem nol_n0 : ∀ a, NoL (eU0 a) := fun _ => trivial
theorem nol_n {α : Type} {e : α → D} (h : ∀ a, NoL (e a)) : ∀ a, NoL (eN e a)
  | none => trivial
  | some a => h a
theorem nol_u {α : Type} {e : α → D} (h : ∀ a, NoL (e a)) : ∀ a, NoL (eU e a) := fun xs => noLs_map h xs
def isL (u : HO) : Prop := ∃ ws, u = .lst ws
section
variable {K : PySem.W.Frag} {B F B' F' : Hp}
mutual
theorem Own.onlyL : ∀ {o : O} {x : V} {P : Fp}, Own K B F o x P → OnlyL o → ∀ a, P a → ∃ u, F a = some u ∧ isL u
  | .fr d, x, P, h, n, a, ha => by unfold Own at h; exact absurd ha (h.2 a)
  | .ow k xs, x, P, h, n, a, ha => by
    unfold Own at h
    unfold OnlyL at n
    obtain ⟨p, u, vs, P', h1, h2, h3, h4, h5, h6⟩ := h
    rcases (h6 a).1 ha with rfl | ha
    · obtain ⟨rfl, _⟩ := n
      have h3 : u = .lst vs := h3
      exact ⟨u, h2, vs, h3⟩
    · exact Owns.onlyL h4 n.2 a ha
theorem Owns.onlyL : ∀ {os : List O} {vs : List V} {P : Fp}, Owns K B F os vs P → OnlyLs os → ∀ a, P a → ∃ u, F a = some u ∧ isL u
  | [], vs, P, h, n, a, ha => by unfold Owns at h; exact absurd ha (h.2 a)
  | o :: os, vs, P, h, n, a, ha => by
    unfold Owns at h
    unfold OnlyLs at n
    obtain ⟨x, ws, P1, P2, h1, h2, h3, h4, h5⟩ := h
    rcases (h5 a).1 ha with ha | ha
    · exact Own.onlyL h2 n.1 a ha
    · exact Owns.onlyL h3 n.2 a ha
end
theorem rd_lessL {a : Addr} {u : HO} (k : ∀ a u, B a = some u → ¬ isL u → B' a = some u) (n : ¬ isL u) (h : Rd B a u) : Rd B' a u := by
  rcases h with h | ⟨o, h⟩
  · exact .inl (k _ _ h n)
  · exact .inr ⟨o, k _ _ h fun ⟨ws, z⟩ => by cases z⟩
theorem sqt_lessL {a : Addr} {xs : List V} (k : ∀ a u, B a = some u → ¬ isL u → B' a = some u) (h : SqT K B a xs) : SqT K B' a xs := by
  rcases h with h | h
  · exact .inl (rd_lessL k (fun ⟨ws, z⟩ => by cases z) h)
  · exact .inr h
mutual
theorem Rep.lessL (k : ∀ a u, B a = some u → ¬ isL u → B' a = some u) : ∀ {d : D} {x : V}, NoL d → Rep K B d x → Rep K B' d x
  | .non, _, _, h => by simpa [Rep] using h
  | .bl _, _, _, h => by simpa [Rep] using h
  | .int _, _, _, h => by simpa [Rep] using h
  | .str _, _, _, h => by simpa [Rep] using h
  | .v _, _, _, h => by simpa [Rep] using h
  | .lst ds, _, i, h => by unfold NoL at i; exact i.elim
  | .tt ks, _, _, h => by
    unfold Rep at h ⊢
    obtain ⟨a, h1, h2⟩ := h
    exact ⟨a, h1, k _ _ h2 fun ⟨ws, z⟩ => by cases z⟩
  | .ins C ns ds, _, i, h => by
    unfold NoL at i
    unfold Rep at h ⊢
    obtain ⟨a, dx, vs, h1, h2, h3, h4⟩ := h
    exact ⟨a, dx, vs, h1, k _ _ h2 (fun ⟨ws, z⟩ => by cases z), h3, Reps.lessL k i h4⟩
  | .dic ks ds, _, i, h => by
    unfold NoL at i
    unfold Rep at h ⊢
    obtain ⟨a, vs, h1, h2, h3, h4⟩ := h
    exact ⟨a, vs, h1, rd_lessL k (fun ⟨ws, z⟩ => by cases z) h2, h3, Reps.lessL k i h4⟩
  | .dit ks ds, _, i, h => by
    unfold NoL at i
    unfold Rep at h ⊢
    obtain ⟨a, vs, h1, h2, h3, h4⟩ := h
    exact ⟨a, vs, h1, rd_lessL k (fun ⟨ws, z⟩ => by cases z) h2, h3, Reps.lessL k i h4⟩
  | .dicz ks ds, _, i, h => by
    unfold NoL at i
    unfold Rep at h ⊢
    obtain ⟨a, o, vs, h1, h2, h3, h4⟩ := h
    exact ⟨a, o, vs, h1, k _ _ h2 (fun ⟨ws, z⟩ => by cases z), h3, Reps.lessL k i h4⟩
  | .ditz ks ds, _, i, h => by
    unfold NoL at i
    unfold Rep at h ⊢
    obtain ⟨a, o, vs, h1, h2, h3, h4⟩ := h
    exact ⟨a, o, vs, h1, k _ _ h2 (fun ⟨ws, z⟩ => by cases z), h3, Reps.lessL k i h4⟩
  | .xc a dd ns ds, _, i, h => by
    unfold NoL at i
    unfold Rep at h ⊢
    obtain ⟨h1, vs, h2, h3, h4⟩ := h
    exact ⟨h1, vs, k _ _ h2 (fun ⟨ws, z⟩ => by cases z), h3, Reps.lessL k i h4⟩
  | .tup ds, _, i, h => by
    unfold NoL at i
    unfold Rep at h ⊢
    obtain ⟨a, vs, h1, h2, h3⟩ := h
    exact ⟨a, vs, h1, sqt_lessL k h2, Reps.lessL k i h3⟩
theorem Reps.lessL (k : ∀ a u, B a = some u → ¬ isL u → B' a = some u) : ∀ {ds : List D} {vs : List V}, NoLs ds → Reps K B ds vs → Reps K B' ds vs
  | [], _, _, h => by simpa [Reps] using h
  | d :: ds, _, i, h => by
    unfold NoLs at i
    unfold Reps at h ⊢
    obtain ⟨x, ws, h1, h2, h3⟩ := h
    exact ⟨x, ws, h1, Rep.lessL k i.1 h2, Reps.lessL k i.2 h3⟩
end
variable {env : List Slot} {te : TE} {α β : Type}
theorem ee_peekL (i : Nat) {o : O} {d : D} (e : env[i]? = some (.own o)) (hn : OnlyL o) (h : EvE K te (env.set i (.val (frz o))) d) (hi : NoL d) : EvE K te env d := fun B F σ hs ⟨Ps, vs⟩ Q q => by
  obtain ⟨sF, vs'⟩ := peek_in vs hs e
  obtain ⟨x, h1, h2⟩ := vs.own i o e
  refine h _ F σ sF ⟨_, vs'⟩ Q fun B' F' y g r => ?_
  refine q (less (Ps i) B') F' y (peek_out hs (vs.out i) g) (r.lessL (fun a u e1 n => ?_) hi)
  have z : ¬ Ps i a := fun z => by
    obtain ⟨u', e2, n2⟩ := h2.onlyL hn a z
    have : B' a = some u' := g.b a u' (by rw [gl_in z]; exact e2)
    rw [e1] at this; cases this
    exact n n2
  rw [less_out z]; exact e1
theorem ee_pkL (i : Nat) {o : β → O} {e0 : β → D} {v : β} {d : D} (he : env[i]? = some (.own (o v))) (f : Frz o e0) (n : ∀ a, OnlyL (o a)) (h : EvE K te (env.set i (.val (e0 v))) d) (hd : NoL d) : EvE K te env d := ee_peekL i he (n v) (by rw [f v]; exact h) hd
theorem xe_pkL (i : Nat) {o : β → O} {e0 : β → D} {v : β} {m : G α} {e : α → D} (he : env[i]? = some (.own (o v))) (f : Frz o e0) (n : ∀ a, OnlyL (o a)) (h : XE K te (env.set i (.val (e0 v))) m e) (hd : ∀ a, NoL (e a)) : XE K te env m e := fun ok => ee_pkL i he f n (h ok) (hd _)
end
/-! ### plain data -/
inductive PD where
  | n | b (v : Bool) | i (v : Int) | x (v : List Nat) | t (xs : List PD) | l (xs : List PD)
deriving Inhabited
mutual
def ePD : PD → D
  | .n => .non | .b v => .bl v | .i v => .int v | .x v => stx v | .t xs => .tup (ePDs xs) | .l xs => .lst (ePDs xs)
def ePDs : List PD → List D
  | [] => []
  | p :: ps => ePD p :: ePDs ps
end
theorem ePDs_map : ∀ ps : List PD, ePDs ps = ps.map ePD
  | [] => rfl
  | p :: ps => by rw [ePDs, ePDs_map ps]; rfl
theorem ePD_t (xs : List PD) : ePD (.t xs) = eU ePD xs := by rw [ePD, ePDs_map]
theorem ePD_l (xs : List PD) : ePD (.l xs) = eL ePD xs := by rw [ePD, ePDs_map]
mutual
def PD.dp : PD → Nat
  | .t xs => PD.dps xs + 1 | .l xs => PD.dps xs + 1 | _ => 0
def PD.dps : List PD → Nat
  | [] => 0
  | p :: ps => max (PD.dp p) (PD.dps ps)
end
theorem PD.dps_le {n : Nat} : ∀ {ps : List PD}, PD.dps ps ≤ n ↔ ∀ p ∈ ps, PD.dp p ≤ n
  | [] => by simp [PD.dps]
  | p :: ps => by rw [PD.dps, Nat.max_le, PD.dps_le (ps := ps)]; simp
/-- e writes plain data, at most n deep -/
structure Pln (n : Nat) {τ : Type} (e : τ → D) : Prop where
  h : ∀ v, ∃ p : PD, ePD p = e v ∧ p.dp ≤ n
section
variable {n : Nat} {α β γ δ ε ζ η : Type} {e1 : α → D} {e2 : β → D} {e3 : γ → D} {e4 : δ → D} {e5 : ε → D} {e6 : ζ → D} {e7 : η → D}
theorem pln_int : Pln n D.int := ⟨fun v => ⟨.i v, by rw [ePD], Nat.zero_le _⟩⟩
theorem pln_b : Pln n D.bl := ⟨fun v => ⟨.b v, by rw [ePD], Nat.zero_le _⟩⟩
theorem pln_x : Pln n stx := ⟨fun v => ⟨.x v, by rw [ePD], Nat.zero_le _⟩⟩
theorem pln_c : Pln n eC := ⟨fun v => ⟨.x [v], by rw [ePD], Nat.zero_le _⟩⟩
theorem pln_n0 : Pln n eU0 := ⟨fun v => ⟨.n, by rw [ePD], Nat.zero_le _⟩⟩
theorem pln_n (h : Pln n e1) : Pln n (eN e1) := ⟨fun v => match v with
  | none => ⟨.n, by rw [ePD]; rfl, Nat.zero_le _⟩
  | some a => h.h a⟩
theorem pln_map (h : Pln n e1) : ∀ xs : List α, ∃ ps : List PD, ps.map ePD = xs.map e1 ∧ PD.dps ps ≤ n
  | [] => ⟨[], rfl, Nat.zero_le _⟩
  | x :: xs => by
    obtain ⟨p, h1, h2⟩ := h.h x
    obtain ⟨ps, h3, h4⟩ := pln_map h xs
    exact ⟨p :: ps, by simp [h1, h3], by rw [PD.dps]; exact Nat.max_le.2 ⟨h2, h4⟩⟩
theorem pln_l (h : Pln n e1) : Pln (n + 1) (eL e1) := ⟨fun v => by
  obtain ⟨ps, h1, h2⟩ := pln_map h v
  exact ⟨.l ps, by rw [ePD_l]; show D.lst _ = D.lst _; rw [h1], by rw [PD.dp]; omega⟩⟩
theorem pln_u (h : Pln n e1) : Pln (n + 1) (eU e1) := ⟨fun v => by
  obtain ⟨ps, h1, h2⟩ := pln_map h v
  exact ⟨.t ps, by rw [ePD_t]; show D.tup _ = D.tup _; rw [h1], by rw [PD.dp]; omega⟩⟩
/-- a list of data, each plain -/
inductive PlnDs (n : Nat) : List D → Prop
  | nil : PlnDs n []
  | cons {p : PD} {ds : List D} (h : p.dp ≤ n) (t : PlnDs n ds) : PlnDs n (ePD p :: ds)
theorem PlnDs.c {d : D} {ds : List D} (h : ∃ p : PD, ePD p = d ∧ p.dp ≤ n) (t : PlnDs n ds) : PlnDs n (d :: ds) := by
  obtain ⟨p, rfl, h⟩ := h
  exact .cons h t
theorem PlnDs.ps {ds : List D} (h : PlnDs n ds) : ∃ ps : List PD, ps.map ePD = ds ∧ PD.dps ps ≤ n := by
  induction h with
  | nil => exact ⟨[], rfl, Nat.zero_le _⟩
  | @cons p _ h t ih =>
    obtain ⟨ps, h1, h2⟩ := ih
    exact ⟨p :: ps, by simp [h1], by rw [PD.dps]; exact Nat.max_le.2 ⟨h, h2⟩⟩
theorem pln_tup {τ : Type} {f : τ → List D} (h : ∀ v, PlnDs n (f v)) : Pln (n + 1) (fun v => .tup (f v)) := ⟨fun v => by
  obtain ⟨ps, h1, h2⟩ := (h v).ps
  exact ⟨.t ps, by rw [ePD_t]; show D.tup _ = D.tup _; rw [h1], by rw [PD.dp]; omega⟩⟩
theorem pln_hl {τ : Type} {f : τ → List D} (h : ∀ v, PlnDs n (f v)) : Pln (n + 1) (fun v => .lst (f v)) := ⟨fun v => by
  obtain ⟨ps, h1, h2⟩ := (h v).ps
  exact ⟨.l ps, by rw [ePD_l]; show D.lst _ = D.lst _; rw [h1], by rw [PD.dp]; omega⟩⟩
theorem pln_t2 (h1 : Pln n e1) (h2 : Pln n e2) : Pln (n + 1) (eT2 e1 e2) := pln_tup fun v => .c (h1.h _) (.c (h2.h _) .nil)
theorem pln_t3 (h1 : Pln n e1) (h2 : Pln n e2) (h3 : Pln n e3) : Pln (n + 1) (eT3 e1 e2 e3) := pln_tup fun v => .c (h1.h _) (.c (h2.h _) (.c (h3.h _) .nil))
theorem pln_t4 (h1 : Pln n e1) (h2 : Pln n e2) (h3 : Pln n e3) (h4 : Pln n e4) : Pln (n + 1) (eT4 e1 e2 e3 e4) := pln_tup fun v => .c (h1.h _) (.c (h2.h _) (.c (h3.h _) (.c (h4.h _) .nil)))
theorem pln_t5 (h1 : Pln n e1) (h2 : Pln n e2) (h3 : Pln n e3) (h4 : Pln n e4) (h5 : Pln n e5) : Pln (n + 1) (eT5 e1 e2 e3 e4 e5) := pln_tup fun v => .c (h1.h _) (.c (h2.h _) (.c (h3.h _) (.c (h4.h _) (.c (h5.h _) .nil))))
theorem pln_t6 (h1 : Pln n e1) (h2 : Pln n e2) (h3 : Pln n e3) (h4 : Pln n e4) (h5 : Pln n e5) (h6 : Pln n e6) : Pln (n + 1) (eT6 e1 e2 e3 e4 e5 e6) := pln_tup fun v => .c (h1.h _) (.c (h2.h _) (.c (h3.h _) (.c (h4.h _) (.c (h5.h _) (.c (h6.h _) .nil)))))
theorem pln_h2 (h1 : Pln n e1) (h2 : Pln n e2) : Pln (n + 1) (eH2 e1 e2) := pln_hl fun v => .c (h1.h _) (.c (h2.h _) .nil)
theorem pln_h3 (h1 : Pln n e1) (h2 : Pln n e2) (h3 : Pln n e3) : Pln (n + 1) (eH3 e1 e2 e3) := pln_hl fun v => .c (h1.h _) (.c (h2.h _) (.c (h3.h _) .nil))
theorem pln_h4 (h1 : Pln n e1) (h2 : Pln n e2) (h3 : Pln n e3) (h4 : Pln n e4) : Pln (n + 1) (eH4 e1 e2 e3 e4) := pln_hl fun v => .c (h1.h _) (.c (h2.h _) (.c (h3.h _) (.c (h4.h _) .nil)))
theorem pln_pd : Pln n (fun p : {p : PD // p.dp ≤ n} => ePD p.1) := ⟨fun v => ⟨v.1, rfl, v.2⟩⟩
end
/-! ### a datum and its like -/
/-! no list in it is too long -/
mutual
def DOk : D → Prop
  | .lst xs => xs.length < 2 ^ 62 ∧ DOks xs | .tup xs => xs.length < 2 ^ 62 ∧ DOks xs | _ => True
def DOks : List D → Prop
  | [] => True
  | d :: ds => DOk d ∧ DOks ds
end
theorem doks_iff : ∀ {ds : List D}, DOks ds ↔ ∀ d ∈ ds, DOk d
  | [] => by simp [DOks]
  | d :: ds => by rw [DOks, doks_iff (ds := ds)]; simp
theorem dok_int {v : Int} : DOk (.int v) := by rw [DOk]; trivial; all_goals simp
theorem dok_b {v : Bool} : DOk (.bl v) := by rw [DOk]; trivial; all_goals simp
theorem dok_x {v : List Nat} : DOk (stx v) := by unfold stx; rw [DOk]; trivial; all_goals simp
theorem dok_n0 : DOk .non := by rw [DOk]; trivial; all_goals simp
theorem dok_l {α : Type} {e : α → D} {xs : List α} : DOk (eL e xs) ↔ xs.length < 2 ^ 62 ∧ ∀ x ∈ xs, DOk (e x) := by
  show DOk (.lst _) ↔ _
  rw [DOk, doks_iff]; simp
theorem dok_u {α : Type} {e : α → D} {xs : List α} : DOk (eU e xs) ↔ xs.length < 2 ^ 62 ∧ ∀ x ∈ xs, DOk (e x) := by
  show DOk (.tup _) ↔ _
  rw [DOk, doks_iff]; simp
theorem dok_n {α : Type} {e : α → D} {v : Option α} (h : ∀ a, v = some a → DOk (e a)) : DOk (eN e v) := by
  cases v with
  | none => exact dok_n0
  | some a => exact h a rfl
theorem dok_tup {ds : List D} (hz : ds.length < 2 ^ 62) (h : DOks ds) : DOk (.tup ds) := by rw [DOk]; exact ⟨hz, h⟩
theorem doks_n : DOks [] := trivial
theorem doks_c {d : D} {ds : List D} (h : DOk d) (t : DOks ds) : DOks (d :: ds) := ⟨h, t⟩
def mSame {α : Type} (e : α → D) (a b : α) : G Bool := ⟨a = b ∧ DOk (e a), true⟩
/-- the promise of a comparison, asked of equals alone -/
def RSame (n : Nat) (ds : List D) (o : O) : Prop := ∃ p : PD, p.dp ≤ n ∧ DOk (ePD p) ∧ ds = [ePD p, ePD p] ∧ o = .fr (.bl true)
theorem rsame_of {τ : Type} {n : Nat} {e : τ → D} (h : Pln n e) {ds : List D} {o : O} (r : R2 (mSame e) e e (oF D.bl) ds o) : RSame n ds o := by
  obtain ⟨a, b, rfl, ok, rfl⟩ := r
  obtain ⟨ok, hd⟩ := ok
  subst ok
  obtain ⟨p, h1, h2⟩ := h.h a
  exact ⟨p, h2, by rw [h1]; exact hd, by rw [h1], rfl⟩
section
variable {P : Program} {w : World} {K : PySem.W.Frag} {mg : Str → Option Value} {base : Heap}
theorem fnok_spx {k : Nat} {f : Addr} {fd : FuncData} {ps : List Str} {R R' : List D → O → Prop} (F : FnOk P w K mg base CX0 k f fd ps (spX K R)) (h : ∀ ds q, R' ds q → R ds q) : FnOk P w K mg base CX0 k f fd ps (spX K R') :=
  F.imp fun vs H Q E ⟨B, ds, o, h1, h2, h3, h4⟩ => ⟨B, ds, o, h1, h2, h _ _ h3, h4⟩
theorem cal_spx {x : Str} {k : Nat} {ps : List Str} {R R' : List D → O → Prop} (c : Cal P w K mg base x k ps (spX K R)) (h : ∀ ds q, R' ds q → R ds q) : Cal P w K mg base x k ps (spX K R') := by
  obtain ⟨f, fd, h1, h2, h3, h4⟩ := c.h
  exact ⟨f, fd, h1, h2, fnok_spx h3 h, h4⟩
structure SameC (P : Program) (w : World) (K : PySem.W.Frag) (mg : Str → Option Value) (base : Heap) (x : Str) (k : Nat) : Prop where
  h : Cal P w K mg base x k ["actual", "expected"] (spX K (RSame 8))
theorem SameC.mono {x : Str} {j k : Nat} (c : SameC P w K mg base x j) (h : j ≤ k) : SameC P w K mg base x k := ⟨c.h.mono h⟩
theorem SameC.c {x : Str} {k : Nat} (S : SameC P w K mg base x k) {τ : Type} {e : τ → D} (h : Pln 8 e) : Cal P w K mg base x k ["actual", "expected"] (spX K (R2 (mSame e) e e (oF D.bl))) := cal_spx S.h fun _ _ r => rsame_of h r
end
/-! ### is None, statically -/
section
variable {K : PySem.W.Frag} {env : List Slot} {ta te : TE} {d : D} {α : Type}
theorem ee_isN1 (h : EvE K ta env .non) : EvE K (tOp (fun x y H Q => y = .non ∧ Q (.bl (decide (x = .non))) H) ta (tC .non)) env (.bl true) := ee_op h ee_non fun B F x y hf r1 r2 Q q => by
  unfold Rep at r1 r2; subst r1 r2
  exact ⟨rfl, q B F _ (Gr.refl hf) (rp_bl B)⟩
theorem ee_isN0 {e : α → D} {v : α} (hn : Nn e) (h : EvE K ta env (e v)) : EvE K (tOp (fun x y H Q => y = .non ∧ Q (.bl (decide (x = .non))) H) ta (tC .non)) env (.bl false) := ee_op h ee_non fun B F x y hf r1 r2 Q q => by
  have n := hn _ _ _ _ r1
  unfold Rep at r2; subst r2
  refine ⟨rfl, ?_⟩
  rw [decide_eq_false n]
  exact q B F _ (Gr.refl hf) (rp_bl B)
end
/-! ### isinstance of own classes -/
structure OwnC (K : PySem.W.Frag) (C : Addr) : Prop where
  cls : Cls K C
  gc : PySem.W.findIn K (.ref C) "__class__" = some (some (.builtin "object.__class__"))
  sp : PySem.W.specialIn K (.builtin "object.__class__") "__get__" = some (some (.builtin "getset_descriptor.__get__"))
  tk : PySem.W.takesIn K (.builtin "object.__class__") = some true
  mo : PySem.W.mroIn K C (.type "object") = some true
  ty : PySem.W.typeIn K (.ref C) = some (.type "type")
  s0 : PySem.W.subIn K (.type "NoneType") (.ref C) = some false
  s1 : PySem.W.subIn K (.type "bool") (.ref C) = some false
  s2 : PySem.W.subIn K (.type "int") (.ref C) = some false
  s3 : PySem.W.subIn K (.type "str") (.ref C) = some false
  s4 : PySem.W.subIn K (.type "list") (.ref C) = some false
  s5 : PySem.W.subIn K (.type "tuple") (.ref C) = some false
section
variable {K : PySem.W.Frag} {env : List Slot} {ta tb te : TE} {d : D} {C : Addr} {ns ns' : List Str} {ds ds' : List D}
theorem OwnC.kit {b : Bool} {t : Value} (O : OwnC K C) (h : PySem.W.subIn K t (.ref C) = some b) (hne : (t == .ref C) = false) : PySem.W.kitOne K t (.ref C) = some b := by
  unfold PySem.W.kitOne
  rw [if_neg (by rw [hne]; exact Bool.false_ne_true)]
  unfold PySem.W.kitCls
  have hd := O.cls.hd
  have h1 : (PySem.W.clsIn K C).isSome = true := by
    unfold PySem.W.hasDictIn at hd
    cases e : PySem.W.clsIn K C with
    | none => rw [e] at hd; cases hd
    | some _ => rfl
  show (if ((PySem.W.clsIn K C).isSome && PySem.W.typeIn K (.ref C) == some (.type "type")) = true then PySem.W.subIn K t (.ref C) else none) = some b
  rw [O.ty, h1]
  simp only [BEq.rfl, Bool.and_self, if_true]
  exact h
theorem ee_isiC (O : OwnC K C) (h : EvE K te env (.ins C ns ds)) : EvE K (tCB (rIsi K) (tCons te (tCons (tC (.ref C)) tNil))) env (.bl true) := ee_cb (ea_cons h (ea_cons (d := .v (.ref C)) ee_v ea_nil)) fun B F xs hs r Q q => by
  obtain ⟨x, y, rfl, r1, r2⟩ := reps2 r
  unfold Rep at r1 r2; subst r2
  obtain ⟨a, dx, vs, rfl, e1, e2⟩ := r1
  exact ⟨_, _, .ref C, _, true, rfl, .own C, .base (.ins (hs _ _ e1) O.cls O.gc O.sp O.tk O.mo), kit_self _, q B F _ (Gr.refl hs) (rp_bl B)⟩
/-- none of plain data is an instance of an own class -/
theorem pd_ty {p : PD} {B F : Hp} {x : V} (hs : Same B F) (r : Rep K B (ePD p) x) : ∃ T, TyX K F x (.type T) ∧ T ∈ ["NoneType", "bool", "int", "str", "list", "tuple"] := by
  cases p with
  | n => rw [ePD] at r; unfold Rep at r; subst r; exact ⟨_, .base .non, by simp⟩
  | b v => rw [ePD] at r; unfold Rep at r; subst r; exact ⟨_, .base (.bl v), by simp⟩
  | i v => rw [ePD] at r; unfold Rep at r; subst r; exact ⟨_, .base (.int v), by simp⟩
  | x v => rw [ePD] at r; unfold stx Rep at r; subst r; exact ⟨_, .base (.str _), by simp⟩
  | t xs =>
    rw [ePD] at r; unfold Rep at r
    obtain ⟨a, ws, rfl, e1, e2⟩ := r
    refine ⟨"tuple", ?_, by simp⟩
    rcases e1 with (e1 | ⟨o, e1⟩) | ⟨o, its, m, e1, e2, _⟩
    · exact .base (.tup (hs _ _ e1))
    · exact .fTuple (hs _ _ e1)
    · exact .kTuple e1 e2
  | l xs =>
    rw [ePD] at r; unfold Rep at r
    obtain ⟨a, ws, rfl, e1, e2⟩ := r
    refine ⟨"list", ?_, by simp⟩
    rcases e1 with (e1 | ⟨o, e1⟩) | ⟨o, its, m, e1, e2, _⟩
    · exact .base (.lst (hs _ _ e1))
    · exact .base (.frz (hs _ _ e1))
    · exact .kList e1 e2
theorem OwnC.no (O : OwnC K C) {T : String} (h : T ∈ ["NoneType", "bool", "int", "str", "list", "tuple"]) : PySem.W.subIn K (.type T) (.ref C) = some false := by
  simp at h
  rcases h with rfl | rfl | rfl | rfl | rfl | rfl
  · exact O.s0
  · exact O.s1
  · exact O.s2
  · exact O.s3
  · exact O.s4
  · exact O.s5
theorem ee_isiP {p : PD} (O : OwnC K C) (h : EvE K te env (ePD p)) : EvE K (tCB (rIsi K) (tCons te (tCons (tC (.ref C)) tNil))) env (.bl false) := ee_cb (ea_cons h (ea_cons (d := .v (.ref C)) ee_v ea_nil)) fun B F xs hs r Q q => by
  obtain ⟨x, y, rfl, r1, r2⟩ := reps2 r
  unfold Rep at r2; subst r2
  obtain ⟨T, t1, t2⟩ := pd_ty hs r1
  exact ⟨_, _, .type T, _, false, rfl, .own C, t1, O.kit (O.no t2) rfl, q B F _ (Gr.refl hs) (rp_bl B)⟩
end
/-! ### own operators as contracts -/
theorem tyx_looks {X : Cx} {pins : List (Addr × Obj)} {σ : L2.St} {H : Hp} {s : Shared} {y : V} {u : Value} {T : String} (I : Inv X pins σ H s) (t : TyX X.K H y (.type T)) (hT : T ∈ ["NoneType", "bool", "int", "str", "list", "tuple"]) (r : RelV y u) : PySem.W.Looks (model X.prog X.w) s.heap (typeOf u) (.type T) := by
  cases t with
  | base h =>
    cases h with
    | non => obtain rfl : u = .none := r; exact .now
    | bl b => obtain rfl : u = .bool b := r; exact .now
    | int i => obtain ⟨t, rfl⟩ : ∃ t, u = .int i t := r; exact .now
    | str i => obtain ⟨t, rfl⟩ : ∃ t, u = .str i t := r; exact .now
    | flt x => simp at hT
    | lst h =>
      obtain rfl : u = .ref _ := r
      obtain ⟨_, its, n, _, h1⟩ := (show ObjOk X.prog X.w H s.heap _ (.lst _) from I.hok _ _ h)
      exact tup_type h1 rfl
    | frz h =>
      obtain rfl : u = .ref _ := r
      have h0 := I.hok _ _ h
      unfold ObjOk at h0
      obtain ⟨h0, _, its, n, _, h1⟩ := h0
      exact tup_type h1 rfl
    | tup h =>
      obtain rfl : u = .ref _ := r
      obtain ⟨_, its, _, h1⟩ := (show ObjOk X.prog X.w H s.heap _ (.tup _) from I.hok _ _ h)
      obtain ⟨o, h0, h1, _⟩ := h1
      exact tup_type h0 h1
    | dK h => simp at hT
    | dT h => simp at hT
  | byt b => simp at hT
  | set h => simp at hT
  | kList h1 h2 => obtain rfl : u = .ref _ := r; exact tup_type (I.kIn _ _ h1) h2
  | kTuple h1 h2 => obtain rfl : u = .ref _ := r; exact tup_type (I.kIn _ _ h1) h2
  | kDict h1 h2 => simp at hT
  | fTuple h =>
    obtain rfl : u = .ref _ := r
    have h0 := I.hok _ _ h
    unfold ObjOk at h0
    obtain ⟨h0, _, its, _, h1⟩ := h0
    obtain ⟨o, h0, h1, _⟩ := h1
    exact tup_type h0 h1
  | fDict h => simp at hT
/-- x == y, y plain data -/
def rOwnEqP (K : PySem.W.Frag) (C : Addr) (sp : Sp) (E : XK) : L2.R2 := fun x y H Q => ∃ a dx fs T, x = .ref a ∧ H a = some (.ins C dx fs) ∧ TyX K H y (.type T) ∧ T ∈ ["NoneType", "bool", "int", "str", "list", "tuple"] ∧ sp [x, y] H (fun v H' => NoNi v ∧ Q v H') E
section
variable {X : Cx} {CX : CXT} {k : Nat} {C f : Addr} {fd : FuncData} {ps : List Str} {sp : Sp} {E : XK}
theorem op_ownEqP (W : OwnC X.K C) (O : OpOf X.K C "__eq__" f) (hu : X.A.units < cLine) (F : FnOk X.prog X.w X.K X.mg X.base CX k f fd ps sp) (hr : Room k X.A) (hb : Binds X.K fd ps []) (hx : Passes CX X E) : OpR X (compareOp .Eq) (rOwnEqP X.K C sp E) := by
  intro pins s σ H x y v u Q I rx ry hq
  obtain ⟨a, dx, fs, T, rfl, ha, ty, hT, h⟩ := hq
  obtain rfl : v = .ref a := rx
  obtain ⟨mA, J, _⟩ := ins_get I.hok ha
  obtain ⟨od, J, _⟩ := J.look
  obtain ⟨m, hF⟩ := I.fr
  show wpAny (model X.prog X.w) X.A (richCompare .Eq (.ref a) u) (EP X pins σ Q) X.xe s
  exact PySem.W.cmp_K (op := .Eq) (tb := .type T) hu hF I.ok.mod.kin J (tyx_looks I ty hT ry) (by simp [PySem.W.notFirst, W.no hT]) O.at_ O.fn (own_run (vs := [.ref a, y]) F hr hb hx I (.cons rfl (.cons ry .nil)) h)
end
/-- C's method m, for an operator -/
structure OprC (P : Program) (w : World) (K : PySem.W.Frag) (mg : Str → Option Value) (base : Heap) (C : Addr) (m : Str) (k : Nat) (ps : List Str) (sp : Sp) : Prop where
  h : ∃ (f : Addr) (fd : FuncData), OpOf K C m f ∧ FnOk P w K mg base CX0 k f fd ps sp ∧ Binds K fd ps []
/-- .. and nothing of an int's stands in its way -/
structure OprI (P : Program) (w : World) (K : PySem.W.Frag) (mg : Str → Option Value) (base : Heap) (C : Addr) (op : Operator) (k : Nat) (ps : List Str) (sp : Sp) : Prop where
  h : OprC P w K mg base C (PySem.dunder op.info.2) k ps sp
  i : ∃ (fo ro : Option Value), PySem.W.findIn K (.ref C) (PySem.dunderR op.info.2) = some none ∧ PySem.W.findIn K (.type "int") (PySem.dunder op.info.2) = some fo ∧ PySem.W.findIn K (.type "int") (PySem.dunderR op.info.2) = some ro ∧ PySem.W.subIn K (.type "int") (.ref C) = some false
section
variable {P : Program} {w : World} {K : PySem.W.Frag} {mg : Str → Option Value} {base : Heap} {C : Addr} {m : Str} {ps : List Str} {sp : Sp}
theorem OprC.mono {j k : Nat} (c : OprC P w K mg base C m j ps sp) (h : j ≤ k) : OprC P w K mg base C m k ps sp := by
  obtain ⟨f, fd, h1, h2, h3⟩ := c.h
  exact ⟨f, fd, h1, h2.mono h, h3⟩
theorem OprI.mono {op : Operator} {j k : Nat} (c : OprI P w K mg base C op j ps sp) (h : j ≤ k) : OprI P w K mg base C op k ps sp := ⟨c.h.mono h, c.i⟩
end
section
variable {X : Cx} {k : Nat} {C : Addr} {ps : List Str} {sp : Sp} {a b : Expr} {ta tb : TE} {pos : Pos}
theorem pe_opC {op : Operator} (c : OprC X.prog X.w X.K X.mg X.base C (PySem.dunder op.info.2) k ps sp) (hr : Room k X.A) (ha : PE X a ta) (hb : PE X b tb) : PE X (.BinOp a op b pos) (tOp (rOwnC C sp E0) ta tb) := by
  obtain ⟨f, fd, h1, h2, h3⟩ := c.h
  exact pe_op (op_ownC h1 h2 hr h3 pass0) ha hb
theorem pe_opI {op : Operator} (c : OprI X.prog X.w X.K X.mg X.base C op k ps sp) (hr : Room k X.A) (ha : PE X a ta) (hb : PE X b tb) : PE X (.BinOp a op b pos) (tOp (rOwnI C sp E0) ta tb) := by
  obtain ⟨f, fd, h1, h2, h3⟩ := c.h.h
  obtain ⟨fo, ro, i1, i2, i3, i4⟩ := c.i
  exact pe_op (op_ownI h1 i1 i2 i3 i4 h2 hr h3 pass0) ha hb
theorem pe_opU (c : OprC X.prog X.w X.K X.mg X.base C "__invert__" k ps sp) (hr : Room k X.A) (ha : PE X a ta) : PE X (.UnaryOp .Invert a pos) (tUn (rOwnU C sp E0) ta) := by
  obtain ⟨f, fd, h1, h2, h3⟩ := c.h
  exact pe_un (un_ownInv h1 h2 hr h3 pass0) ha
theorem pe_opEq (K : PySem.W.Frag) (c : OprC X.prog X.w X.K X.mg X.base C "__eq__" k ps sp) (hr : Room k X.A) (ha : PE X a ta) (hb : PE X b tb) (hm : behindInMarks .Eq b = false) (hK : X.K = K := by rfl) : PE X (.Compare a [.Eq] [b] pos) (tOp (rOwnEq K C sp E0) ta tb) := by
  subst hK
  obtain ⟨f, fd, h1, h2, h3⟩ := c.h
  exact pe_cmpR (op_ownEq h1 (Nat.lt_of_le_of_lt (Nat.le_add_right _ _) hr.units) h2 hr h3 pass0) ha hb hm
theorem pe_opEqP (K : PySem.W.Frag) (W : OwnC K C) (c : OprC X.prog X.w X.K X.mg X.base C "__eq__" k ps sp) (hr : Room k X.A) (ha : PE X a ta) (hb : PE X b tb) (hm : behindInMarks .Eq b = false) (hK : X.K = K := by rfl) : PE X (.Compare a [.Eq] [b] pos) (tOp (rOwnEqP K C sp E0) ta tb) := by
  subst hK
  obtain ⟨f, fd, h1, h2, h3⟩ := c.h
  exact pe_cmpR (op_ownEqP W h1 (Nat.lt_of_le_of_lt (Nat.le_add_right _ _) hr.units) h2 hr h3 pass0) ha hb hm
end
section
variable {K : PySem.W.Frag} {env : List Slot} {ta tb te : TE} {d : D} {C : Addr} {ns ns' : List Str} {ds ds' : List D} {E : XK} {R : List D → O → Prop} {ρ : Type} {m : G ρ} {o : ρ → O}
theorem xo_ownEqP {p : PD} (h1 : EvE K ta env (.ins C ns ds)) (h2 : EvE K tb env (ePD p)) (hn : m.ok → NoNiO (o m.val)) (hr : m.ok → R [.ins C ns ds, ePD p] (o m.val)) : XO K (tOp (rOwnEqP K C (spX K R) E) ta tb) env m o := fun ok B F σ s v Q q =>
  h1 B F σ s v _ fun B1 F1 x g1 r1 => h2 B1 F1 σ g1.f (v.grow g1) _ fun B2 F2 y g2 r2 => by
    have rx := r1.mono g2.b
    obtain ⟨a, dx, fs, ea, ha⟩ := ins_at g2.f rx
    obtain ⟨T, t1, t2⟩ := pd_ty g2.f r2
    refine ⟨a, dx, fs, T, ea, ha, t1, t2, B2, [.ins C ns ds, ePD p], _, g2.f, Reps.cons rx (Reps.cons r2 Reps.nil), hr ok, fun B' F' z P g w p => ⟨hn ok K B' F' z P w, ?_⟩⟩
    exact q B' F' z P ((g1.trans g2).trans g) w fun c hc => ⟨(g1.trans g2).s.free (p c hc).1, (p c hc).2⟩
end
/-! ### more -/
theorem nol_tup {τ : Type} {f : τ → List D} (h : ∀ v, NoLs (f v)) : ∀ v, NoL (.tup (f v)) := h
theorem nol_ins {τ : Type} {C : Addr} {ns : List Str} {f : τ → List D} (h : ∀ v, NoLs (f v)) : ∀ v, NoL (.ins C ns (f v)) := h
theorem nols_n : NoLs [] := trivial
theorem nols_c {d : D} {ds : List D} (h : NoL d) (t : NoLs ds) : NoLs (d :: ds) := ⟨h, t⟩
/-- v's plain datum -/
structure ToPD {τ : Type} (e : τ → D) (f : τ → PD) : Prop where
  h : ∀ v, ePD (f v) = e v
section
variable {α β γ δ ε ζ : Type} {e1 : α → D} {e2 : β → D} {e3 : γ → D} {e4 : δ → D} {e5 : ε → D} {e6 : ζ → D} {f1 : α → PD} {f2 : β → PD} {f3 : γ → PD} {f4 : δ → PD} {f5 : ε → PD} {f6 : ζ → PD}
theorem topd_i : ToPD D.int PD.i := ⟨fun v => by rw [ePD]⟩
theorem topd_b : ToPD D.bl PD.b := ⟨fun v => by rw [ePD]⟩
theorem topd_x : ToPD stx PD.x := ⟨fun v => by rw [ePD]⟩
theorem topd_n : ToPD eU0 (fun _ => PD.n) := ⟨fun v => by rw [ePD]⟩
theorem topd_o (h : ToPD e1 f1) : ToPD (eN e1) (fun v => match v with | none => PD.n | some a => f1 a) := ⟨fun v => match v with
  | none => by show ePD PD.n = _; rw [ePD]; rfl
  | some a => h.h a⟩
theorem topd_map (h : ToPD e1 f1) (xs : List α) : (xs.map f1).map ePD = xs.map e1 := by
  rw [List.map_map]
  exact List.map_congr_left fun a _ => h.h a
theorem topd_l (h : ToPD e1 f1) : ToPD (eL e1) (fun xs => .l (xs.map f1)) := ⟨fun xs => by rw [ePD_l]; show D.lst _ = D.lst _; rw [topd_map h]⟩
theorem topd_u (h : ToPD e1 f1) : ToPD (eU e1) (fun xs => .t (xs.map f1)) := ⟨fun xs => by rw [ePD_t]; show D.tup _ = D.tup _; rw [topd_map h]⟩
theorem topd_t2 (h1 : ToPD e1 f1) (h2 : ToPD e2 f2) : ToPD (eT2 e1 e2) (fun q => .t [f1 q.1, f2 q.2]) := ⟨fun q => by rw [ePD_t]; show D.tup [_, _] = D.tup [_, _]; rw [h1.h, h2.h]⟩
theorem topd_t3 (h1 : ToPD e1 f1) (h2 : ToPD e2 f2) (h3 : ToPD e3 f3) : ToPD (eT3 e1 e2 e3) (fun q => .t [f1 q.1, f2 q.2.1, f3 q.2.2]) := ⟨fun q => by rw [ePD_t]; show D.tup [_, _, _] = D.tup [_, _, _]; rw [h1.h, h2.h, h3.h]⟩
theorem topd_t4 (h1 : ToPD e1 f1) (h2 : ToPD e2 f2) (h3 : ToPD e3 f3) (h4 : ToPD e4 f4) : ToPD (eT4 e1 e2 e3 e4) (fun q => .t [f1 q.1, f2 q.2.1, f3 q.2.2.1, f4 q.2.2.2]) := ⟨fun q => by rw [ePD_t]; show D.tup [_, _, _, _] = D.tup [_, _, _, _]; rw [h1.h, h2.h, h3.h, h4.h]⟩
theorem ee_pd {K : PySem.W.Frag} {env : List Slot} {te : TE} {v : α} (p : EvE K te env (e1 v)) (h : ToPD e1 f1) : EvE K te env (ePD (f1 v)) := by rw [h.h]; exact p
end
theorem nn_pd0 : True := trivial
theorem nn_any {α : Type} {f : α → D} (h : ∀ a, (match f a with | .non => False | .v _ => False | _ => True)) : Nn f := fun K H a x r => by
  have h := h a
  cases e : f a <;> rw [e] at h r <;> first | exact h.elim | skip
  all_goals unfold Rep at r
  all_goals first | (subst r; intro z; cases z) | (obtain ⟨_, rfl, _⟩ := r; intro z; cases z) | (obtain ⟨_, _, rfl, _⟩ := r; intro z; cases z) | (obtain ⟨_, _, _, rfl, _⟩ := r; intro z; cases z) | (obtain ⟨rfl, _⟩ := r; intro z; cases z)
/-- a comparison of plain data, no deeper than m, asked of equals alone -/
def mSameD (m : Nat) (a b : PD) : G Bool := ⟨a = b ∧ a.dp ≤ m ∧ DOk (ePD a), true⟩
theorem fnok_ex {P : Program} {w : World} {K : PySem.W.Frag} {mg : Str → Option Value} {base : Heap} {k : Nat} {f : Addr} {fd : FuncData} {ps : List Str} {ι : Type} {R : ι → List D → O → Prop} {R' : List D → O → Prop} (i0 : ι) (F : ∀ i, FnOk P w K mg base CX0 k f fd ps (spX K (R i))) (h : ∀ ds q, R' ds q → ∃ i, R i ds q) : FnOk P w K mg base CX0 k f fd ps (spX K R') where
  len := fun vs H Q E ⟨B, ds, o, h1, h2, h3, h4⟩ => by
    obtain ⟨i, h5⟩ := h _ _ h3
    exact (F i).len vs H Q E ⟨B, ds, o, h1, h2, h5, h4⟩
  run := fun A st s H fr us vs Q E hr h1 h2 h3 ⟨B, ds, o, g1, g2, g3, g4⟩ => by
    obtain ⟨i, h5⟩ := h _ _ g3
    exact (F i).run A st s H fr us vs Q E hr h1 h2 h3 ⟨B, ds, o, g1, g2, h5, g4⟩
end Y

/-! ML: what a mirror answers, rule by rule. -/
namespace Y
/-- the mirror is answered, and its answer is as Q says -/
structure H {α : Type} (m : G α) (Q : α → Prop) : Prop where
  ok : m.ok
  val : Q m.val
namespace H
variable {α β σ ρ τ : Type}
theorem p {v : α} {Q : α → Prop} (h : Q v) : H (.p v) Q := ⟨trivial, h⟩
theorem b {m : G α} {f : α → G β} {Q : β → Prop} (h : H m fun v => H (f v) Q) : H (.b m f) Q := ⟨⟨h.ok, h.val.ok⟩, h.val.val⟩
theorem lt {v : α} {f : α → G β} {Q : β → Prop} (h : H (f v) Q) : H (.lt v f) Q := h
theorem ite {c : Bool} {x y : G α} {Q : α → Prop} (h1 : c = true → H x Q) (h2 : c = false → H y Q) : H (.ite c x y) Q :=
  ⟨⟨fun h => (h1 h).ok, fun h => (h2 h).ok⟩, by
    show Q (if c = true then x.val else y.val)
    cases c with
    | true => exact (h1 rfl).val
    | false => exact (h2 rfl).val⟩
theorem a {C : Prop} {m : G α} {Q : α → Prop} (c : C) (h : H m Q) : H (.a C m) Q := ⟨⟨c, h.ok⟩, h.val⟩
theorem c {C : Prop} {v : α} {Q : α → Prop} (c : C) (h : Q v) : H ⟨C, v⟩ Q := ⟨c, h⟩
theorem w {m : G α} {Q R : α → Prop} (h : H m Q) (k : ∀ v, Q v → R v) : H m R := ⟨h.ok, k _ h.val⟩
theorem fold {xs : List α} {f : α → σ → G σ} {s : σ} {Q : σ → Prop} (I : Nat → σ → Prop) (h0 : I 0 s) (hs : ∀ i x s, xs[i]? = some x → I i s → H (f x s) (I (i + 1))) (h : ∀ s, I xs.length s → Q s) : H (.fold xs s f) Q := by
  have key : ∀ (xs : List α) (I : Nat → σ → Prop) (s : σ), I 0 s → (∀ i x s, xs[i]? = some x → I i s → H (f x s) (I (i + 1))) → H (.fold xs s f) (I xs.length) := by
    intro xs
    induction xs with
    | nil => intro I s h0 _; exact ⟨trivial, h0⟩
    | cons x xs ih =>
      intro I s h0 hs
      have h1 := hs 0 x s rfl h0
      have h2 := ih (fun i => I (i + 1)) (f x s).val h1.val fun i y s' e hi => hs (i + 1) y s' (by simpa using e) hi
      exact ⟨⟨h1.ok, h2.ok⟩, h2.val⟩
  exact (key xs I s h0 hs).w h
theorem loop {xs : List α} {f : α → σ → G (Lv ρ σ)} {s : σ} {Q : Sum ρ σ → Prop} (I : Nat → σ → Prop) (h0 : I 0 s)
    (hs : ∀ i x s, xs[i]? = some x → I i s → H (f x s) fun v => match v with | .rt r => Q (.inl r) | .bk s => Q (.inr s) | .ct s => I (i + 1) s) (h : ∀ s, I xs.length s → Q (.inr s)) : H (.loop xs s f) Q := by
  have key : ∀ (xs : List α) (I : Nat → σ → Prop) (s : σ), I 0 s → (∀ i x s, xs[i]? = some x → I i s → H (f x s) fun v => match v with | .rt r => Q (.inl r) | .bk s => Q (.inr s) | .ct s => I (i + 1) s) → (∀ s, I xs.length s → Q (.inr s)) → H (.loop xs s f) Q := by
    intro xs
    induction xs with
    | nil => intro I s h0 _ h; exact ⟨trivial, h s h0⟩
    | cons x xs ih =>
      intro I s h0 hs h
      have h1 := hs 0 x s rfl h0
      show H (.b (f x s) fun v => G.turn v fun s' => .loop xs s' f) Q
      refine b (h1.w fun v hv => ?_)
      cases v with
      | rt r => exact p hv
      | bk s => exact p hv
      | ct s' => exact ih (fun i => I (i + 1)) s' hv (fun i y s' e hi => hs (i + 1) y s' (by simpa using e) hi) h
  exact key xs I s h0 hs h
theorem whl {n : Nat} {c : σ → G Bool} {f : σ → G σ} {s : σ} {Q : σ → Prop} (I : σ → Prop) (μ : σ → Nat) (h0 : I s) (hn : μ s < n)
    (hs : ∀ s, I s → H (c s) fun t => (t = true → H (f s) fun s' => I s' ∧ μ s' < μ s) ∧ (t = false → Q s)) : H (.whl n c f s) Q := by
  induction n generalizing s with
  | zero => omega
  | succ n ih =>
    show H (.b (c s) fun t => .ite t (.b (f s) fun s' => .whl n c f s') (.p s)) Q
    refine b ((hs s h0).w fun t ht => ite (fun h => b ((ht.1 h).w fun s' hs' => ih hs'.1 (by omega))) fun h => p (ht.2 h))
/-- a while whose body need not come to an end by a measure that is seen at once: at most n turns -/
theorem on {m : G (Sum ρ σ)} {w : ρ → τ} {k : σ → G τ} {Q : τ → Prop} (h : H m fun v => match v with | .inl r => Q (w r) | .inr s => H (k s) Q) : H (.on m w k) Q := by
  obtain ⟨h1, h2⟩ := h
  cases e : m.val with
  | inl r =>
    rw [e] at h2
    refine ⟨⟨h1, fun s hs => by rw [e] at hs; cases hs⟩, ?_⟩
    show Q (match m.val with | .inl r => w r | .inr s => (k s).val)
    rw [e]; exact h2
  | inr s =>
    rw [e] at h2
    refine ⟨⟨h1, fun s' hs => by rw [e] at hs; cases hs; exact h2.ok⟩, ?_⟩
    show Q (match m.val with | .inl r => w r | .inr s => (k s).val)
    rw [e]; exact h2.val
theorem mapG {xs : List α} {f : α → G β} {Q : List β → Prop} (g : α → β) (hz : xs.length ≤ 100000) (hf : ∀ x ∈ xs, H (f x) fun v => v = g x) (h : Q (xs.map g)) : H (.mapG xs f) Q := by
  refine ⟨⟨hz, fun x hx => (hf x hx).ok⟩, ?_⟩
  have : (xs.map fun x => (f x).val) = xs.map g := List.map_congr_left fun x hx => (hf x hx).val
  show Q (xs.map fun x => (f x).val)
  rw [this]; exact h
theorem comp {xs : List α} {c : α → G Bool} {f : α → G β} {Q : List β → Prop} (t : α → Bool) (g : α → β) (hz : xs.length ≤ 100000) (hc : ∀ x ∈ xs, H (c x) fun v => v = t x) (hf : ∀ x ∈ xs, t x = true → H (f x) fun v => v = g x) (h : Q ((xs.filter t).map g)) : H (.comp xs c f) Q := by
  have hv : ∀ x ∈ xs, (c x).val = t x := fun x hx => (hc x hx).val
  refine ⟨⟨hz, fun x hx => ⟨(hc x hx).ok, fun e => (hf x hx (by rw [← hv x hx]; exact e)).ok⟩⟩, ?_⟩
  show Q ((xs.filter fun x => (c x).val).map fun x => (f x).val)
  have e1 : (xs.filter fun x => (c x).val) = xs.filter t := List.filter_congr fun x hx => by rw [hv x hx]
  rw [e1]
  have : ((xs.filter t).map fun x => (f x).val) = (xs.filter t).map g := List.map_congr_left fun x hx => by
    obtain ⟨h1, h2⟩ := List.mem_filter.1 hx
    exact (hf x h1 h2).val
  rw [this]; exact h
end H
/-! lists -/
theorem rangeZ_get {n : Int} {i : Nat} {x : Int} (h : (rangeZ 0 n)[i]? = some x) : x = i ∧ (i : Int) < n := by
  unfold rangeZ at h
  rw [List.getElem?_map] at h
  cases e : (List.range (n - 0).toNat)[i]? with
  | none => rw [e] at h; cases h
  | some j =>
    rw [e] at h
    obtain ⟨h1, h2⟩ := List.getElem?_eq_some_iff.1 e
    rw [List.getElem_range] at h2
    rw [List.length_range] at h1
    simp at h
    omega
theorem rangeZ_len {n : Int} : (rangeZ 0 n).length = n.toNat := by unfold rangeZ; simp
theorem rangeZ_mem {n x : Int} (h : x ∈ rangeZ 0 n) : 0 ≤ x ∧ x < n := by
  obtain ⟨i, hi⟩ := List.mem_iff_getElem?.1 h
  have := rangeZ_get hi
  omega
theorem enumZ_get {α : Type} [Inhabited α] {xs : List α} {i : Nat} {q : Int × α} (h : (enumZ xs)[i]? = some q) : i < xs.length ∧ q = ((i : Int), xs.getD i default) := by
  unfold enumZ at h
  rw [List.getElem?_map] at h
  cases e : (List.range xs.length)[i]? with
  | none => rw [e] at h; cases h
  | some j =>
    rw [e] at h
    obtain ⟨h1, h2⟩ := List.getElem?_eq_some_iff.1 e
    rw [List.getElem_range] at h2
    rw [List.length_range] at h1
    simp at h
    subst h2
    exact ⟨h1, h.symm⟩
theorem enumZ_len {α : Type} [Inhabited α] {xs : List α} : (enumZ xs).length = xs.length := by unfold enumZ; simp
theorem inR_of {n : Nat} {k : Int} (h0 : 0 ≤ k) (h : k < n) : InR n k := ⟨by omega, h⟩
theorem ix_pos {α : Type} [Inhabited α] {xs : List α} {k : Int} (h : 0 ≤ k) : ix xs k = xs.getD k.toNat default := by
  unfold ix ixJ; rw [if_pos h]
theorem setI_pos {α : Type} {xs : List α} {k : Int} {v : α} (h : 0 ≤ k) : setI xs k v = xs.set k.toNat v := by
  unfold setI ixJ; rw [if_pos h]
theorem setI_len {α : Type} {xs : List α} {k : Int} {v : α} : (setI xs k v).length = xs.length := by unfold setI; simp
theorem getD_set {α : Type} {xs : List α} {i j : Nat} {v d : α} (h : i < xs.length) : (xs.set i v).getD j d = if i = j then v else xs.getD j d := by
  rw [List.getD_eq_getElem?_getD, List.getD_eq_getElem?_getD, List.getElem?_set]
  by_cases e : i = j
  · subst e; simp [h]
  · simp [e]
/-! dicts -/
section
variable {κ α : Type} [DecidableEq κ]
theorem dhas_iff {d : List (κ × α)} {k : κ} : dhas d k = true ↔ k ∈ d.map (·.1) := by
  unfold dhas
  rw [List.any_eq_true]
  simp only [List.mem_map, decide_eq_true_eq]
theorem dget_mem {d : List (κ × α)} {k : κ} {v : α} (hn : (d.map (·.1)).Nodup) : dget d k = some v ↔ (k, v) ∈ d := by
  induction d with
  | nil => simp [dget]
  | cons q d ih =>
    rw [List.map_cons, List.nodup_cons] at hn
    have ih := ih hn.2
    unfold dget at ih ⊢
    rw [List.find?_cons]
    by_cases e : q.1 = k
    · simp only [e, decide_true, Option.map_some, Option.some.injEq, List.mem_cons]
      constructor
      · intro h; left; rw [← h, ← e]
      · rintro (h | h)
        · rw [← h]
        · exact absurd (List.mem_map.2 ⟨_, h, rfl⟩) (by rw [← e] at *; exact hn.1)
    · simp only [e, decide_false, List.mem_cons]
      rw [ih]
      constructor
      · intro h; right; exact h
      · rintro (h | h)
        · exact absurd (by rw [← h]) e
        · exact h
theorem dput_new {d : List (κ × α)} {k : κ} {v : α} (h : k ∉ d.map (·.1)) : dput d k v = d ++ [(k, v)] := by
  unfold dput
  rw [if_neg]
  rw [dhas_iff]; exact h
theorem dget_isSome {d : List (κ × α)} {k : κ} (h : k ∈ d.map (·.1)) : (dget d k).isSome = true := by
  obtain ⟨q, hq, rfl⟩ := List.mem_map.1 h
  unfold dget
  rw [Option.isSome_map]
  rw [List.find?_isSome]
  exact ⟨q, hq, by simp⟩
end
end Y

/-! N1: more of H; dicts. -/
namespace Y
namespace H
variable {α β σ ρ τ κ : Type}
/-- a fold whose turns are told by a function -/
theorem foldl {xs : List α} {f : α → σ → G σ} {s : σ} {Q : σ → Prop} (g : σ → α → σ) (I : Nat → σ → Prop) (h0 : I 0 s) (hs : ∀ i x, xs[i]? = some x → ∀ s, I i s → H (f x s) (fun s' => s' = g s x) ∧ I (i + 1) (g s x)) (h : I xs.length (xs.foldl g s) → Q (xs.foldl g s)) : H (.fold xs s f) Q := by
  refine H.fold (fun k s' => s' = (xs.take k).foldl g s ∧ I k s') ⟨by simp, h0⟩ (fun i x s' hx ⟨e, hi⟩ => ?_) fun s' ⟨e, hi⟩ => ?_
  · obtain ⟨h1, h2⟩ := hs i x hx s' hi
    refine h1.w fun v hv => ⟨?_, hv ▸ h2⟩
    rw [hv, e, List.take_add_one, hx]
    simp
  · rw [List.take_length] at e
    subst e
    exact h hi
/-- the loop that ends by False at the first item that does not fit -/
theorem allLoop {xs : List α} {f : α → Unit → G (Lv Bool Unit)} {Q : Sum Bool Unit → Prop} (c : α → Bool) (hf : ∀ x ∈ xs, H (f x ()) (fun v => v = if c x = true then .ct () else .rt false)) (h1 : xs.all c = true → Q (.inr ())) (h2 : xs.all c = false → Q (.inl false)) : H (.loop xs () f) Q := by
  refine H.loop (fun k _ => (xs.take k).all c = true) (by simp) (fun i x s hx hi => ?_) fun s hs => ?_
  · refine (hf x (List.mem_of_getElem? hx)).w fun v hv => ?_
    by_cases hc : c x = true
    · rw [if_pos hc] at hv
      subst hv
      show (xs.take (i + 1)).all c = true
      rw [List.take_add_one, hx, List.all_append, hi]
      simp [hc]
    · rw [if_neg hc] at hv
      subst hv
      refine h2 (Bool.eq_false_iff.2 fun e => hc ?_)
      exact List.all_eq_true.1 e x (List.mem_of_getElem? hx)
  · rw [List.take_length] at hs
    exact h1 hs
theorem dcomp [DecidableEq κ] {xs : List α} {c : α → G Bool} {k : α → G κ} {f : α → G β} {Q : List (κ × β) → Prop} (t : α → Bool) (kf : α → κ) (g : α → β) (hz : xs.length ≤ 100000) (hc : ∀ x ∈ xs, H (c x) fun v => v = t x) (hk : ∀ x ∈ xs, t x = true → H (k x) fun v => v = kf x) (hf : ∀ x ∈ xs, t x = true → H (f x) fun v => v = g x)
    (h : Q (putAll [] ((xs.filter t).map fun x => (kf x, g x)))) : H (.dcomp xs c k f) Q := by
  have e1 : (xs.filter fun x => (c x).val) = xs.filter t := List.filter_congr fun x hx => (hc x hx).val
  refine ⟨⟨hz, fun x hx => ⟨(hc x hx).ok, fun hv => ?_⟩⟩, ?_⟩
  · rw [(hc x hx).val] at hv
    exact ⟨(hk x hx hv).ok, (hf x hx hv).ok⟩
  · show Q (putAll [] ((xs.filter fun x => (c x).val).map fun x => ((k x).val, (f x).val)))
    rw [e1]
    have e2 : ((xs.filter t).map fun x => ((k x).val, (f x).val)) = (xs.filter t).map fun x => (kf x, g x) := List.map_congr_left fun x hx => by
      have h1 := List.mem_filter.1 hx
      rw [(hk x h1.1 h1.2).val, (hf x h1.1 h1.2).val]
    rw [e2]
    exact h
theorem val' {m : G α} {v : α} (h : H m (· = v)) : m.val = v := h.val
theorem calm {ξ : Type} [Inhabited ρ] {m : G (Sum ξ ρ)} {Q : ρ → Prop} (h : H m fun v => ∃ r, v = .inr r ∧ Q r) : H (calmG m) Q := by
  obtain ⟨r, e, q⟩ := h.val
  refine ⟨⟨h.ok, r, e⟩, ?_⟩
  unfold calmG
  simp only [e]
  exact q
theorem bt {m : G α} {f : α → G β} {Q : β → Prop} (v : α) (h : H m (· = v)) (k : H (f v) Q) : H (.b m f) Q := H.b (h.w fun _ e => e ▸ k)
end H
/-! dicts -/
section
variable {κ α β : Type} [DecidableEq κ]
theorem dget_nil (k : κ) : dget ([] : List (κ × α)) k = none := rfl
theorem dget_cons (q : κ × α) (d : List (κ × α)) (k : κ) : dget (q :: d) k = if q.1 = k then some q.2 else dget d k := by
  unfold dget
  rw [List.find?_cons]
  by_cases h : q.1 = k <;> simp [h]
theorem dget_append (a b : List (κ × α)) (k : κ) : dget (a ++ b) k = (dget a k).or (dget b k) := by
  induction a with
  | nil => simp [dget_nil]
  | cons q a ih =>
    rw [List.cons_append, dget_cons, dget_cons, ih]
    by_cases h : q.1 = k <;> simp [h]
theorem dhas_cons (q : κ × α) (d : List (κ × α)) (k : κ) : dhas (q :: d) k = (decide (q.1 = k) || dhas d k) := by unfold dhas; rw [List.any_cons]
theorem dget_none {d : List (κ × α)} {k : κ} : dget d k = none ↔ k ∉ d.map (·.1) := by
  induction d with
  | nil => simp [dget_nil]
  | cons q d ih =>
    rw [dget_cons]
    by_cases h : q.1 = k
    · simp [h]
    · have h' : ¬ k = q.1 := fun e => h e.symm
      simp [h, h', ih]
theorem dhas_false {d : List (κ × α)} {k : κ} : dhas d k = false ↔ k ∉ d.map (·.1) := by
  rw [← Bool.not_eq_true, dhas_iff]
theorem dget_dput (d : List (κ × α)) (k : κ) (v : α) (k' : κ) : dget (dput d k v) k' = if k = k' then some v else dget d k' := by
  unfold dput
  by_cases h : dhas d k = true
  · rw [if_pos h]
    induction d with
    | nil => simp [dhas] at h
    | cons q d ih =>
      rw [List.map_cons, dget_cons, dget_cons]
      by_cases hq : q.1 = k
      · rw [if_pos hq]
        by_cases hk : k = k'
        · subst hk; simp [hq]
        · have : ¬ q.1 = k' := fun e => hk (hq ▸ e)
          simp only [this, if_false, hk]
          by_cases hd : dhas d k = true
          · rw [ih hd, if_neg hk]
          · have hd : k ∉ d.map (·.1) := dhas_false.1 (by simpa using hd)
            have : (d.map fun q => if q.1 = k then (q.1, v) else q) = d := by
              conv => rhs; rw [← List.map_id d]
              refine List.map_congr_left fun z hz => ?_
              have : ¬ z.1 = k := fun e => hd (e ▸ List.mem_map_of_mem hz)
              simp [this]
            rw [this]
      · rw [if_neg hq]
        have hd : dhas d k = true := by rw [dhas_cons] at h; simpa [hq] using h
        by_cases hk : q.1 = k'
        · have : ¬ k = k' := fun e => hq (by rw [hk, e])
          simp [hk, this]
        · simp only [hk, if_false]
          exact ih hd
  · rw [if_neg h]
    have hd : k ∉ d.map (·.1) := dhas_false.1 (by simpa using h)
    rw [dget_append, dget_cons, dget_nil]
    by_cases hk : k = k'
    · subst hk; rw [dget_none.2 hd]; simp
    · simp only [hk, if_false]; simp
theorem dhas_isSome {d : List (κ × α)} {k : κ} : dhas d k = (dget d k).isSome := dhas_dget
theorem dput_new' {d : List (κ × α)} {k : κ} {v : α} (h : k ∉ d.map (·.1)) : dput d k v = d ++ [(k, v)] := dput_new h
theorem putAll_new : ∀ {qs d : List (κ × α)}, ((d ++ qs).map (·.1)).Nodup → putAll d qs = d ++ qs
  | [], d, _ => by simp [putAll]
  | q :: qs, d, h => by
    have hq : q.1 ∉ d.map (·.1) := by
      rw [List.map_append, List.nodup_append] at h
      exact fun e => h.2.2 _ e _ (by simp) rfl
    show putAll (dput d q.1 q.2) qs = _
    rw [dput_new' hq, putAll_new (by simpa using h)]
    simp
theorem putAll_nodup {qs : List (κ × α)} (h : (qs.map (·.1)).Nodup) : putAll [] qs = qs := by rw [putAll_new (by simpa using h)]; simp
theorem dget_mem' {d : List (κ × α)} {k : κ} {v : α} (h : dget d k = some v) : (k, v) ∈ d := by
  induction d with
  | nil => simp [dget_nil] at h
  | cons q d ih =>
    rw [dget_cons] at h
    by_cases hq : q.1 = k
    · rw [if_pos hq] at h
      obtain ⟨rfl⟩ := h
      subst hq
      exact List.mem_cons_self
    · rw [if_neg hq] at h
      exact List.mem_cons_of_mem _ (ih h)
theorem dget_of_mem {d : List (κ × α)} {k : κ} {v : α} (hn : (d.map (·.1)).Nodup) (h : (k, v) ∈ d) : dget d k = some v := (dget_mem hn).2 h
theorem dget_some_of {d : List (κ × α)} {k : κ} (h : k ∈ d.map (·.1)) : ∃ v, dget d k = some v := by
  cases e : dget d k with
  | none => exact absurd h (dget_none.1 e)
  | some v => exact ⟨v, rfl⟩
/-- a dict that is changed at the key of each item -/
def dupd (key : β → κ) (f : Option α → β → α) (d : List (κ × α)) (x : β) : List (κ × α) := dput d (key x) (f (dget d (key x)) x)
theorem dget_dupd {key : β → κ} {f : Option α → β → α} : ∀ (xs : List β) (d : List (κ × α)) (k : κ), dget (xs.foldl (dupd key f) d) k = (xs.filter fun x => decide (key x = k)).foldl (fun o x => some (f o x)) (dget d k)
  | [], d, k => by simp
  | x :: xs, d, k => by
    rw [List.foldl_cons, dget_dupd xs, List.filter_cons]
    unfold dupd
    rw [dget_dput]
    by_cases h : key x = k
    · simp [h]
    · simp [h]
theorem keys_dupd {key : β → κ} {f : Option α → β → α} : ∀ (xs : List β) (d : List (κ × α)), (xs.foldl (dupd key f) d).map (·.1) = (xs.map key).foldl addK (d.map (·.1))
  | [], d => by simp
  | x :: xs, d => by
    rw [List.foldl_cons, keys_dupd xs, List.map_cons, List.foldl_cons]
    unfold dupd
    rw [dput_keys]
theorem dput_len' (d : List (κ × α)) (k : κ) (v : α) : (dput d k v).length ≤ d.length + 1 := dput_len d k v
end
end Y

/-! X37: a locked dict walked, makings by keywords alone, the comparison of plain data put together from its parts. -/
namespace Y
open PySem PySem.Spec PyProof.Rows L2
theorem pe_nev {X : Cx} {e : Expr} : L2.PE X e (fun _ _ _ => False) := ⟨fun _ _ _ _ _ _ h => h.elim⟩
section
variable {κ α : Type} {K : PySem.W.Frag} {env : List Slot} {te : TE} {kk : κ → Key} {e : α → D} {d : List (κ × α)}
theorem ei_keysZT (h : EvE K te env (eKz kk e d)) : EvI K (iKeys te) env ((d.map (·.1)).map fun k => kD (kk k)) := by
  rw [List.map_map]
  exact ei_keysZ h
end
section
variable {X : Cx} {C : Addr} {x : Str} {k : Nat} {ps ks : List Str} {sp : Sp} {p pos : Pos} {kws : List Keyword} {tk : TA} {gV : List V → List V → List V}
theorem pe_makK (c : MakN X.prog X.w X.K X.mg X.base x C k ps 0 ks gV sp) (hr : Room (k + 1) X.A) (hg : Gl X x) (hkw : PK X kws tk)
    (hall : (backToKw pos (keywordEach kws X.env)).all (·.1.isSome) = true := by rfl) (hks : (backToKw pos (keywordEach kws X.env)).filterMap (·.1) = ks := by rfl)
    (hdb : (x == ("__debug__" : Str)) = false := by decide)
    (hpl : ((backTo pos (starEach [] X.env)).any (·.1) || (backToKw pos (keywordEach kws X.env)).any (·.1.isNone)) = false := by rfl) :
    PE X (.Call (.Name x p) [] kws pos) (tMakeK C 0 ks.length sp gV E0 tNil tk) := by
  obtain ⟨f, fd, g, h1, h2, h3, h4⟩ := c.h
  exact pe_makeK0 h2 h3 hr hg h1 h4 pass0 hkw hall hks hdb hpl
end
section
variable {K : PySem.W.Frag} {env : List Slot} {tk : TA} {E : XK} {C : Addr} {ρ : Type} {m : G ρ}
theorem xe_makeK {es : List D} {ns : List Str} {ob : ρ → List D} {R : List D → List Str × List D → Prop} (h2 : EvA K tk env es) (hr : m.ok → R es (ns, ob m.val)) : XE K (tMakeK C 0 es.length (spI K C R) (fun vs zs => vs ++ zs) E tNil tk) env m (fun v => .ins C ns (ob v)) := fun ok =>
  xe_makeN (ds := []) (es := es) (E := E) ea_nil h2 (R := R) (fun ok => hr ok) ok
end
/-! ### the comparison -/
def RAtom (n : Nat) (ds : List D) (o : O) : Prop := ∃ p : PD, (match p with | .t _ => False | .l _ => False | _ => True) ∧ DOk (ePD p) ∧ ds = [ePD p, ePD p] ∧ o = .fr (.bl true)
section
variable {P : Program} {w : World} {K : PySem.W.Frag} {mg : Str → Option Value} {base : Heap} {k : Nat} {f : Addr} {fd : FuncData}
theorem ratom_zero (ds : List D) (o : O) (h : RSame 0 ds o) : RAtom 0 ds o := by
  obtain ⟨p, h1, h0, h2, h3⟩ := h
  refine ⟨p, ?_, h0, h2, h3⟩
  cases p <;> first | trivial | (rw [PD.dp] at h1; exact absurd h1 (Nat.not_succ_le_zero _))
theorem rsame_d {m : Nat} (ds : List D) (o : O) (h : R2 (mSameD m) ePD ePD (oF D.bl) ds o) : RSame m ds o := by
  obtain ⟨a, b, rfl, ⟨e, h, hd⟩, rfl⟩ := h
  subst e
  exact ⟨a, h, hd, rfl, rfl⟩
abbrev isT (m : G Bool) : Prop := H m (· = true)
theorem fnok_atom {m : Nat} {mn : Unit → Unit → G Bool} {mb : Bool → Bool → G Bool} {mi : Int → Int → G Bool} {mx : List Nat → List Nat → G Bool}
    (Fn : FnOk P w K mg base CX0 k f fd ["actual", "expected"] (spX K (R2 mn eU0 eU0 (oF D.bl)))) (Fb : FnOk P w K mg base CX0 k f fd ["actual", "expected"] (spX K (R2 mb D.bl D.bl (oF D.bl))))
    (Fi : FnOk P w K mg base CX0 k f fd ["actual", "expected"] (spX K (R2 mi D.int D.int (oF D.bl)))) (Fx : FnOk P w K mg base CX0 k f fd ["actual", "expected"] (spX K (R2 mx stx stx (oF D.bl))))
    (hn : ∀ a, isT (mn a a)) (hb : ∀ a, isT (mb a a)) (hi : ∀ a, isT (mi a a)) (hx : ∀ a, isT (mx a a)) : FnOk P w K mg base CX0 k f fd ["actual", "expected"] (spX K (RAtom m)) := by
  refine fnok_ex (ι := Fin 4) (R := fun i => match i with | 0 => R2 mn eU0 eU0 (oF D.bl) | 1 => R2 mb D.bl D.bl (oF D.bl) | 2 => R2 mi D.int D.int (oF D.bl) | 3 => R2 mx stx stx (oF D.bl)) 0 (fun i => ?_) fun ds q h => ?_
  · match i with
    | 0 => exact Fn
    | 1 => exact Fb
    | 2 => exact Fi
    | 3 => exact Fx
  · obtain ⟨p, hp, hd, rfl, rfl⟩ := h
    cases p with
    | n => exact ⟨0, (), (), by rw [ePD], (hn ()).ok, by rw [(hn ()).val]⟩
    | b v => exact ⟨1, v, v, by rw [ePD], (hb v).ok, by rw [(hb v).val]⟩
    | i v => exact ⟨2, v, v, by rw [ePD], (hi v).ok, by rw [(hi v).val]⟩
    | x v => exact ⟨3, v, v, by rw [ePD], (hx v).ok, by rw [(hx v).val]⟩
    | t xs => exact hp.elim
    | l xs => exact hp.elim
theorem fnok_seq {m : Nat} {mu ml : List PD → List PD → G Bool} (A : FnOk P w K mg base CX0 k f fd ["actual", "expected"] (spX K (RAtom (m + 1))))
    (U : FnOk P w K mg base CX0 k f fd ["actual", "expected"] (spX K (R2 mu (eU ePD) (eU ePD) (oF D.bl)))) (L : FnOk P w K mg base CX0 k f fd ["actual", "expected"] (spX K (R2 ml (eL ePD) (eL ePD) (oF D.bl))))
    (hu : ∀ xs, PD.dps xs ≤ m → xs.length < 2 ^ 62 → (∀ x ∈ xs, DOk (ePD x)) → isT (mu xs xs)) (hl : ∀ xs, PD.dps xs ≤ m → xs.length < 2 ^ 62 → (∀ x ∈ xs, DOk (ePD x)) → isT (ml xs xs)) : FnOk P w K mg base CX0 k f fd ["actual", "expected"] (spX K (RSame (m + 1))) := by
  refine fnok_ex (ι := Fin 3) (R := fun i => match i with | 0 => RAtom (m + 1) | 1 => R2 mu (eU ePD) (eU ePD) (oF D.bl) | 2 => R2 ml (eL ePD) (eL ePD) (oF D.bl)) 0 (fun i => ?_) fun ds q h => ?_
  · match i with
    | 0 => exact A
    | 1 => exact U
    | 2 => exact L
  · obtain ⟨p, hp, hd, rfl, rfl⟩ := h
    cases p with
    | t xs =>
      rw [PD.dp] at hp
      rw [ePD_t] at hd
      obtain ⟨d1, d2⟩ := dok_u.1 hd
      obtain ⟨h1, h2⟩ := hu xs (Nat.le_of_succ_le_succ hp) d1 d2
      exact ⟨1, xs, xs, by rw [ePD_t], h1, by rw [h2]⟩
    | l xs =>
      rw [PD.dp] at hp
      rw [ePD_l] at hd
      obtain ⟨d1, d2⟩ := dok_l.1 hd
      obtain ⟨h1, h2⟩ := hl xs (Nat.le_of_succ_le_succ hp) d1 d2
      exact ⟨2, xs, xs, by rw [ePD_l], h1, by rw [h2]⟩
    | n => exact ⟨0, .n, trivial, hd, rfl, rfl⟩
    | b v => exact ⟨0, .b v, trivial, hd, rfl, rfl⟩
    | i v => exact ⟨0, .i v, trivial, hd, rfl, rfl⟩
    | x v => exact ⟨0, .x v, trivial, hd, rfl, rfl⟩
end
theorem same_body {m : Nat} {xs : List PD} (h : PD.dps xs ≤ m) (hz : xs.length < 2 ^ 62) (hd : ∀ x ∈ xs, DOk (ePD x)) :
    isT (.a (InI (xs.length : Int)) (.on (.loop (ρ := Bool) (rangeZ 0 (xs.length : Int)) () (fun x s => (.a (InR xs.length x) (.a (InR xs.length x) (.b (mSameD m (ix xs x) (ix xs x)) fun a => (.ite (!a) (.p (.rt (false))) (.p (.ct ())))))))) (fun r => r) (fun s => (.p (true))))) := by
  refine H.a ?_ (H.on (H.loop (fun _ _ => True) trivial (fun i x s hx _ => ?_) fun s _ => H.p rfl))
  · unfold InI; constructor <;> omega
  · have hx := List.mem_of_getElem? hx
    obtain ⟨j, hj, rfl⟩ : ∃ j : Nat, j < xs.length ∧ x = (j : Int) := by
      unfold rangeZ at hx
      obtain ⟨j, hj, rfl⟩ := List.mem_map.1 hx
      exact ⟨j, by have := List.mem_range.1 hj; omega, by omega⟩
    have r : InR xs.length (j : Int) := by unfold InR; omega
    have hm : ix xs (j : Int) ∈ xs := by rw [ix_get hj]; exact List.getElem_mem hj
    refine H.a r (H.a r (H.b ⟨⟨rfl, PD.dps_le.1 h _ hm, hd _ hm⟩, ?_⟩))
    exact H.ite (fun z => by cases z) fun _ => H.p trivial
theorem same_atom {v : Bool} (h : v = true) : isT (.p v) := H.p h
end Y

namespace K01
open PySem PySem.Spec PyProof.Rows L2 Y
def top (i : Nat) : Stmt := PySem.Challenge.pw_playhall_k01_shift_operators.main.body.getD i (.Pass ⟨0, 0, 0, 0⟩)
structure Txt (mg : Str → Option Value) : Prop where
  n_any : mg "any" = none
  n_bool : mg "bool" = none
  n_int : mg "int" = none
  n_isinstance : mg "isinstance" = none
  n_len : mg "len" = none
  n_list : mg "list" = none
  n_max : mg "max" = none
  n_min : mg "min" = none
  n_range : mg "range" = none
  n_sorted : mg "sorted" = none
  n_str : mg "str" = none
  n_tuple : mg "tuple" = none
structure C_Shift where
  f_rows : (List ((List Nat) × Int × Int × Int))
deriving DecidableEq, Inhabited
abbrev ns_Shift : List Str := ["rows"]
abbrev ob_Shift (A_Shift : Addr) : C_Shift → List D := fun v => [(eU (eT4 stx D.int D.int D.int)) v.f_rows]
abbrev e_Shift (A_Shift : Addr) : C_Shift → D := fun v => .ins A_Shift ns_Shift (ob_Shift A_Shift v)
structure ClT (P : Program) (w : World) (K : PySem.W.Frag) (mg : Str → Option Value) (base : Heap) (A_Shift : Addr) : Prop where
  g_Shift : mg "Shift" = some (.ref A_Shift)
  cls_Shift : Cls K A_Shift
  na_Shift_rows : NoAttr K A_Shift "rows"
  own_Shift : OwnC K A_Shift

def m_Shift_init_l (rows_2 : (List ((List Nat) × Int × Int × Int))) : G C_Shift := (.b (.mapG rows_2 (fun x_3 => (.p x_3))) fun a_4 => (.b (.p (sortS (scX (scI (scI scI1))) a_4)) fun rows_6 => .p ⟨rows_6⟩))

def m_Shift_init_u (rows_8 : (List ((List Nat) × Int × Int × Int))) : G C_Shift := (.b (.mapG rows_8 (fun x_9 => (.p x_9))) fun a_10 => (.b (.p (sortS (scX (scI (scI scI1))) a_10)) fun rows_12 => .p ⟨rows_12⟩))

def m_Shift_never (self_13 : C_Shift) : G Bool := (.b (.mapG self_13.f_rows (fun x_14 => (.p (decide (x_14.2.2.1 < x_14.2.1))))) fun a_15 => (.p ((a_15.any id))))

def m__joined_row (first_16 : ((List Nat) × Int × Int × Int)) (second_17 : ((List Nat) × Int × Int × Int)) : G ((List Nat) × Int × Int × Int) := (.lt first_16 fun q_18 => (.lt second_17 fun q_19 => (.p ((q_18.1, (max q_18.2.1 (q_19.2.1 - q_18.2.2.2)), (min q_18.2.2.1 (q_19.2.2.1 - q_18.2.2.2)), (q_18.2.2.2 + q_19.2.2.2))))))

def m__rows_in_turn (first_20 : (List ((List Nat) × Int × Int × Int))) (second_21 : (List ((List Nat) × Int × Int × Int))) : G (List ((List Nat) × Int × Int × Int)) := (.b (.dcomp first_20 (fun x_22 => .p true) (fun x_22 => (.p x_22.1)) (fun x_22 => (.p x_22))) fun a_23 => (.lt a_23 fun rows_24 => (.b (.dcomp second_21 (fun x_25 => .p true) (fun x_25 => (.p x_25.1)) (fun x_25 => (.p x_25))) fun a_26 => (.lt a_26 fun later_27 => (.b (.comp (later_27.map (·.1)) (fun x_28 => (.p (!dhas rows_24 x_28))) (fun x_28 => (.a ((dget later_27 x_28).isSome = true) (.p ((dget later_27 x_28).getD default))))) fun a_30 => (.lt a_30 fun alone_31 => (.b (.mapG (rows_24.map (·.1)) (fun x_32 => (.b (.ite (dhas later_27 x_32) (.a ((dget rows_24 x_32).isSome = true) (.a ((dget later_27 x_32).isSome = true) (.b (m__joined_row ((dget rows_24 x_32).getD default) ((dget later_27 x_32).getD default)) fun a_35 => (.p a_35)))) (.a ((dget rows_24 x_32).isSome = true) (.p ((dget rows_24 x_32).getD default)))) fun a_37 => (.p a_37)))) fun a_38 => (.lt a_38 fun joined_39 => (.a (joined_39.length + alone_31.length ≤ 100000) (.p ((joined_39 ++ alone_31))))))))))))

def m__repeated_row (row_41 : ((List Nat) × Int × Int × Int)) (times_42 : Int) : G ((List Nat) × Int × Int × Int) := (.lt row_41 fun q_43 => (.a (CMulW (times_42 - (1 : Int)) q_43.2.2.2) (.lt ((times_42 - (1 : Int)) * q_43.2.2.2) fun before_last_45 => (.a (CMulW times_42 q_43.2.2.2) (.p ((q_43.1, (q_43.2.1 - (min (0 : Int) before_last_45)), (q_43.2.2.1 - (max (0 : Int) before_last_45)), (times_42 * q_43.2.2.2))))))))

def m_Shift_add_ (self_47 : C_Shift) (other_48 : C_Shift) : G C_Shift := (.ite (!true) ⟨False, default⟩ (.b (m__rows_in_turn self_47.f_rows other_48.f_rows) fun a_49 => (.b (m_Shift_init_l a_49) fun a_50 => (.p (a_50)))))

def m_Shift_invert_ (self_51 : C_Shift) : G C_Shift := (.b (.mapG self_51.f_rows (fun x_52 => (.p (x_52.1, (x_52.2.1 + x_52.2.2.2), (x_52.2.2.1 + x_52.2.2.2), (-x_52.2.2.2))))) fun a_53 => (.b (m_Shift_init_l a_53) fun a_54 => (.p (a_54))))

def m_Shift_mul_ (self_55 : C_Shift) (other_56 : Int) : G C_Shift := (.ite (!true) ⟨False, default⟩ (.ite (decide (other_56 = (0 : Int))) (.b (m_Shift_init_l ([] : (List ((List Nat) × Int × Int × Int)))) fun a_57 => (.p (a_57))) (.b (.mapG self_55.f_rows (fun x_58 => (.b (m__repeated_row x_58 other_56) fun a_59 => (.p a_59)))) fun a_60 => (.b (m_Shift_init_l a_60) fun a_61 => (.p (a_61))))))

def m_Shift_eq__c (self_62 : C_Shift) (other_63 : C_Shift) : G Bool := (.p ((true && (decide (self_62.f_rows = other_63.f_rows)))))

def m_Shift_eq__p (self_64 : C_Shift) (other_65 : PD) : G Bool := (.p ((false && false)))

def m__law_cell (script_66 : (List Int)) (k_67 : Int) : G Int := (.b (.ite (decide (k_67 < (script_66.length : Int))) (.a (InR script_66.length k_67) (.p (ix script_66 k_67))) (.p (0 : Int))) fun a_69 => (.p (a_69)))

def m__law_row (cell_70 : Int) (many_71 : Int) : G (List Int) := (.lt ([] : (List Int)) fun row_72 => (.lt (cell_70 % (2147483629 : Int)) fun seed_73 => (.lt (cell_70 - ((10 : Int) ^ 18)) fun rest_75 => (.a (InI many_71) (.b (.fold (rangeZ 0 many_71) (row_72, seed_73, rest_75) (fun x_78 s_77 => (.lt ((((s_77.2.1 * (48271 : Int)) + ((977 : Int) * x_78)) + (12345 : Int)) % (2147483647 : Int)) fun seed_79 => (.lt ((((seed_79 * (69621 : Int)) + ((31 : Int) * x_78)) + (7 : Int)) % (2147483629 : Int)) fun mixed_80 => (.b ⟨s_77.1.length ≤ 100000, s_77.1 ++ [(if (decide (((10 : Int) ^ 18) ≤ cell_70)) = true then (s_77.2.2 % (1000 : Int)) else ((mixed_80 / (4099 : Int)) % (1000 : Int)))]⟩ fun row_82 => (.b (.p (s_77.2.2 / (1000 : Int))) fun rest_83 => .p (row_82, seed_79, rest_83))))))) fun s_84 => (.p (s_84.1)))))))

def m__law_word (number_85 : Int) : G (List Nat) := (.lt (number_85 + (1 : Int)) fun rest_86 => (.lt ([] : List Nat) fun word_87 => (.a (InI (12 : Int)) (.b (.fold (rangeZ 0 (12 : Int)) (rest_86, word_87) (fun x_90 s_89 => (.b (.ite (decide ((0 : Int) < s_89.1)) (.a (InR (([97, 98, 99, 100, 101, 102, 103, 104, 105, 106, 107, 108, 109, 110, 111, 112, 113, 114, 115, 116, 117, 118, 119, 120, 121, 122] : List Nat) : List Nat).length ((s_89.1 - (1 : Int)) % (26 : Int)) ∧ (([97, 98, 99, 100, 101, 102, 103, 104, 105, 106, 107, 108, 109, 110, 111, 112, 113, 114, 115, 116, 117, 118, 119, 120, 121, 122] : List Nat) : List Nat).length ≤ 100000) (.p [ix ([97, 98, 99, 100, 101, 102, 103, 104, 105, 106, 107, 108, 109, 110, 111, 112, 113, 114, 115, 116, 117, 118, 119, 120, 121, 122] : List Nat) ((s_89.1 - (1 : Int)) % (26 : Int))])) (.p ([] : List Nat))) fun a_92 => (.a ((a_92 : List Nat).length + (s_89.2 : List Nat).length ≤ 100000) (.lt (a_92 ++ s_89.2) fun word_94 => (.b (.p ((s_89.1 - (1 : Int)) / (26 : Int))) fun rest_95 => .p (rest_95, word_94))))))) fun s_96 => (.p (s_96.2))))))

def m__law_number (numbers_97 : (List Int)) (most_98 : Int) : G Int := (.a (InR numbers_97.length (0 : Int)) (.lt ((1 : Int) - ((2 : Int) * (((ix numbers_97 (0 : Int)) / (4 : Int)) % (2 : Int)))) fun sign_100 => (.a (InR numbers_97.length (0 : Int)) (.lt ((ix numbers_97 (0 : Int)) % (4 : Int)) fun kind_102 => (.ite ((decide (most_98 = (0 : Int))) || (decide (kind_102 = (0 : Int)))) (.a (InR numbers_97.length (1 : Int)) (.p ((((ix numbers_97 (1 : Int)) % (11 : Int)) - (5 : Int))))) (.ite (decide (kind_102 = (1 : Int))) (.a (InR numbers_97.length (1 : Int)) (.a (CMulW sign_100 (ix numbers_97 (1 : Int))) (.p ((sign_100 * (ix numbers_97 (1 : Int))))))) (.lt (0 : Int) fun value_106 => (.a (InI (13 : Int)) (.b (.fold (rangeZ 0 (13 : Int)) value_106 (fun x_109 s_108 => (.a (InR numbers_97.length ((1 : Int) + x_109)) (.b (.p ((s_108 * (1000 : Int)) + (ix numbers_97 ((1 : Int) + x_109)))) fun value_111 => .p value_111)))) fun s_112 => (.b (.ite ((decide (most_98 = (1 : Int))) || (decide (kind_102 = (2 : Int)))) (.a (0 < ((10 : Int) ^ 18)) (.b (.p (s_112 % ((10 : Int) ^ 18))) fun value_115 => .p value_115)) (.p s_112)) fun s_116 => (.a (CMulW sign_100 s_116) (.p ((sign_100 * s_116))))))))))))))

def m__law_count (numbers_118 : (List Int)) : G Int := (.a (InR numbers_118.length (0 : Int)) (.lt ((ix numbers_118 (0 : Int)) % (3 : Int)) fun kind_120 => (.ite (decide (kind_120 = (0 : Int))) (.a (InR numbers_118.length (1 : Int)) (.p (((ix numbers_118 (1 : Int)) % (5 : Int))))) (.ite (decide (kind_120 = (1 : Int))) (.a (InR numbers_118.length (1 : Int)) (.p ((ix numbers_118 (1 : Int))))) (.lt (0 : Int) fun value_123 => (.a (InI (7 : Int)) (.b (.fold (rangeZ 0 (7 : Int)) value_123 (fun x_126 s_125 => (.a (InR numbers_118.length ((1 : Int) + x_126)) (.b (.p ((s_125 * (1000 : Int)) + (ix numbers_118 ((1 : Int) + x_126)))) fun value_128 => .p value_128)))) fun s_129 => (.a (0 < (((10 : Int) ^ 20) + (1 : Int))) (.p ((s_129 % (((10 : Int) ^ 20) + (1 : Int)))))))))))))

def m__law_pool (row_132 : (List Int)) : G (List (List Nat)) := (.a (InR row_132.length (0 : Int)) (.a (InR row_132.length (1 : Int)) (.b (m__law_word ((ix row_132 (0 : Int)) + ((1000 : Int) * ((ix row_132 (1 : Int)) % (30 : Int))))) fun a_135 => (.lt a_135 fun first_136 => (.a (InR row_132.length (2 : Int)) (.b (m__law_word (ix row_132 (2 : Int))) fun a_138 => (.lt a_138 fun second_139 => (.a (InR row_132.length (3 : Int)) (.b (.ite (decide (((ix row_132 (3 : Int)) % (3 : Int)) = (1 : Int))) (.a ((second_139 : List Nat).length + (([107, 108, 109, 110, 111, 112, 113, 114, 115, 116, 117, 118] : List Nat) : List Nat).length ≤ 100000) (.a (((second_139 ++ ([107, 108, 109, 110, 111, 112, 113, 114, 115, 116, 117, 118] : List Nat)) : List Nat).length ≤ 100000) (.b (.p (cutD (second_139 ++ ([107, 108, 109, 110, 111, 112, 113, 114, 115, 116, 117, 118] : List Nat)) none (some (12 : Int)))) fun second_144 => .p second_144))) (.p second_139)) fun s_145 => (.lt ([] : (List (List Nat))) fun pool_146 => (.a ((first_136 : List Nat).length + (([46] : List Nat) : List Nat).length ≤ 100000) (.a (((first_136 ++ ([46] : List Nat)) : List Nat).length + (s_145 : List Nat).length ≤ 100000) (.a ((s_145 : List Nat).length + (([46] : List Nat) : List Nat).length ≤ 100000) (.a (((s_145 ++ ([46] : List Nat)) : List Nat).length + (first_136 : List Nat).length ≤ 100000) (.a ((first_136 : List Nat).length + (([97] : List Nat) : List Nat).length ≤ 100000) (.b (.fold [first_136, ((first_136 ++ ([46] : List Nat)) ++ s_145), s_145, ((s_145 ++ ([46] : List Nat)) ++ first_136), (first_136 ++ ([97] : List Nat))] pool_146 (fun x_153 s_152 => (.b (.ite (!decide (x_153 ∈ (s_152 : (List (List Nat))))) (.b ⟨s_152.length ≤ 100000, s_152 ++ [x_153]⟩ fun pool_154 => .p pool_154) (.p s_152)) fun s_155 => .p s_155))) fun s_156 => (.a (InR row_132.length (3 : Int)) (.b (.ite (decide ((((ix row_132 (3 : Int)) / (3 : Int)) % (4 : Int)) = (1 : Int))) (.a (InI (60 : Int)) (.b (.fold (rangeZ 0 (60 : Int)) s_156 (fun x_161 s_160 => (.a (InR row_132.length (0 : Int)) (.b (m__law_word ((ix row_132 (0 : Int)) + ((19 : Int) * x_161))) fun a_163 => (.lt a_163 fun label_164 => (.b (.ite ((!decide (label_164 ∈ (s_160 : (List (List Nat))))) && (decide ((s_160.length : Int) < (59 : Int)))) (.b ⟨s_160.length ≤ 100000, s_160 ++ [label_164]⟩ fun pool_165 => .p pool_165) (.p s_160)) fun s_166 => .p s_166)))))) fun s_167 => .p s_167)) (.p s_156)) fun s_168 => (.p (s_168))))))))))))))))))))

def m__law_rows (row_169 : (List Int)) (pool_170 : (List (List Nat))) (most_171 : Int) : G (List ((List Nat) × Int × Int × Int)) := (.lt ([] : (List ((List Nat) × Int × Int × Int))) fun own_rows_172 => (.a (InR row_169.length (0 : Int)) (.b (.ite (decide (((ix row_169 (0 : Int)) % (3 : Int)) = (0 : Int))) (.b (.p (0 : Int)) fun most_175 => .p most_175) (.p most_171)) fun s_176 => (.a (InI (pool_170.length : Int)) (.b (.mapG (rangeZ 0 (pool_170.length : Int)) (fun x_178 => (.a (InR row_169.length ((1 : Int) + x_178)) (.p (((ix row_169 ((1 : Int) + x_178)) / (3 : Int)), x_178))))) fun a_180 => (.b (.fold (sortS (scI scI1) a_180) own_rows_172 (fun x_183 s_182 => (.lt x_183.2 fun k_184 => (.lt ((6 : Int) + ((42 : Int) * (k_184 % (5 : Int)))) fun at_185 => (.a (InR row_169.length ((1 : Int) + k_184)) (.b (.ite (decide ((0 : Int) < ((ix row_169 ((1 : Int) + k_184)) % (3 : Int)))) (.b (m__law_number (cutD row_169 (some at_185) (some (at_185 + (14 : Int)))) s_176) fun a_187 => (.lt (a_187 + (k_184 / (5 : Int))) fun low_188 => (.b (m__law_number (cutD row_169 (some (at_185 + (14 : Int))) (some (at_185 + (28 : Int)))) s_176) fun a_189 => (.lt (a_189 + (k_184 / (5 : Int))) fun high_190 => (.b (m__law_number (cutD row_169 (some (at_185 + (28 : Int))) (some (at_185 + (42 : Int)))) s_176) fun a_191 => (.lt a_191 fun amount_192 => (.a (InR row_169.length (0 : Int)) (.b (.ite (decide ((((ix row_169 (0 : Int)) / (3 : Int)) % (2 : Int)) = (0 : Int))) (.a (InR pool_170.length k_184) (.b ⟨s_182.length ≤ 100000, s_182 ++ [((ix pool_170 k_184), (min low_188 high_190), (max low_188 high_190), amount_192)]⟩ fun own_rows_196 => .p own_rows_196)) (.a (InR pool_170.length k_184) (.b ⟨s_182.length ≤ 100000, s_182 ++ [((ix pool_170 k_184), low_188, high_190, amount_192)]⟩ fun own_rows_198 => .p own_rows_198))) fun s_199 => .p s_199)))))))) (.p s_182)) fun s_200 => .p s_200)))))) fun s_201 => (.p (s_201))))))))

def m__law_plus (first_202 : (List ((List Nat) × Int × Int × Int))) (second_203 : (List ((List Nat) × Int × Int × Int))) : G (List ((List Nat) × Int × Int × Int)) := (.lt ([] : (List ((List Nat) × Int × Int × Int))) fun result_204 => (.b (.fold first_202 result_204 (fun x_206 s_205 => (.b (.comp second_203 (fun x_207 => (.p (decide (x_207.1 = x_206.1)))) (fun x_207 => (.p x_207))) fun a_208 => (.lt a_208 fun behind_209 => (.b (.ite (decide ((behind_209.length : Int) = (0 : Int))) (.b ⟨s_205.length ≤ 100000, s_205 ++ [(x_206.1, x_206.2.1, x_206.2.2.1, x_206.2.2.2)]⟩ fun result_210 => .p result_210) (.a (InR behind_209.length (0 : Int)) (.lt (max x_206.2.1 ((ix behind_209 (0 : Int)).2.1 - x_206.2.2.2)) fun least_212 => (.a (InR behind_209.length (0 : Int)) (.lt (min x_206.2.2.1 ((ix behind_209 (0 : Int)).2.2.1 - x_206.2.2.2)) fun most_214 => (.a (InR behind_209.length (0 : Int)) (.b ⟨s_205.length ≤ 100000, s_205 ++ [(x_206.1, least_212, most_214, (x_206.2.2.2 + (ix behind_209 (0 : Int)).2.2.2))]⟩ fun result_216 => .p result_216))))))) fun s_217 => .p s_217))))) fun s_218 => (.b (.mapG first_202 (fun x_219 => (.p x_219.1))) fun a_220 => (.lt a_220 fun known_221 => (.b (.comp second_203 (fun x_222 => (.p (!decide (x_222.1 ∈ (known_221 : (List (List Nat))))))) (fun x_222 => (.p x_222))) fun a_223 => (.a (s_218.length + a_223.length ≤ 100000) (.p ((s_218 ++ a_223)))))))))

def m__law_times (own_rows_225 : (List ((List Nat) × Int × Int × Int))) (times_226 : Int) : G (List ((List Nat) × Int × Int × Int)) := (.ite (decide (times_226 = (0 : Int))) (.p (([] : (List ((List Nat) × Int × Int × Int))))) (.lt ([] : (List ((List Nat) × Int × Int × Int))) fun result_227 => (.b (.fold own_rows_225 result_227 (fun x_229 s_228 => (.a (CMulW (times_226 - (1 : Int)) x_229.2.2.2) (.lt ((times_226 - (1 : Int)) * x_229.2.2.2) fun rest_231 => (.a (CMulW times_226 x_229.2.2.2) (.b ⟨s_228.length ≤ 100000, s_228 ++ [(x_229.1, (x_229.2.1 - (min (0 : Int) rest_231)), (x_229.2.2.1 - (max (0 : Int) rest_231)), (times_226 * x_229.2.2.2))]⟩ fun result_233 => .p result_233)))))) fun s_234 => (.p (s_234)))))

def m__law_back (own_rows_235 : (List ((List Nat) × Int × Int × Int))) : G (List ((List Nat) × Int × Int × Int)) := (.b (.mapG own_rows_235 (fun x_236 => (.p (x_236.1, (x_236.2.1 + x_236.2.2.2), (x_236.2.2.1 + x_236.2.2.2), ((0 : Int) - x_236.2.2.2))))) fun a_237 => (.p (a_237)))

def m__law_near (own_rows_238 : (List ((List Nat) × Int × Int × Int))) : G (List (List ((List Nat) × Int × Int × Int))) := (.a (own_rows_238.length + [(([122, 122, 122, 122, 122, 122, 122, 122, 122, 122, 122, 122] : List Nat), (0 : Int), (0 : Int), (0 : Int))].length ≤ 100000) (.lt [(own_rows_238 ++ [(([122, 122, 122, 122, 122, 122, 122, 122, 122, 122, 122, 122] : List Nat), (0 : Int), (0 : Int), (0 : Int))])] fun result_240 => (.a (InI (own_rows_238.length : Int)) (.b (.comp (rangeZ 0 (own_rows_238.length : Int)) (fun x_242 => (.p ((decide (x_242 < (5 : Int))) || (decide (x_242 = ((own_rows_238.length : Int) - (1 : Int))))))) (fun x_242 => (.p x_242))) fun a_243 => (.b (.fold a_243 result_240 (fun x_245 s_244 => (.a (InR own_rows_238.length x_245) (.lt (ix own_rows_238 x_245) fun q_246 => (.a ((cutD own_rows_238 none (some x_245)).length + (cutD own_rows_238 (some (x_245 + (1 : Int))) none).length ≤ 100000) (.b ⟨s_244.length ≤ 100000, s_244 ++ [((cutD own_rows_238 none (some x_245)) ++ (cutD own_rows_238 (some (x_245 + (1 : Int))) none))]⟩ fun result_249 => (.a ((cutD own_rows_238 none (some x_245)).length + [(([122, 122, 122, 122, 122, 122, 122, 122, 122, 122, 122, 122] : List Nat), q_246.2.1, q_246.2.2.1, q_246.2.2.2)].length ≤ 100000) (.a (((cutD own_rows_238 none (some x_245)) ++ [(([122, 122, 122, 122, 122, 122, 122, 122, 122, 122, 122, 122] : List Nat), q_246.2.1, q_246.2.2.1, q_246.2.2.2)]).length + (cutD own_rows_238 (some (x_245 + (1 : Int))) none).length ≤ 100000) (.b ⟨result_249.length ≤ 100000, result_249 ++ [(((cutD own_rows_238 none (some x_245)) ++ [(([122, 122, 122, 122, 122, 122, 122, 122, 122, 122, 122, 122] : List Nat), q_246.2.1, q_246.2.2.1, q_246.2.2.2)]) ++ (cutD own_rows_238 (some (x_245 + (1 : Int))) none))]⟩ fun result_252 => (.a ((cutD own_rows_238 none (some x_245)).length + [(q_246.1, (q_246.2.1 + (1 : Int)), q_246.2.2.1, q_246.2.2.2)].length ≤ 100000) (.a (((cutD own_rows_238 none (some x_245)) ++ [(q_246.1, (q_246.2.1 + (1 : Int)), q_246.2.2.1, q_246.2.2.2)]).length + (cutD own_rows_238 (some (x_245 + (1 : Int))) none).length ≤ 100000) (.b ⟨result_252.length ≤ 100000, result_252 ++ [(((cutD own_rows_238 none (some x_245)) ++ [(q_246.1, (q_246.2.1 + (1 : Int)), q_246.2.2.1, q_246.2.2.2)]) ++ (cutD own_rows_238 (some (x_245 + (1 : Int))) none))]⟩ fun result_255 => (.a ((cutD own_rows_238 none (some x_245)).length + [(q_246.1, q_246.2.1, (q_246.2.2.1 + (1 : Int)), q_246.2.2.2)].length ≤ 100000) (.a (((cutD own_rows_238 none (some x_245)) ++ [(q_246.1, q_246.2.1, (q_246.2.2.1 + (1 : Int)), q_246.2.2.2)]).length + (cutD own_rows_238 (some (x_245 + (1 : Int))) none).length ≤ 100000) (.b ⟨result_255.length ≤ 100000, result_255 ++ [(((cutD own_rows_238 none (some x_245)) ++ [(q_246.1, q_246.2.1, (q_246.2.2.1 + (1 : Int)), q_246.2.2.2)]) ++ (cutD own_rows_238 (some (x_245 + (1 : Int))) none))]⟩ fun result_258 => (.a ((cutD own_rows_238 none (some x_245)).length + [(q_246.1, q_246.2.1, q_246.2.2.1, (q_246.2.2.2 + (1 : Int)))].length ≤ 100000) (.a (((cutD own_rows_238 none (some x_245)) ++ [(q_246.1, q_246.2.1, q_246.2.2.1, (q_246.2.2.2 + (1 : Int)))]).length + (cutD own_rows_238 (some (x_245 + (1 : Int))) none).length ≤ 100000) (.b ⟨result_258.length ≤ 100000, result_258 ++ [(((cutD own_rows_238 none (some x_245)) ++ [(q_246.1, q_246.2.1, q_246.2.2.1, (q_246.2.2.2 + (1 : Int)))]) ++ (cutD own_rows_238 (some (x_245 + (1 : Int))) none))]⟩ fun result_261 => .p result_261)))))))))))))))))) fun s_262 => (.p (s_262)))))))

def m__law_same_n (actual_263 : Unit) (expected_264 : Unit) : G Bool := (.ite true (.p (true)) ⟨False, default⟩)

def m__law_same_b (actual_265 : Bool) (expected_266 : Bool) : G Bool := (.ite false ⟨False, default⟩ (.ite true (.p ((true && (decide (actual_265 = expected_266))))) ⟨False, default⟩))

def m__law_same_i (actual_267 : Int) (expected_268 : Int) : G Bool := (.ite false ⟨False, default⟩ (.ite false ⟨False, default⟩ (.ite true (.p ((true && ((!false) && (decide (actual_267 = expected_268)))))) ⟨False, default⟩)))

def m__law_same_x (actual_269 : (List Nat)) (expected_270 : (List Nat)) : G Bool := (.ite false ⟨False, default⟩ (.ite false ⟨False, default⟩ (.ite false ⟨False, default⟩ (.ite true (.p ((true && (decide (actual_269 = expected_270))))) ⟨False, default⟩))))

def m__law_same_u (m : Nat) (actual_271 : (List PD)) (expected_272 : (List PD)) : G Bool := (.ite false ⟨False, default⟩ (.ite false ⟨False, default⟩ (.ite false ⟨False, default⟩ (.ite false ⟨False, default⟩ (.ite (true && (!true)) ⟨False, default⟩ (.ite ((false && (!false)) || (!decide ((actual_271.length : Int) = (expected_272.length : Int)))) (.p (false)) (.a (InI (expected_272.length : Int)) (.on (.loop (ρ := Bool) (rangeZ 0 (expected_272.length : Int)) () (fun x_275 s_274 => (.a (InR actual_271.length x_275) (.a (InR expected_272.length x_275) (.b (mSameD m (ix actual_271 x_275) (ix expected_272 x_275)) fun a_278 => (.ite (!a_278) (.p (.rt (false))) (.p (.ct ())))))))) (fun r_280 => r_280) (fun s_279 => (.p (true)))))))))))

def m__law_same_l (m : Nat) (actual_281 : (List PD)) (expected_282 : (List PD)) : G Bool := (.ite false ⟨False, default⟩ (.ite false ⟨False, default⟩ (.ite false ⟨False, default⟩ (.ite false ⟨False, default⟩ (.ite (false && (!false)) ⟨False, default⟩ (.ite ((true && (!true)) || (!decide ((actual_281.length : Int) = (expected_282.length : Int)))) (.p (false)) (.a (InI (expected_282.length : Int)) (.on (.loop (ρ := Bool) (rangeZ 0 (expected_282.length : Int)) () (fun x_285 s_284 => (.a (InR actual_281.length x_285) (.a (InR expected_282.length x_285) (.b (mSameD m (ix actual_281 x_285) (ix expected_282 x_285)) fun a_288 => (.ite (!a_288) (.p (.rt (false))) (.p (.ct ())))))))) (fun r_290 => r_290) (fun s_289 => (.p (true)))))))))))

def m__law_shown (shift_291 : C_Shift) (own_rows_292 : (List ((List Nat) × Int × Int × Int))) : G Bool := (.b (.ite (!true) (.p true) (.b (mSame (eU (eT4 stx D.int D.int D.int)) shift_291.f_rows (sortS (scX (scI (scI scI1))) own_rows_292)) fun a_294 => (.p (!a_294)))) fun a_295 => (.ite a_295 (.p (false)) (.b (m_Shift_never shift_291) fun a_296 => (.b (.comp own_rows_292 (fun x_297 => (.p (decide (x_297.2.2.1 < x_297.2.1)))) (fun x_297 => (.p x_297))) fun a_298 => (.b (mSame D.bl a_296 (decide ((0 : Int) < (a_298.length : Int)))) fun a_299 => (.p (a_299)))))))

def m__law_compared (shift_300 : C_Shift) (own_rows_301 : (List ((List Nat) × Int × Int × Int))) : G Bool := (.b (m_Shift_init_l own_rows_301.reverse) fun a_302 => (.b (m_Shift_eq__c shift_300 a_302) fun a_303 => (.b (mSame D.bl a_303 true) fun a_304 => (.b (.ite (!a_304) (.p true) (.b (m_Shift_eq__c shift_300 shift_300) fun a_305 => (.b (mSame D.bl a_305 true) fun a_306 => (.p (!a_306))))) fun a_307 => (.ite a_307 (.p (false)) (.b (m__law_near own_rows_301) fun a_308 => (.on (.loop (ρ := Bool) a_308 () (fun x_310 s_309 => (.b (m_Shift_init_l x_310) fun a_311 => (.b (m_Shift_eq__c shift_300 a_311) fun a_312 => (.b (mSame D.bl a_312 false) fun a_313 => (.b (.ite (!a_313) (.p true) (.b (m_Shift_init_l x_310) fun a_314 => (.b (m_Shift_eq__c a_314 shift_300) fun a_315 => (.b (mSame D.bl a_315 false) fun a_316 => (.p (!a_316)))))) fun a_317 => (.ite a_317 (.p (.rt (false))) (.p (.ct ()))))))))) (fun r_326 => r_326) (fun s_318 => (.on (.loop (ρ := Bool) [((fun _ => PD.n) ()), ((fun xs => PD.t (xs.map (fun q => PD.t [PD.x q.1, PD.i q.2.1, PD.i q.2.2.1, PD.i q.2.2.2]))) (sortS (scX (scI (scI scI1))) own_rows_301)), ((fun xs => PD.l (xs.map (fun q => PD.t [PD.x q.1, PD.i q.2.1, PD.i q.2.2.1, PD.i q.2.2.2]))) own_rows_301), (PD.x ([115, 104, 105, 102, 116] : List Nat)), (PD.i (0 : Int))] () (fun x_321 s_320 => (.b (m_Shift_eq__p shift_300 x_321) fun a_322 => (.b (mSame D.bl a_322 false) fun a_323 => (.ite (!a_323) (.p (.rt (false))) (.p (.ct ()))))))) (fun r_325 => r_325) (fun s_324 => (.p (true))))))))))))

def m_law (script_327 : (List Int)) : G Bool := (.b (m__law_cell script_327 (0 : Int)) fun a_328 => (.b (m__law_row a_328 (4 : Int)) fun a_329 => (.b (m__law_pool a_329) fun a_330 => (.lt a_330 fun pool_331 => (.b (m__law_cell script_327 (1 : Int)) fun a_332 => (.b (m__law_row a_332 (216 : Int)) fun a_333 => (.b (m__law_rows a_333 pool_331 (2 : Int)) fun a_334 => (.lt a_334 fun first_335 => (.b (m__law_cell script_327 (2 : Int)) fun a_336 => (.b (m__law_row a_336 (216 : Int)) fun a_337 => (.b (m__law_rows a_337 pool_331 (2 : Int)) fun a_338 => (.lt a_338 fun second_339 => (.b (m__law_cell script_327 (3 : Int)) fun a_340 => (.b (m__law_row a_340 (216 : Int)) fun a_341 => (.b (m__law_rows a_341 pool_331 (1 : Int)) fun a_342 => (.lt a_342 fun third_343 => (.b (m__law_cell script_327 (4 : Int)) fun a_344 => (.b (m__law_row a_344 (9 : Int)) fun a_345 => (.lt a_345 fun numbers_346 => (.lt first_335 fun passed_347 => (.b (.b (m_Shift_init_l passed_347) fun a_348 => (.p a_348)) fun a_349 => (.lt a_349 fun one_350 => (.b (.b (mSame (eL (eT4 stx D.int D.int D.int)) passed_347 first_335) fun a_351 => (.p a_351)) fun a_352 => (.ite (!a_352) (.p (false)) (.b ⟨passed_347.length ≤ 100000, passed_347 ++ [(([122, 122, 122, 122, 122, 122, 122, 122, 122, 122, 122, 122] : List Nat), (0 : Int), (0 : Int), (0 : Int))]⟩ fun passed_353 => (.b (m_Shift_init_u second_339) fun a_354 => (.lt a_354 fun other_355 => (.b (m__law_shown one_350 first_335) fun a_356 => (.b (.ite (!a_356) (.p true) (.b (m__law_shown other_355 second_339) fun a_357 => (.p (!a_357)))) fun a_358 => (.ite a_358 (.p (false)) (.b (m_Shift_add_ one_350 other_355) fun a_359 => (.b (m__law_plus first_335 second_339) fun a_360 => (.b (m__law_shown a_359 a_360) fun a_361 => (.b (.ite (!a_361) (.p true) (.b (m_Shift_add_ other_355 one_350) fun a_362 => (.b (m__law_plus second_339 first_335) fun a_363 => (.b (m__law_shown a_362 a_363) fun a_364 => (.p (!a_364)))))) fun a_365 => (.ite a_365 (.p (false)) (.b (m_Shift_add_ one_350 one_350) fun a_366 => (.b (m__law_plus first_335 first_335) fun a_367 => (.b (m__law_shown a_366 a_367) fun a_368 => (.b (.ite (!a_368) (.p true) (.b (m_Shift_invert_ one_350) fun a_369 => (.b (m__law_back first_335) fun a_370 => (.b (m__law_shown a_369 a_370) fun a_371 => (.p (!a_371)))))) fun a_372 => (.ite a_372 (.p (false)) (.a (InR numbers_346.length (8 : Int)) (.on (.loop (ρ := Bool) [(0 : Int), (1 : Int), (2 : Int), ((ix numbers_346 (8 : Int)) % (10 : Int))] () (fun x_375 s_374 => (.b (m_Shift_mul_ one_350 x_375) fun a_376 => (.b (m__law_times first_335 x_375) fun a_377 => (.b (m__law_shown a_376 a_377) fun a_378 => (.ite (!a_378) (.p (.rt (false))) (.p (.ct ())))))))) (fun r_395 => r_395) (fun s_379 => (.b (m__law_count numbers_346) fun a_380 => (.lt a_380 fun count_381 => (.b (m_Shift_init_l third_343) fun a_382 => (.b (m_Shift_mul_ a_382 count_381) fun a_383 => (.b (m__law_times third_343 count_381) fun a_384 => (.b (m__law_shown a_383 a_384) fun a_385 => (.ite (!a_385) (.p (false)) (.b (m_Shift_eq__c one_350 other_355) fun a_386 => (.b (mSame D.bl a_386 (decide ((sortS (scX (scI (scI scI1))) first_335) = (sortS (scX (scI (scI scI1))) second_339)))) fun a_389 => (.b (.ite (!a_389) (.p true) (.b (m__law_compared one_350 first_335) fun a_390 => (.p (!a_390)))) fun a_391 => (.ite a_391 (.p (false)) (.b (m__law_shown one_350 first_335) fun a_392 => (.b (.ite a_392 (.b (m__law_shown other_355 second_339) fun a_393 => (.p a_393)) (.p false)) fun a_394 => (.p (a_394))))))))))))))))))))))))))))))))))))))))))))))))))))))))))
end K01

namespace K01
open PySem PySem.Spec PyProof.Rows L2 Y
abbrev s_Shift_init_l : Stmt := (clsBody (top 2)).getD 0 (.Pass ⟨0, 0, 0, 0⟩)
abbrev N_Shift_init_l : List Str := ["self", "rows", "row"]
theorem sc_Shift_init_l : FnScope N_Shift_init_l ["self", "rows"] (defScope s_Shift_init_l) := ⟨rfl, rfl, rfl, by decide +kernel, rfl, by decide +kernel, by decide +kernel⟩
theorem ok_Shift_init_l {P : Program} {w : World} {K : PySem.W.Frag} {mg : Str → Option Value} {base : Heap} {f : Addr} {fd : FuncData} (F : FunG K "__init__" "Shift.__init__" s_Shift_init_l f fd) (T : Txt mg) {A_Shift : Addr} (CT : ClT P w K mg base A_Shift) : FnOk P w K mg base CX0 1 f fd ["self", "rows"] (spI K A_Shift (RI1 m_Shift_init_l (eL (eT4 stx D.int D.int D.int)) ns_Shift (ob_Shift A_Shift))) := by
  refine ok_initG (ρ := C_Shift) (ns := ns_Shift) (ob := ob_Shift A_Shift) F sc_Shift_init_l (fun ds r h => by obtain ⟨rows_2, rfl, _⟩ := h; rfl) (fun ds r h => by obtain ⟨rows_2, rfl, _, rfl⟩ := h; rfl) (fun cdv A outer s H E hr => ⟨_, (pss_one (k_sfld K (pv 0) (pe_callTy (k_tuple_of K) (by rfl) T.n_tuple (by decide +kernel) (pa_cons (pe_callB (k_sortedRow K) (by rfl) T.n_sorted (by decide +kernel) (pa_cons (pe_lc (own := [("row", 2)]) rfl sc_Shift_init_l.nd (k_pi_list K (pv 1)) (blkOk_by (N := N_Shift_init_l) (sc := defScope s_Shift_init_l) (by decide +kernel)) (fun _ _ _ _ _ => (pg_name (i := 2) sc_Shift_init_l.nd rfl (Or.inl rfl))) (fun _ _ _ _ _ => pts_nil) (fun _ _ _ _ _ => (pe_callTy (k_tuple_of K) (by rfl) T.n_tuple (by decide +kernel) (pa_cons (pv 2) pa_nil)))) pa_nil)) pa_nil)))), fun ds r h a_self => ?_⟩)
  obtain ⟨rows_2, rfl, ok, rfl⟩ := h
  refine ⟨m_Shift_init_l rows_2, ?_, ok, rfl⟩
  unfold m_Shift_init_l
  exact (xb_bo (xo_map (fun x_3 => [(2, (eT4 stx D.int D.int D.int) x_3)]) (ei_l (ee_var (d := (eL (eT4 stx D.int D.int D.int)) rows_2) rfl)) (fun x_3 => eg_name) (fun x_3 j hj => by simp at hj; first | subst hj; decide | (rcases hj with rfl <;> decide)) (fun x_3 => (xo_f (xe_p (ee_tupT (ee_var (d := (eT4 stx D.int D.int D.int) x_3) rfl)))))) fun a_4 ha_4 => (xi_one0 (st_fldS (i := 0) (ns := []) (ds := []) (e := (eU (eT4 stx D.int D.int D.int))) rfl (ee_tupleL ((ex_sortRows (rowc_of (rowk_x (rowk_i (rowk_i rowk_i1)))) (ha_4.ev (fz_l fz_f))).ev (fz_l fz_f))) CT.cls_Shift CT.na_Shift_rows (by decide) (by decide)) (fun rows_6 => rfl)))

abbrev s_Shift_init_u : Stmt := (clsBody (top 2)).getD 0 (.Pass ⟨0, 0, 0, 0⟩)
abbrev N_Shift_init_u : List Str := ["self", "rows", "row"]
theorem sc_Shift_init_u : FnScope N_Shift_init_u ["self", "rows"] (defScope s_Shift_init_u) := ⟨rfl, rfl, rfl, by decide +kernel, rfl, by decide +kernel, by decide +kernel⟩
theorem ok_Shift_init_u {P : Program} {w : World} {K : PySem.W.Frag} {mg : Str → Option Value} {base : Heap} {f : Addr} {fd : FuncData} (F : FunG K "__init__" "Shift.__init__" s_Shift_init_u f fd) (T : Txt mg) {A_Shift : Addr} (CT : ClT P w K mg base A_Shift) : FnOk P w K mg base CX0 1 f fd ["self", "rows"] (spI K A_Shift (RI1 m_Shift_init_u (eU (eT4 stx D.int D.int D.int)) ns_Shift (ob_Shift A_Shift))) := by
  refine ok_initG (ρ := C_Shift) (ns := ns_Shift) (ob := ob_Shift A_Shift) F sc_Shift_init_u (fun ds r h => by obtain ⟨rows_8, rfl, _⟩ := h; rfl) (fun ds r h => by obtain ⟨rows_8, rfl, _, rfl⟩ := h; rfl) (fun cdv A outer s H E hr => ⟨_, (pss_one (k_sfld K (pv 0) (pe_callTy (k_tuple_of K) (by rfl) T.n_tuple (by decide +kernel) (pa_cons (pe_callB (k_sortedRow K) (by rfl) T.n_sorted (by decide +kernel) (pa_cons (pe_lc (own := [("row", 2)]) rfl sc_Shift_init_u.nd (k_pi_tup K (pv 1)) (blkOk_by (N := N_Shift_init_u) (sc := defScope s_Shift_init_u) (by decide +kernel)) (fun _ _ _ _ _ => (pg_name (i := 2) sc_Shift_init_u.nd rfl (Or.inl rfl))) (fun _ _ _ _ _ => pts_nil) (fun _ _ _ _ _ => (pe_callTy (k_tuple_of K) (by rfl) T.n_tuple (by decide +kernel) (pa_cons (pv 2) pa_nil)))) pa_nil)) pa_nil)))), fun ds r h a_self => ?_⟩)
  obtain ⟨rows_8, rfl, ok, rfl⟩ := h
  refine ⟨m_Shift_init_u rows_8, ?_, ok, rfl⟩
  unfold m_Shift_init_u
  exact (xb_bo (xo_map (fun x_9 => [(2, (eT4 stx D.int D.int D.int) x_9)]) (ei_u (ee_var (d := (eU (eT4 stx D.int D.int D.int)) rows_8) rfl)) (fun x_9 => eg_name) (fun x_9 j hj => by simp at hj; first | subst hj; decide | (rcases hj with rfl <;> decide)) (fun x_9 => (xo_f (xe_p (ee_tupT (ee_var (d := (eT4 stx D.int D.int D.int) x_9) rfl)))))) fun a_10 ha_10 => (xi_one0 (st_fldS (i := 0) (ns := []) (ds := []) (e := (eU (eT4 stx D.int D.int D.int))) rfl (ee_tupleL ((ex_sortRows (rowc_of (rowk_x (rowk_i (rowk_i rowk_i1)))) (ha_10.ev (fz_l fz_f))).ev (fz_l fz_f))) CT.cls_Shift CT.na_Shift_rows (by decide) (by decide)) (fun rows_12 => rfl)))

abbrev s_Shift_never : Stmt := (clsBody (top 2)).getD 1 (.Pass ⟨0, 0, 0, 0⟩)
abbrev N_Shift_never : List Str := ["self", "_", "low", "high"]
theorem sc_Shift_never : FnScope N_Shift_never ["self"] (defScope s_Shift_never) := ⟨rfl, rfl, rfl, by decide +kernel, rfl, by decide +kernel, by decide +kernel⟩
theorem ok_Shift_never {P : Program} {w : World} {K : PySem.W.Frag} {mg : Str → Option Value} {base : Heap} {f : Addr} {fd : FuncData} (F : FunG K "never" "Shift.never" s_Shift_never f fd) (T : Txt mg) {A_Shift : Addr} (CT : ClT P w K mg base A_Shift) : FnOk P w K mg base CX0 1 f fd ["self"] (spX K (R1 m_Shift_never (e_Shift A_Shift) (oF D.bl))) := by
  refine ok_defG F sc_Shift_never (fun ds r h => by obtain ⟨self_13, rfl, _⟩ := h; rfl) (fun cdv A outer s H E hr => ⟨_, (pss_one (ps_ret (pe_callB (k_any K) (by rfl) T.n_any (by decide +kernel) (pa_cons (pe_lc (own := [("_", 1), ("low", 2), ("high", 3)]) rfl sc_Shift_never.nd (k_pi_tup K (k_fld K (pv 0))) (blkOk_by (N := N_Shift_never) (sc := defScope s_Shift_never) (by decide +kernel)) (fun _ _ _ _ _ => (k_pg_tup K (n := 4) rfl (pgs_cons (pg_name (i := 1) sc_Shift_never.nd rfl (Or.inl rfl)) (pgs_cons (pg_name (i := 2) sc_Shift_never.nd rfl (Or.inl rfl)) (pgs_cons (pg_name (i := 3) sc_Shift_never.nd rfl (Or.inl rfl)) (pgs_cons (pg_name (i := 1) sc_Shift_never.nd rfl (Or.inl rfl)) pgs_nil)))))) (fun _ _ _ _ _ => pts_nil) (fun _ _ _ _ _ => (pe_cmpR op_gt (pv 2) (pv 3) (nomark _)))) pa_nil)))), fun ds r h H0 H1 rt hrt => ?_⟩)
  obtain ⟨self_13, rfl, ok, rfl⟩ := h
  refine run (o := (oF D.bl)) (m := m_Shift_never self_13) ?_ ok hrt
  unfold m_Shift_never
  exact (xb_bo (xo_map (fun x_14 => ([(1, stx x_14.1)] ++ ([(2, D.int x_14.2.1)] ++ ([(3, D.int x_14.2.2.1)] ++ ([(1, D.int x_14.2.2.2)] ++ []))))) (ei_u (ee_fld (d := (eU (eT4 stx D.int D.int D.int)) self_13.f_rows) (ee_var (d := (e_Shift A_Shift) self_13) rfl) CT.cls_Shift CT.na_Shift_rows rfl)) (fun x_14 => (eg_tup (egs_consG eg_name (egs_consG eg_name (egs_consG eg_name (egs_consG eg_name egs_nil)))) rfl)) (fun x_14 j hj => by simp at hj; first | subst hj; decide | (rcases hj with rfl | rfl | rfl | rfl <;> decide)) (fun x_14 => (xo_f (xe_p (ee_gt (ee_var (d := D.int x_14.2.1) rfl) (ee_var (d := D.int x_14.2.2.1) rfl)))))) fun a_15 ha_15 => (xr_ret (ox_f (ee_anyT (ha_15.ev (fz_l fz_f))))))

abbrev s__joined_row : Stmt := top 4
abbrev N__joined_row : List Str := ["first", "second", "counter", "low", "high", "amount", "_", "later_low", "later_high", "later_amount"]
theorem sc__joined_row : FnScope N__joined_row ["first", "second"] (defScope s__joined_row) := ⟨rfl, rfl, rfl, by decide +kernel, rfl, by decide +kernel, by decide +kernel⟩
theorem ok__joined_row {P : Program} {w : World} {K : PySem.W.Frag} {mg : Str → Option Value} {base : Heap} {f : Addr} {fd : FuncData} (F : FunG K "_joined_row" "_joined_row" s__joined_row f fd) (T : Txt mg) {A_Shift : Addr} (CT : ClT P w K mg base A_Shift) : FnOk P w K mg base CX0 1 f fd ["first", "second"] (spX K (R2 m__joined_row (eT4 stx D.int D.int D.int) (eT4 stx D.int D.int D.int) (oF (eT4 stx D.int D.int D.int)))) := by
  refine ok_defG F sc__joined_row (fun ds r h => by obtain ⟨first_16, second_17, rfl, _⟩ := h; rfl) (fun cdv A outer s H E hr => ⟨_, (pss_cons (ps_asg (pv 0) (k_pg_tup K (n := 4) rfl (pgs_cons (pg_name (i := 2) sc__joined_row.nd rfl (Or.inl rfl)) (pgs_cons (pg_name (i := 3) sc__joined_row.nd rfl (Or.inl rfl)) (pgs_cons (pg_name (i := 4) sc__joined_row.nd rfl (Or.inl rfl)) (pgs_cons (pg_name (i := 5) sc__joined_row.nd rfl (Or.inl rfl)) pgs_nil))))))
    (pss_cons (ps_asg (pv 1) (k_pg_tup K (n := 4) rfl (pgs_cons (pg_name (i := 6) sc__joined_row.nd rfl (Or.inl rfl)) (pgs_cons (pg_name (i := 7) sc__joined_row.nd rfl (Or.inl rfl)) (pgs_cons (pg_name (i := 8) sc__joined_row.nd rfl (Or.inl rfl)) (pgs_cons (pg_name (i := 9) sc__joined_row.nd rfl (Or.inl rfl)) pgs_nil))))))
    (pss_one (ps_ret (pe_tup (pa_cons (pv 2) (pa_cons (pe_callB (call_max2 rfl) (by rfl) T.n_max (by decide +kernel) (pa_cons (pv 3) (pa_cons (pe_op op_sub (pv 7) (pv 5)) pa_nil))) (pa_cons (pe_callB (call_min2 rfl) (by rfl) T.n_min (by decide +kernel) (pa_cons (pv 4) (pa_cons (pe_op op_sub (pv 8) (pv 5)) pa_nil))) (pa_cons (pe_op op_add (pv 5) (pv 9)) pa_nil))))))))), fun ds r h H0 H1 rt hrt => ?_⟩)
  obtain ⟨first_16, second_17, rfl, ok, rfl⟩ := h
  refine run (o := (oF (eT4 stx D.int D.int D.int))) (m := m__joined_row first_16 second_17) ?_ ok hrt
  unfold m__joined_row
  exact (xb_let (st_asgG (e := (eT4 stx D.int D.int D.int)) (us := fun q_18 => ([(2, stx q_18.1)] ++ ([(3, D.int q_18.2.1)] ++ ([(4, D.int q_18.2.2.1)] ++ ([(5, D.int q_18.2.2.2)] ++ []))))) (ee_var (d := (eT4 stx D.int D.int D.int) first_16) rfl) (fun q_18 => (eg_tup (egs_consG eg_name (egs_consG eg_name (egs_consG eg_name (egs_consG eg_name egs_nil)))) rfl))) fun q_18 => (xb_let (st_asgG (e := (eT4 stx D.int D.int D.int)) (us := fun q_19 => ([(6, stx q_19.1)] ++ ([(7, D.int q_19.2.1)] ++ ([(8, D.int q_19.2.2.1)] ++ ([(9, D.int q_19.2.2.2)] ++ []))))) (ee_var (d := (eT4 stx D.int D.int D.int) second_17) rfl) (fun q_19 => (eg_tup (egs_consG eg_name (egs_consG eg_name (egs_consG eg_name (egs_consG eg_name egs_nil)))) rfl))) fun q_19 => (xr_ret (ox_f (ee_tup (ea_cons (ee_var (d := stx q_18.1) rfl) (ea_cons (ee_max2 (ee_var (d := D.int q_18.2.1) rfl) (ee_sub (ee_var (d := D.int q_19.2.1) rfl) (ee_var (d := D.int q_18.2.2.2) rfl))) (ea_cons (ee_min2 (ee_var (d := D.int q_18.2.2.1) rfl) (ee_sub (ee_var (d := D.int q_19.2.2.1) rfl) (ee_var (d := D.int q_18.2.2.2) rfl))) (ea_cons (ee_add (ee_var (d := D.int q_18.2.2.2) rfl) (ee_var (d := D.int q_19.2.2.2) rfl)) ea_nil)))) (Nat.le_of_ble_eq_true rfl))))))

abbrev s__rows_in_turn : Stmt := top 3
abbrev N__rows_in_turn : List Str := ["first", "second", "rows", "later", "alone", "joined", "row", "counter"]
theorem sc__rows_in_turn : FnScope N__rows_in_turn ["first", "second"] (defScope s__rows_in_turn) := ⟨rfl, rfl, rfl, by decide +kernel, rfl, by decide +kernel, by decide +kernel⟩
theorem ok__rows_in_turn {P : Program} {w : World} {K : PySem.W.Frag} {mg : Str → Option Value} {base : Heap} {f : Addr} {fd : FuncData} (F : FunG K "_rows_in_turn" "_rows_in_turn" s__rows_in_turn f fd) (T : Txt mg) {A_Shift : Addr} (CT : ClT P w K mg base A_Shift) (C__joined_row : Cal P w K mg base "_joined_row" 1 ["first", "second"] (spX K (R2 m__joined_row (eT4 stx D.int D.int D.int) (eT4 stx D.int D.int D.int) (oF (eT4 stx D.int D.int D.int))))) : FnOk P w K mg base CX0 2 f fd ["first", "second"] (spX K (R2 m__rows_in_turn (eU (eT4 stx D.int D.int D.int)) (eU (eT4 stx D.int D.int D.int)) (oL (oF (eT4 stx D.int D.int D.int))))) := by
  refine ok_defG F sc__rows_in_turn (fun ds r h => by obtain ⟨first_20, second_21, rfl, _⟩ := h; rfl) (fun cdv A outer s H E hr => ⟨_, (pss_cons (ps_set (i := 2) sc__rows_in_turn.nd rfl (Or.inr rfl) (pe_dc (own := [("row", 6)]) rfl sc__rows_in_turn.nd (k_pi_tup K (pv 0)) (blkOk_by (N := N__rows_in_turn) (sc := defScope s__rows_in_turn) (by decide +kernel)) (fun _ _ _ _ _ => (pg_name (i := 6) sc__rows_in_turn.nd rfl (Or.inl rfl))) (fun _ _ _ _ _ => pts_nil) (fun _ _ _ _ _ => (pe_ix (k_ix_tup K) (pv 6) pe_int (fun _ _ => rfl))) (fun _ _ _ _ _ => (pv 6))))
    (pss_lk (i := 2) (pss_cons (ps_set (i := 3) sc__rows_in_turn.nd rfl (Or.inr rfl) (pe_dc (own := [("row", 6)]) rfl sc__rows_in_turn.nd (k_pi_tup K (pv 1)) (blkOk_by (N := N__rows_in_turn) (sc := defScope s__rows_in_turn) (by decide +kernel)) (fun _ _ _ _ _ => (pg_name (i := 6) sc__rows_in_turn.nd rfl (Or.inl rfl))) (fun _ _ _ _ _ => pts_nil) (fun _ _ _ _ _ => (pe_ix (k_ix_tup K) (pv 6) pe_int (fun _ _ => rfl))) (fun _ _ _ _ _ => (pv 6))))
    (pss_lk (i := 3) (pss_cons (ps_setLc (i := 4) (hy := rfl) (hyl := rfl) (hsw := sw_true rfl rfl rfl (by decide +kernel)) (own := [("counter", 7)]) rfl sc__rows_in_turn.nd (pi_keys (pv 3)) (blkOk_by (N := N__rows_in_turn) (sc := defScope s__rows_in_turn) (by decide +kernel)) (fun _ _ _ _ _ => (pg_name (i := 7) sc__rows_in_turn.nd rfl (Or.inl rfl))) (fun _ _ _ _ _ => (pts_one (pt_cmp (pc_dnotin (hu_of hr) (pv 7) (pv 2))))) (fun _ _ _ _ _ => (pe_dget (hu_of hr) (pv 3) (pv 7) (fun _ _ => rfl))))
    (pss_cons (ps_setLc (i := 5) (hy := rfl) (hyl := rfl) (hsw := sw_true rfl rfl rfl (by decide +kernel)) (own := [("counter", 7)]) rfl sc__rows_in_turn.nd (pi_keys (pv 2)) (blkOk_by (N := N__rows_in_turn) (sc := defScope s__rows_in_turn) (by decide +kernel)) (fun _ _ _ _ _ => (pg_name (i := 7) sc__rows_in_turn.nd rfl (Or.inl rfl))) (fun _ _ _ _ _ => pts_nil) (fun _ _ _ _ _ => (pe_ifExp (pt_cmp (pc_din (hu_of hr) (pv 7) (pv 3))) (pe_cal (C__joined_row.mono (by decide)) hr (by rfl) (pa_cons (pe_dget (hu_of hr) (pv 2) (pv 7) (fun _ _ => rfl)) (pa_cons (pe_dget (hu_of hr) (pv 3) (pv 7) (fun _ _ => rfl)) pa_nil))) (pe_dget (hu_of hr) (pv 2) (pv 7) (fun _ _ => rfl)))))
    (pss_one (ps_ret (pe_op (k_catS K) (pv 5) (pv 4)))))))))), fun ds r h H0 H1 rt hrt => ?_⟩)
  obtain ⟨first_20, second_21, rfl, ok, rfl⟩ := h
  refine run (o := (oL (oF (eT4 stx D.int D.int D.int)))) (m := m__rows_in_turn first_20 second_21) ?_ ok hrt
  unfold m__rows_in_turn
  exact (xb_bo (xo_dc (kk := kkS) (e := (eT4 stx D.int D.int D.int)) inj_kkS (fun x_22 => [(6, (eT4 stx D.int D.int D.int) x_22)]) (ei_u (ee_var (d := (eU (eT4 stx D.int D.int D.int)) first_20) rfl)) (fun x_22 => eg_name) (fun x_22 j hj => by simp at hj; first | subst hj; decide | (rcases hj with rfl <;> decide)) (fun x_22 => xt_p et_yes) (fun x_22 => (xe_p (ee_ixT (ds := [stx x_22.1, D.int x_22.2.1, D.int x_22.2.2.1, D.int x_22.2.2.2]) (d := stx x_22.1) (ee_var (d := (eT4 stx D.int D.int D.int) x_22) rfl) ee_int rfl))) (fun x_22 => (xe_p (ee_var (d := (eT4 stx D.int D.int D.int) x_22) rfl)))) fun a_23 ha_23 => (xb_let (st_own (i := 2) (o := (oK kkS (eT4 stx D.int D.int D.int))) ha_23) fun rows_24 => (xb_lock (i := 2) (kk := kkS) (e := (eT4 stx D.int D.int D.int)) (d := rows_24) rfl (xb_bo (xo_dc (kk := kkS) (e := (eT4 stx D.int D.int D.int)) inj_kkS (fun x_25 => [(6, (eT4 stx D.int D.int D.int) x_25)]) (ei_u (ee_var (d := (eU (eT4 stx D.int D.int D.int)) second_21) rfl)) (fun x_25 => eg_name) (fun x_25 j hj => by simp at hj; first | subst hj; decide | (rcases hj with rfl <;> decide)) (fun x_25 => xt_p et_yes) (fun x_25 => (xe_p (ee_ixT (ds := [stx x_25.1, D.int x_25.2.1, D.int x_25.2.2.1, D.int x_25.2.2.2]) (d := stx x_25.1) (ee_var (d := (eT4 stx D.int D.int D.int) x_25) rfl) ee_int rfl))) (fun x_25 => (xe_p (ee_var (d := (eT4 stx D.int D.int D.int) x_25) rfl)))) fun a_26 ha_26 => (xb_let (st_own (i := 3) (o := (oK kkS (eT4 stx D.int D.int D.int))) ha_26) fun later_27 => (xb_lock (i := 3) (kk := kkS) (e := (eT4 stx D.int D.int D.int)) (d := later_27) rfl (xb_bo (xo_comp (fun x_28 => [(7, stx x_28)]) (ei_keysZT (kk := kkS) (e := (eT4 stx D.int D.int D.int)) (ee_var (d := (eKz kkS (eT4 stx D.int D.int D.int)) later_27) rfl)) (fun x_28 => eg_name) (fun x_28 j hj => by simp at hj; first | subst hj; decide | (rcases hj with rfl <;> decide)) (fun x_28 => (xt_p (et_B (ee_dninT inj_kkS (ee_var (d := stx x_28) rfl) (ed_valT (ee_unz (ee_var (d := (eKz kkS (eT4 stx D.int D.int D.int)) rows_24) rfl))))))) (fun x_28 => (xo_f (xe_a fun h_29 => (xe_p (ee_dgetT inj_kkS (ed_valT (ee_unz (ee_var (d := (eKz kkS (eT4 stx D.int D.int D.int)) later_27) rfl))) (ee_var (d := stx x_28) rfl) h_29)))))) fun a_30 ha_30 => (xb_let (st_asg (i := 4) (e := (eL (eT4 stx D.int D.int D.int))) (ha_30.ev (fz_l fz_f))) fun alone_31 => (xb_bo (xo_map (fun x_32 => [(7, stx x_32)]) (ei_keysZT (kk := kkS) (e := (eT4 stx D.int D.int D.int)) (ee_var (d := (eKz kkS (eT4 stx D.int D.int D.int)) rows_24) rfl)) (fun x_32 => eg_name) (fun x_32 j hj => by simp at hj; first | subst hj; decide | (rcases hj with rfl <;> decide)) (fun x_32 => (xo_f (xe_b (xe_if (e := (eT4 stx D.int D.int D.int)) (et_B (ee_dinT inj_kkS (ee_var (d := stx x_32) rfl) (ed_valT (ee_unz (ee_var (d := (eKz kkS (eT4 stx D.int D.int D.int)) later_27) rfl))))) (xe_a fun h_33 => (xe_a fun h_34 => (xe_bo (xo_call (o := (oF (eT4 stx D.int D.int D.int))) (ea_cons (ee_dgetT inj_kkS (ed_valT (ee_unz (ee_var (d := (eKz kkS (eT4 stx D.int D.int D.int)) rows_24) rfl))) (ee_var (d := stx x_32) rfl) h_33) (ea_cons (ee_dgetT inj_kkS (ed_valT (ee_unz (ee_var (d := (eKz kkS (eT4 stx D.int D.int D.int)) later_27) rfl))) (ee_var (d := stx x_32) rfl) h_34) ea_nil)) (fun ok => ⟨_, _, rfl, ok, rfl⟩)) fun a_35 ha_35 => (xe_p ha_35.ef)))) (xe_a fun h_36 => (xe_p (ee_dgetT inj_kkS (ed_valT (ee_unz (ee_var (d := (eKz kkS (eT4 stx D.int D.int D.int)) rows_24) rfl))) (ee_var (d := stx x_32) rfl) h_36)))) fun a_37 ha_37 => (xe_p ha_37))))) fun a_38 ha_38 => (xb_let (st_asg (i := 5) (e := (eL (eT4 stx D.int D.int D.int))) (ha_38.ev (fz_l fz_f))) fun joined_39 => (xb_a fun h_40 => (xr_ret (ex_cat (ee_var (d := (eL (eT4 stx D.int D.int D.int)) joined_39) rfl) (ee_var (d := (eL (eT4 stx D.int D.int D.int)) alone_31) rfl) h_40)))))))))))))

abbrev s__repeated_row : Stmt := top 5
abbrev N__repeated_row : List Str := ["row", "times", "counter", "low", "high", "amount", "before_last"]
theorem sc__repeated_row : FnScope N__repeated_row ["row", "times"] (defScope s__repeated_row) := ⟨rfl, rfl, rfl, by decide +kernel, rfl, by decide +kernel, by decide +kernel⟩
theorem ok__repeated_row {P : Program} {w : World} {K : PySem.W.Frag} {mg : Str → Option Value} {base : Heap} {f : Addr} {fd : FuncData} (F : FunG K "_repeated_row" "_repeated_row" s__repeated_row f fd) (T : Txt mg) {A_Shift : Addr} (CT : ClT P w K mg base A_Shift) : FnOk P w K mg base CX0 1 f fd ["row", "times"] (spX K (R2 m__repeated_row (eT4 stx D.int D.int D.int) D.int (oF (eT4 stx D.int D.int D.int)))) := by
  refine ok_defG F sc__repeated_row (fun ds r h => by obtain ⟨row_41, times_42, rfl, _⟩ := h; rfl) (fun cdv A outer s H E hr => ⟨_, (pss_cons (ps_asg (pv 0) (k_pg_tup K (n := 4) rfl (pgs_cons (pg_name (i := 2) sc__repeated_row.nd rfl (Or.inl rfl)) (pgs_cons (pg_name (i := 3) sc__repeated_row.nd rfl (Or.inl rfl)) (pgs_cons (pg_name (i := 4) sc__repeated_row.nd rfl (Or.inl rfl)) (pgs_cons (pg_name (i := 5) sc__repeated_row.nd rfl (Or.inl rfl)) pgs_nil))))))
    (pss_cons (ps_set (i := 6) sc__repeated_row.nd rfl (Or.inl rfl) (pe_op op_mulW (pe_op op_sub (pv 1) pe_int) (pv 5)))
    (pss_one (ps_ret (pe_tup (pa_cons (pv 2) (pa_cons (pe_op op_sub (pv 3) (pe_callB (call_min2 rfl) (by rfl) T.n_min (by decide +kernel) (pa_cons pe_int (pa_cons (pv 6) pa_nil)))) (pa_cons (pe_op op_sub (pv 4) (pe_callB (call_max2 rfl) (by rfl) T.n_max (by decide +kernel) (pa_cons pe_int (pa_cons (pv 6) pa_nil)))) (pa_cons (pe_op op_mulW (pv 1) (pv 5)) pa_nil))))))))), fun ds r h H0 H1 rt hrt => ?_⟩)
  obtain ⟨row_41, times_42, rfl, ok, rfl⟩ := h
  refine run (o := (oF (eT4 stx D.int D.int D.int))) (m := m__repeated_row row_41 times_42) ?_ ok hrt
  unfold m__repeated_row
  exact (xb_let (st_asgG (e := (eT4 stx D.int D.int D.int)) (us := fun q_43 => ([(2, stx q_43.1)] ++ ([(3, D.int q_43.2.1)] ++ ([(4, D.int q_43.2.2.1)] ++ ([(5, D.int q_43.2.2.2)] ++ []))))) (ee_var (d := (eT4 stx D.int D.int D.int) row_41) rfl) (fun q_43 => (eg_tup (egs_consG eg_name (egs_consG eg_name (egs_consG eg_name (egs_consG eg_name egs_nil)))) rfl))) fun q_43 => (xb_a fun h_44 => (xb_let (st_asg (i := 6) (e := D.int) (ee_mulW (ee_sub (ee_var (d := D.int times_42) rfl) ee_int) (ee_var (d := D.int q_43.2.2.2) rfl) h_44)) fun before_last_45 => (xb_a fun h_46 => (xr_ret (ox_f (ee_tup (ea_cons (ee_var (d := stx q_43.1) rfl) (ea_cons (ee_sub (ee_var (d := D.int q_43.2.1) rfl) (ee_min2 ee_int (ee_var (d := D.int before_last_45) rfl))) (ea_cons (ee_sub (ee_var (d := D.int q_43.2.2.1) rfl) (ee_max2 ee_int (ee_var (d := D.int before_last_45) rfl))) (ea_cons (ee_mulW (ee_var (d := D.int times_42) rfl) (ee_var (d := D.int q_43.2.2.2) rfl) h_46) ea_nil)))) (Nat.le_of_ble_eq_true rfl))))))))

abbrev s_Shift_add_ : Stmt := (clsBody (top 2)).getD 2 (.Pass ⟨0, 0, 0, 0⟩)
abbrev N_Shift_add_ : List Str := ["self", "other"]
theorem sc_Shift_add_ : FnScope N_Shift_add_ ["self", "other"] (defScope s_Shift_add_) := ⟨rfl, rfl, rfl, by decide +kernel, rfl, by decide +kernel, by decide +kernel⟩
theorem ok_Shift_add_ {P : Program} {w : World} {K : PySem.W.Frag} {mg : Str → Option Value} {base : Heap} {f : Addr} {fd : FuncData} (F : FunG K "__add__" "Shift.__add__" s_Shift_add_ f fd) (T : Txt mg) {A_Shift : Addr} (CT : ClT P w K mg base A_Shift) (K_Shift_l : MakC P w K mg base "Shift" A_Shift 1 ["self", "rows"] (spI K A_Shift (RI1 m_Shift_init_l (eL (eT4 stx D.int D.int D.int)) ns_Shift (ob_Shift A_Shift)))) (C__rows_in_turn : Cal P w K mg base "_rows_in_turn" 2 ["first", "second"] (spX K (R2 m__rows_in_turn (eU (eT4 stx D.int D.int D.int)) (eU (eT4 stx D.int D.int D.int)) (oL (oF (eT4 stx D.int D.int D.int)))))) : FnOk P w K mg base CX0 3 f fd ["self", "other"] (spX K (R2 m_Shift_add_ (e_Shift A_Shift) (e_Shift A_Shift) (oF (e_Shift A_Shift)))) := by
  refine ok_defG F sc_Shift_add_ (fun ds r h => by obtain ⟨self_47, other_48, rfl, _⟩ := h; rfl) (fun cdv A outer s H E hr => ⟨_, (pss_cons (ps_if (pt_not (pt_val (pe_callB (k_isi K) (by rfl) T.n_isinstance (by decide +kernel) (pa_cons (pv 1) (pa_cons (pe_glob (v := V.ref A_Shift) (by rfl) CT.g_Shift rfl) pa_nil))))) pss_nev pss_nil)
    (pss_one (ps_ret (pe_mak (K_Shift_l.mono (by decide)) hr (by rfl) (pa_cons (pe_cal (C__rows_in_turn.mono (by decide)) hr (by rfl) (pa_cons (k_fld K (pv 0)) (pa_cons (k_fld K (pv 1)) pa_nil))) pa_nil))))), fun ds r h H0 H1 rt hrt => ?_⟩)
  obtain ⟨self_47, other_48, rfl, ok, rfl⟩ := h
  refine run (o := (oF (e_Shift A_Shift))) (m := m_Shift_add_ self_47 other_48) ?_ ok hrt
  unfold m_Shift_add_
  exact (xb_leave ni_r (et_not (et_B (ee_isiC CT.own_Shift (ee_var (d := (e_Shift A_Shift) other_48) rfl)))) (xx_not (fun h => h)) (xb_bo (xo_call (o := (oL (oF (eT4 stx D.int D.int D.int)))) (ea_cons (ee_fld (d := (eU (eT4 stx D.int D.int D.int)) self_47.f_rows) (ee_var (d := (e_Shift A_Shift) self_47) rfl) CT.cls_Shift CT.na_Shift_rows rfl) (ea_cons (ee_fld (d := (eU (eT4 stx D.int D.int D.int)) other_48.f_rows) (ee_var (d := (e_Shift A_Shift) other_48) rfl) CT.cls_Shift CT.na_Shift_rows rfl) ea_nil)) (fun ok => ⟨_, _, rfl, ok, rfl⟩)) fun a_49 ha_49 => (xb_b (xe_make (ns := ns_Shift) (ob := ob_Shift A_Shift) (ea_cons (ha_49.ev (fz_l fz_f)) ea_nil) (fun ok => ⟨_, rfl, ok, rfl⟩)) fun a_50 ha_50 => (xr_ret (ox_f ha_50)))))

abbrev s_Shift_invert_ : Stmt := (clsBody (top 2)).getD 3 (.Pass ⟨0, 0, 0, 0⟩)
abbrev N_Shift_invert_ : List Str := ["self", "counter", "low", "high", "amount"]
theorem sc_Shift_invert_ : FnScope N_Shift_invert_ ["self"] (defScope s_Shift_invert_) := ⟨rfl, rfl, rfl, by decide +kernel, rfl, by decide +kernel, by decide +kernel⟩
theorem ok_Shift_invert_ {P : Program} {w : World} {K : PySem.W.Frag} {mg : Str → Option Value} {base : Heap} {f : Addr} {fd : FuncData} (F : FunG K "__invert__" "Shift.__invert__" s_Shift_invert_ f fd) (T : Txt mg) {A_Shift : Addr} (CT : ClT P w K mg base A_Shift) (K_Shift_l : MakC P w K mg base "Shift" A_Shift 1 ["self", "rows"] (spI K A_Shift (RI1 m_Shift_init_l (eL (eT4 stx D.int D.int D.int)) ns_Shift (ob_Shift A_Shift)))) : FnOk P w K mg base CX0 3 f fd ["self"] (spX K (R1 m_Shift_invert_ (e_Shift A_Shift) (oF (e_Shift A_Shift)))) := by
  refine ok_defG F sc_Shift_invert_ (fun ds r h => by obtain ⟨self_51, rfl, _⟩ := h; rfl) (fun cdv A outer s H E hr => ⟨_, (pss_one (ps_ret (pe_mak (K_Shift_l.mono (by decide)) hr (by rfl) (pa_cons (pe_lc (own := [("counter", 1), ("low", 2), ("high", 3), ("amount", 4)]) rfl sc_Shift_invert_.nd (k_pi_tup K (k_fld K (pv 0))) (blkOk_by (N := N_Shift_invert_) (sc := defScope s_Shift_invert_) (by decide +kernel)) (fun _ _ _ _ _ => (k_pg_tup K (n := 4) rfl (pgs_cons (pg_name (i := 1) sc_Shift_invert_.nd rfl (Or.inl rfl)) (pgs_cons (pg_name (i := 2) sc_Shift_invert_.nd rfl (Or.inl rfl)) (pgs_cons (pg_name (i := 3) sc_Shift_invert_.nd rfl (Or.inl rfl)) (pgs_cons (pg_name (i := 4) sc_Shift_invert_.nd rfl (Or.inl rfl)) pgs_nil)))))) (fun _ _ _ _ _ => pts_nil) (fun _ _ _ _ _ => (pe_tup (pa_cons (pv 1) (pa_cons (pe_op op_add (pv 2) (pv 4)) (pa_cons (pe_op op_add (pv 3) (pv 4)) (pa_cons (pe_un un_neg (pv 4)) pa_nil))))))) pa_nil)))), fun ds r h H0 H1 rt hrt => ?_⟩)
  obtain ⟨self_51, rfl, ok, rfl⟩ := h
  refine run (o := (oF (e_Shift A_Shift))) (m := m_Shift_invert_ self_51) ?_ ok hrt
  unfold m_Shift_invert_
  exact (xb_bo (xo_map (fun x_52 => ([(1, stx x_52.1)] ++ ([(2, D.int x_52.2.1)] ++ ([(3, D.int x_52.2.2.1)] ++ ([(4, D.int x_52.2.2.2)] ++ []))))) (ei_u (ee_fld (d := (eU (eT4 stx D.int D.int D.int)) self_51.f_rows) (ee_var (d := (e_Shift A_Shift) self_51) rfl) CT.cls_Shift CT.na_Shift_rows rfl)) (fun x_52 => (eg_tup (egs_consG eg_name (egs_consG eg_name (egs_consG eg_name (egs_consG eg_name egs_nil)))) rfl)) (fun x_52 j hj => by simp at hj; first | subst hj; decide | (rcases hj with rfl | rfl | rfl | rfl <;> decide)) (fun x_52 => (xo_f (xe_p (ee_tup (ea_cons (ee_var (d := stx x_52.1) rfl) (ea_cons (ee_add (ee_var (d := D.int x_52.2.1) rfl) (ee_var (d := D.int x_52.2.2.2) rfl)) (ea_cons (ee_add (ee_var (d := D.int x_52.2.2.1) rfl) (ee_var (d := D.int x_52.2.2.2) rfl)) (ea_cons (ee_neg (ee_var (d := D.int x_52.2.2.2) rfl)) ea_nil)))) (Nat.le_of_ble_eq_true rfl)))))) fun a_53 ha_53 => (xb_b (xe_make (ns := ns_Shift) (ob := ob_Shift A_Shift) (ea_cons (ha_53.ev (fz_l fz_f)) ea_nil) (fun ok => ⟨_, rfl, ok, rfl⟩)) fun a_54 ha_54 => (xr_ret (ox_f ha_54))))
end K01

namespace K01
open PySem PySem.Spec PyProof.Rows L2 Y
abbrev s_Shift_mul_ : Stmt := (clsBody (top 2)).getD 4 (.Pass ⟨0, 0, 0, 0⟩)
abbrev N_Shift_mul_ : List Str := ["self", "other", "row"]
theorem sc_Shift_mul_ : FnScope N_Shift_mul_ ["self", "other"] (defScope s_Shift_mul_) := ⟨rfl, rfl, rfl, by decide +kernel, rfl, by decide +kernel, by decide +kernel⟩
theorem ok_Shift_mul_ {P : Program} {w : World} {K : PySem.W.Frag} {mg : Str → Option Value} {base : Heap} {f : Addr} {fd : FuncData} (F : FunG K "__mul__" "Shift.__mul__" s_Shift_mul_ f fd) (T : Txt mg) {A_Shift : Addr} (CT : ClT P w K mg base A_Shift) (K_Shift_l : MakC P w K mg base "Shift" A_Shift 1 ["self", "rows"] (spI K A_Shift (RI1 m_Shift_init_l (eL (eT4 stx D.int D.int D.int)) ns_Shift (ob_Shift A_Shift)))) (C__repeated_row : Cal P w K mg base "_repeated_row" 1 ["row", "times"] (spX K (R2 m__repeated_row (eT4 stx D.int D.int D.int) D.int (oF (eT4 stx D.int D.int D.int))))) : FnOk P w K mg base CX0 3 f fd ["self", "other"] (spX K (R2 m_Shift_mul_ (e_Shift A_Shift) D.int (oF (e_Shift A_Shift)))) := by
  refine ok_defG F sc_Shift_mul_ (fun ds r h => by obtain ⟨self_55, other_56, rfl, _⟩ := h; rfl) (fun cdv A outer s H E hr => ⟨_, (pss_cons (ps_if (pt_not (pt_val (pe_callB (k_isi K) (by rfl) T.n_isinstance (by decide +kernel) (pa_cons (pv 1) (pa_cons (pe_bltn (v := .ty "int") (by rfl) T.n_int (by decide +kernel) rfl) pa_nil))))) pss_nev pss_nil)
    (pss_cons (ps_if (pt_cmpR op_eq (pv 1) pe_int (nomark _)) (pss_one (ps_ret (pe_mak (K_Shift_l.mono (by decide)) hr (by rfl) (pa_cons (pe_lst pa_nil) pa_nil)))) pss_nil)
    (pss_one (ps_ret (pe_mak (K_Shift_l.mono (by decide)) hr (by rfl) (pa_cons (pe_lc (own := [("row", 2)]) rfl sc_Shift_mul_.nd (k_pi_tup K (k_fld K (pv 0))) (blkOk_by (N := N_Shift_mul_) (sc := defScope s_Shift_mul_) (by decide +kernel)) (fun _ _ _ _ _ => (pg_name (i := 2) sc_Shift_mul_.nd rfl (Or.inl rfl))) (fun _ _ _ _ _ => pts_nil) (fun _ _ _ _ _ => (pe_cal (C__repeated_row.mono (by decide)) hr (by rfl) (pa_cons (pv 2) (pa_cons (pv 1) pa_nil))))) pa_nil)))))), fun ds r h H0 H1 rt hrt => ?_⟩)
  obtain ⟨self_55, other_56, rfl, ok, rfl⟩ := h
  refine run (o := (oF (e_Shift A_Shift))) (m := m_Shift_mul_ self_55 other_56) ?_ ok hrt
  unfold m_Shift_mul_
  exact (xb_leave ni_r (et_not (et_B (ee_isiI (ee_var (d := D.int other_56) rfl) (kit_ty (by decide +kernel))))) (xx_not (fun h => h)) (xb_leave ni_r (et_test (ee_eqI (ee_var (d := D.int other_56) rfl) ee_int)) (xb_b (xe_make (ns := ns_Shift) (ob := ob_Shift A_Shift) (ea_cons (ex_nil.ev (fz_l fz_f)) ea_nil) (fun ok => ⟨_, rfl, ok, rfl⟩)) fun a_57 ha_57 => (xr_ret (ox_f ha_57))) (xb_bo (xo_map (fun x_58 => [(2, (eT4 stx D.int D.int D.int) x_58)]) (ei_u (ee_fld (d := (eU (eT4 stx D.int D.int D.int)) self_55.f_rows) (ee_var (d := (e_Shift A_Shift) self_55) rfl) CT.cls_Shift CT.na_Shift_rows rfl)) (fun x_58 => eg_name) (fun x_58 j hj => by simp at hj; first | subst hj; decide | (rcases hj with rfl <;> decide)) (fun x_58 => (xo_f (xe_bo (xo_call (o := (oF (eT4 stx D.int D.int D.int))) (ea_cons (ee_var (d := (eT4 stx D.int D.int D.int) x_58) rfl) (ea_cons (ee_var (d := D.int other_56) rfl) ea_nil)) (fun ok => ⟨_, _, rfl, ok, rfl⟩)) fun a_59 ha_59 => (xe_p ha_59.ef))))) fun a_60 ha_60 => (xb_b (xe_make (ns := ns_Shift) (ob := ob_Shift A_Shift) (ea_cons (ha_60.ev (fz_l fz_f)) ea_nil) (fun ok => ⟨_, rfl, ok, rfl⟩)) fun a_61 ha_61 => (xr_ret (ox_f ha_61))))))

abbrev s_Shift_eq__c : Stmt := (clsBody (top 2)).getD 5 (.Pass ⟨0, 0, 0, 0⟩)
abbrev N_Shift_eq__c : List Str := ["self", "other"]
theorem sc_Shift_eq__c : FnScope N_Shift_eq__c ["self", "other"] (defScope s_Shift_eq__c) := ⟨rfl, rfl, rfl, by decide +kernel, rfl, by decide +kernel, by decide +kernel⟩
theorem ok_Shift_eq__c {P : Program} {w : World} {K : PySem.W.Frag} {mg : Str → Option Value} {base : Heap} {f : Addr} {fd : FuncData} (F : FunG K "__eq__" "Shift.__eq__" s_Shift_eq__c f fd) (T : Txt mg) {A_Shift : Addr} (CT : ClT P w K mg base A_Shift) : FnOk P w K mg base CX0 1 f fd ["self", "other"] (spX K (R2 m_Shift_eq__c (e_Shift A_Shift) (e_Shift A_Shift) (oF D.bl))) := by
  refine ok_defG F sc_Shift_eq__c (fun ds r h => by obtain ⟨self_62, other_63, rfl, _⟩ := h; rfl) (fun cdv A outer s H E hr => ⟨_, (pss_one (ps_ret (pe_and (pe_callB (k_isi K) (by rfl) T.n_isinstance (by decide +kernel) (pa_cons (pv 1) (pa_cons (pe_glob (v := V.ref A_Shift) (by rfl) CT.g_Shift rfl) pa_nil))) (pe_one (pe_cmpR (k_eqP K hr.units) (k_fld K (pv 0)) (k_fld K (pv 1)) (nomark _)))))), fun ds r h H0 H1 rt hrt => ?_⟩)
  obtain ⟨self_62, other_63, rfl, ok, rfl⟩ := h
  refine run (o := (oF D.bl)) (m := m_Shift_eq__c self_62 other_63) ?_ ok hrt
  unfold m_Shift_eq__c
  exact (xr_ret (ox_f (ee_andV (ee_isiC CT.own_Shift (ee_var (d := (e_Shift A_Shift) other_63) rfl)) (fun _ => (ee_eqQ (eqp_u (eqp_tup (eqps_c eqp_x (eqps_c eqp_int (eqps_c eqp_int (eqps_1 eqp_int)))))) (by decide) (ee_fld (d := (eU (eT4 stx D.int D.int D.int)) self_62.f_rows) (ee_var (d := (e_Shift A_Shift) self_62) rfl) CT.cls_Shift CT.na_Shift_rows rfl) (ee_fld (d := (eU (eT4 stx D.int D.int D.int)) other_63.f_rows) (ee_var (d := (e_Shift A_Shift) other_63) rfl) CT.cls_Shift CT.na_Shift_rows rfl))))))

abbrev s_Shift_eq__p : Stmt := (clsBody (top 2)).getD 5 (.Pass ⟨0, 0, 0, 0⟩)
abbrev N_Shift_eq__p : List Str := ["self", "other"]
theorem sc_Shift_eq__p : FnScope N_Shift_eq__p ["self", "other"] (defScope s_Shift_eq__p) := ⟨rfl, rfl, rfl, by decide +kernel, rfl, by decide +kernel, by decide +kernel⟩
theorem ok_Shift_eq__p {P : Program} {w : World} {K : PySem.W.Frag} {mg : Str → Option Value} {base : Heap} {f : Addr} {fd : FuncData} (F : FunG K "__eq__" "Shift.__eq__" s_Shift_eq__p f fd) (T : Txt mg) {A_Shift : Addr} (CT : ClT P w K mg base A_Shift) : FnOk P w K mg base CX0 1 f fd ["self", "other"] (spX K (R2 m_Shift_eq__p (e_Shift A_Shift) ePD (oF D.bl))) := by
  refine ok_defG F sc_Shift_eq__p (fun ds r h => by obtain ⟨self_64, other_65, rfl, _⟩ := h; rfl) (fun cdv A outer s H E hr => ⟨_, (pss_one (ps_ret (pe_and (pe_callB (k_isi K) (by rfl) T.n_isinstance (by decide +kernel) (pa_cons (pv 1) (pa_cons (pe_glob (v := V.ref A_Shift) (by rfl) CT.g_Shift rfl) pa_nil))) (pe_one pe_nev)))), fun ds r h H0 H1 rt hrt => ?_⟩)
  obtain ⟨self_64, other_65, rfl, ok, rfl⟩ := h
  refine run (o := (oF D.bl)) (m := m_Shift_eq__p self_64 other_65) ?_ ok hrt
  unfold m_Shift_eq__p
  exact (xr_ret (ox_f (ee_andV (ee_isiP CT.own_Shift (ee_var (d := ePD other_65) rfl)) (fun h => by cases h))))

abbrev s__law_cell : Stmt := top 7
abbrev N__law_cell : List Str := ["script", "k"]
theorem sc__law_cell : FnScope N__law_cell ["script", "k"] (defScope s__law_cell) := ⟨rfl, rfl, rfl, by decide +kernel, rfl, by decide +kernel, by decide +kernel⟩
theorem ok__law_cell {P : Program} {w : World} {K : PySem.W.Frag} {mg : Str → Option Value} {base : Heap} {f : Addr} {fd : FuncData} (F : FunG K "_law_cell" "_law_cell" s__law_cell f fd) (T : Txt mg) {A_Shift : Addr} (CT : ClT P w K mg base A_Shift) : FnOk P w K mg base CX0 1 f fd ["script", "k"] (spX K (R2 m__law_cell (eL D.int) D.int (oF D.int))) := by
  refine ok_defG F sc__law_cell (fun ds r h => by obtain ⟨script_66, k_67, rfl, _⟩ := h; rfl) (fun cdv A outer s H E hr => ⟨_, (pss_one (ps_ret (pe_ifExp (pt_cmpR op_lt (pv 1) (pe_callB (k_call_len K) (by rfl) T.n_len (by decide +kernel) (pa_cons (pv 0) pa_nil)) (nomark _)) (pe_callTy call_int1 (by rfl) T.n_int (by decide +kernel) (pa_cons (pe_ix (k_ix_list K) (pv 0) (pv 1) (fun _ _ => rfl)) pa_nil)) pe_int))), fun ds r h H0 H1 rt hrt => ?_⟩)
  obtain ⟨script_66, k_67, rfl, ok, rfl⟩ := h
  refine run (o := (oF D.int)) (m := m__law_cell script_66 k_67) ?_ ok hrt
  unfold m__law_cell
  exact (xb_b (xe_if (e := D.int) (et_test (ee_lt (ee_var (d := D.int k_67) rfl) (ee_lenT' (ee_var (d := (eL D.int) script_66) rfl)))) (xe_a fun h_68 => (xe_p (ee_intI (ee_ix (ee_var (d := (eL D.int) script_66) rfl) (ee_var (d := D.int k_67) rfl) h_68)))) (xe_p ee_int)) fun a_69 ha_69 => (xr_ret (ox_f ha_69)))

abbrev s__law_row : Stmt := top 8
abbrev N__law_row : List Str := ["cell", "many", "row", "seed", "rest", "k", "mixed"]
theorem sc__law_row : FnScope N__law_row ["cell", "many"] (defScope s__law_row) := ⟨rfl, rfl, rfl, by decide +kernel, rfl, by decide +kernel, by decide +kernel⟩
theorem ok__law_row {P : Program} {w : World} {K : PySem.W.Frag} {mg : Str → Option Value} {base : Heap} {f : Addr} {fd : FuncData} (F : FunG K "_law_row" "_law_row" s__law_row f fd) (T : Txt mg) {A_Shift : Addr} (CT : ClT P w K mg base A_Shift) : FnOk P w K mg base CX0 1 f fd ["cell", "many"] (spX K (R2 m__law_row D.int D.int (oL (oF D.int)))) := by
  refine ok_defG F sc__law_row (fun ds r h => by obtain ⟨cell_70, many_71, rfl, _⟩ := h; rfl) (fun cdv A outer s H E hr => ⟨_, (pss_cons (ps_set (i := 2) sc__law_row.nd rfl (Or.inl rfl) (pe_lst pa_nil))
    (pss_cons (ps_set (i := 3) sc__law_row.nd rfl (Or.inl rfl) (pe_op op_mod (pe_callTy call_int1 (by rfl) T.n_int (by decide +kernel) (pa_cons (pv 0) pa_nil)) pe_int))
    (pss_cons (ps_set (i := 4) sc__law_row.nd rfl (Or.inl rfl) (pe_op op_sub (pv 0) (pe_op op_pow pe_int pe_int)))
    (pss_cons (ps_for PassesOwn.never rfl (pi_range1 (by rfl) T.n_range (pa_cons (pv 1) pa_nil)) (pg_name (i := 5) sc__law_row.nd rfl (Or.inl rfl))
    (pss_cons (ps_set (i := 3) sc__law_row.nd rfl (Or.inl rfl) (pe_op op_mod (pe_callTy call_int1 (by rfl) T.n_int (by decide +kernel) (pa_cons (pe_op op_add (pe_op op_add (pe_op op_mul (pv 3) pe_int) (pe_op op_mul pe_int (pv 5))) pe_int) pa_nil)) pe_int))
    (pss_cons (ps_set (i := 6) sc__law_row.nd rfl (Or.inl rfl) (pe_op op_mod (pe_callTy call_int1 (by rfl) T.n_int (by decide +kernel) (pa_cons (pe_op op_add (pe_op op_add (pe_op op_mul (pv 3) pe_int) (pe_op op_mul pe_int (pv 5))) pe_int) pa_nil)) pe_int))
    (pss_cons (ps_expr (pe_bm PySem.F.plainAttrs_list PySem.F.slot_list_append PySem.F.type_list_append mt_append (pv 2) (pa_cons (pe_ifExp (pt_cmpR op_ge (pv 0) (pe_op op_pow pe_int pe_int) (nomark _)) (pe_op op_mod (pe_callTy call_int1 (by rfl) T.n_int (by decide +kernel) (pa_cons (pv 4) pa_nil)) pe_int) (pe_op op_mod (pe_callTy call_int1 (by rfl) T.n_int (by decide +kernel) (pa_cons (pe_op op_fdiv (pv 6) pe_int) pa_nil)) pe_int)) pa_nil)))
    (pss_one (ps_set (i := 4) sc__law_row.nd rfl (Or.inl rfl) (pe_op op_fdiv (pv 4) pe_int)))))))
    (pss_one (ps_ret (pv 2))))))), fun ds r h H0 H1 rt hrt => ?_⟩)
  obtain ⟨cell_70, many_71, rfl, ok, rfl⟩ := h
  refine run (o := (oL (oF D.int))) (m := m__law_row cell_70 many_71) ?_ ok hrt
  unfold m__law_row
  exact (xb_let (st_own (i := 2) (o := (oL (oF D.int))) ex_nil) fun row_72 => (xb_let (st_asg (i := 3) (e := D.int) (ee_mod (ee_intI (ee_var (d := D.int cell_70) rfl)) ee_int (by decide))) fun seed_73 => (xb_let (st_asg (i := 4) (e := D.int) (ee_sub (ee_var (d := D.int cell_70) rfl) (ee_powR ee_int ee_int ⟨by decide, by decide, by decide⟩ rfl))) fun rest_75 => (xb_a fun h_76 => (xb_cons (st_fold (L := (fun (s_77 : ((List Int) × Int × Int)) => [.val (D.int cell_70), .val (D.int many_71), .own ((oL (oF D.int)) s_77.1), .val (D.int s_77.2.1), .val (D.int s_77.2.2), .no, .no])) (fun x_78 => [(5, D.int x_78)]) (ei_r1 (ee_var (d := D.int many_71) rfl) h_76) (sub_cons (sub_cons (sub_cons (sub_cons (sub_cons (sub_no (sub_no sub_nil))))))) (fun x_78 => eg_name) (fun x_78 s_77 => (xb_let (st_asg (i := 3) (e := D.int) (ee_mod (ee_intI (ee_add (ee_add (ee_mul (ee_var (d := D.int s_77.2.1) rfl) ee_int (.inr ⟨by decide, by decide⟩)) (ee_mul ee_int (ee_var (d := D.int x_78) rfl) (.inl ⟨by decide, by decide⟩))) ee_int)) ee_int (by decide))) fun seed_79 => (xb_let (st_asg (i := 6) (e := D.int) (ee_mod (ee_intI (ee_add (ee_add (ee_mul (ee_var (d := D.int seed_79) rfl) ee_int (.inr ⟨by decide, by decide⟩)) (ee_mul ee_int (ee_var (d := D.int x_78) rfl) (.inl ⟨by decide, by decide⟩))) ee_int)) ee_int (by decide))) fun mixed_80 => (xb_cons (st_appT (o := (oF D.int)) rfl (ox_f (e := D.int) (ee_ifT (e := D.int) (et_test (ee_ge (ee_var (d := D.int cell_70) rfl) (ee_powR ee_int ee_int ⟨by decide, by decide, by decide⟩ rfl))) (ee_mod (ee_intI (ee_var (d := D.int s_77.2.2) rfl)) ee_int (by decide)) (ee_mod (ee_intI (ee_div (ee_var (d := D.int mixed_80) rfl) ee_int ⟨by decide, by decide⟩)) ee_int (by decide))))) fun row_82 => (xs_one (st_asg (i := 4) (e := D.int) (ee_div (ee_var (d := D.int s_77.2.2) rfl) ee_int ⟨by decide, by decide⟩)) (fun rest_83 => (sub_cons (sub_cons (sub_cons (sub_cons (sub_cons (sub_no (sub_no sub_nil)))))))))))))) fun s_84 => (xr_retM (em_var rfl)))))))

abbrev s__law_word : Stmt := top 9
abbrev N__law_word : List Str := ["number", "rest", "word", "k"]
theorem sc__law_word : FnScope N__law_word ["number"] (defScope s__law_word) := ⟨rfl, rfl, rfl, by decide +kernel, rfl, by decide +kernel, by decide +kernel⟩
theorem ok__law_word {P : Program} {w : World} {K : PySem.W.Frag} {mg : Str → Option Value} {base : Heap} {f : Addr} {fd : FuncData} (F : FunG K "_law_word" "_law_word" s__law_word f fd) (T : Txt mg) {A_Shift : Addr} (CT : ClT P w K mg base A_Shift) : FnOk P w K mg base CX0 1 f fd ["number"] (spX K (R1 m__law_word D.int (oF stx))) := by
  refine ok_defG F sc__law_word (fun ds r h => by obtain ⟨number_85, rfl, _⟩ := h; rfl) (fun cdv A outer s H E hr => ⟨_, (pss_cons (ps_set (i := 1) sc__law_word.nd rfl (Or.inl rfl) (pe_op op_add (pe_callTy call_int1 (by rfl) T.n_int (by decide +kernel) (pa_cons (pv 0) pa_nil)) pe_int))
    (pss_cons (ps_set (i := 2) sc__law_word.nd rfl (Or.inl rfl) pe_str)
    (pss_cons (ps_for PassesOwn.never rfl (pi_range1 (by rfl) T.n_range (pa_cons pe_int pa_nil)) (pg_name (i := 3) sc__law_word.nd rfl (Or.inl rfl))
    (pss_cons (ps_set (i := 2) sc__law_word.nd rfl (Or.inl rfl) (pe_op op_add_str (pe_ifExp (pt_cmpR op_gt (pv 1) pe_int (nomark _)) (pe_ix ix_str pe_str (pe_op op_mod (pe_callTy call_int1 (by rfl) T.n_int (by decide +kernel) (pa_cons (pe_op op_sub (pv 1) pe_int) pa_nil)) pe_int) (fun _ _ => rfl)) pe_str) (pv 2)))
    (pss_one (ps_set (i := 1) sc__law_word.nd rfl (Or.inl rfl) (pe_op op_fdiv (pe_op op_sub (pv 1) pe_int) pe_int)))))
    (pss_one (ps_ret (pv 2)))))), fun ds r h H0 H1 rt hrt => ?_⟩)
  obtain ⟨number_85, rfl, ok, rfl⟩ := h
  refine run (o := (oF stx)) (m := m__law_word number_85) ?_ ok hrt
  unfold m__law_word
  exact (xb_let (st_asg (i := 1) (e := D.int) (ee_add (ee_intI (ee_var (d := D.int number_85) rfl)) ee_int)) fun rest_86 => (xb_let (st_asg (i := 2) (e := stx) (ee_strX (l := ([] : List Nat)) (by decide +kernel))) fun word_87 => (xb_a fun h_88 => (xb_cons (st_fold (L := (fun (s_89 : (Int × (List Nat))) => [.val (D.int number_85), .val (D.int s_89.1), .val (stx s_89.2), .no])) (fun x_90 => [(3, D.int x_90)]) (ei_r1 ee_int h_88) (sub_cons (sub_cons (sub_cons (sub_no sub_nil)))) (fun x_90 => eg_name) (fun x_90 s_89 => (xb_b (xe_if (e := stx) (et_test (ee_gt (ee_var (d := D.int s_89.1) rfl) ee_int)) (xe_a fun h_91 => (xe_p (ee_ixX1 (ee_strX (l := ([97, 98, 99, 100, 101, 102, 103, 104, 105, 106, 107, 108, 109, 110, 111, 112, 113, 114, 115, 116, 117, 118, 119, 120, 121, 122] : List Nat)) (by decide +kernel)) (ee_mod (ee_intI (ee_sub (ee_var (d := D.int s_89.1) rfl) ee_int)) ee_int (by decide)) h_91))) (xe_p (ee_strX (l := ([] : List Nat)) (by decide +kernel)))) fun a_92 ha_92 => (xb_a fun h_93 => (xb_let (st_asg (i := 2) (e := stx) (ee_addX ha_92 (ee_var (d := stx s_89.2) rfl) h_93)) fun word_94 => (xs_one (st_asg (i := 1) (e := D.int) (ee_div (ee_sub (ee_var (d := D.int s_89.1) rfl) ee_int) ee_int ⟨by decide, by decide⟩)) (fun rest_95 => (sub_cons (sub_cons (sub_cons (sub_no sub_nil))))))))))) fun s_96 => (xr_ret (ox_f (ee_var (d := stx s_96.2) rfl)))))))

abbrev s__law_number : Stmt := top 11
abbrev N__law_number : List Str := ["numbers", "most", "sign", "kind", "value", "k"]
theorem sc__law_number : FnScope N__law_number ["numbers", "most"] (defScope s__law_number) := ⟨rfl, rfl, rfl, by decide +kernel, rfl, by decide +kernel, by decide +kernel⟩
theorem ok__law_number {P : Program} {w : World} {K : PySem.W.Frag} {mg : Str → Option Value} {base : Heap} {f : Addr} {fd : FuncData} (F : FunG K "_law_number" "_law_number" s__law_number f fd) (T : Txt mg) {A_Shift : Addr} (CT : ClT P w K mg base A_Shift) : FnOk P w K mg base CX0 1 f fd ["numbers", "most"] (spX K (R2 m__law_number (eL D.int) D.int (oF D.int))) := by
  refine ok_defG F sc__law_number (fun ds r h => by obtain ⟨numbers_97, most_98, rfl, _⟩ := h; rfl) (fun cdv A outer s H E hr => ⟨_, (pss_cons (ps_set (i := 2) sc__law_number.nd rfl (Or.inl rfl) (pe_op op_sub pe_int (pe_op op_mul pe_int (pe_op op_mod (pe_callTy call_int1 (by rfl) T.n_int (by decide +kernel) (pa_cons (pe_op op_fdiv (pe_ix (k_ix_list K) (pv 0) pe_int (fun _ _ => rfl)) pe_int) pa_nil)) pe_int))))
    (pss_cons (ps_set (i := 3) sc__law_number.nd rfl (Or.inl rfl) (pe_op op_mod (pe_callTy call_int1 (by rfl) T.n_int (by decide +kernel) (pa_cons (pe_ix (k_ix_list K) (pv 0) pe_int (fun _ _ => rfl)) pa_nil)) pe_int))
    (pss_cons (ps_if (PW.pt (pw_or (pt_cmpR op_eq (pv 1) pe_int (nomark _)) (pw_or1 (pt_cmpR op_eq (pv 3) pe_int (nomark _))))) (pss_one (ps_ret (pe_op op_sub (pe_op op_mod (pe_callTy call_int1 (by rfl) T.n_int (by decide +kernel) (pa_cons (pe_ix (k_ix_list K) (pv 0) pe_int (fun _ _ => rfl)) pa_nil)) pe_int) pe_int))) pss_nil)
    (pss_cons (ps_if (pt_cmpR op_eq (pv 3) pe_int (nomark _)) (pss_one (ps_ret (pe_op op_mulW (pv 2) (pe_callTy call_int1 (by rfl) T.n_int (by decide +kernel) (pa_cons (pe_ix (k_ix_list K) (pv 0) pe_int (fun _ _ => rfl)) pa_nil))))) pss_nil)
    (pss_cons (ps_set (i := 4) sc__law_number.nd rfl (Or.inl rfl) pe_int)
    (pss_cons (ps_for PassesOwn.never rfl (pi_range1 (by rfl) T.n_range (pa_cons pe_int pa_nil)) (pg_name (i := 5) sc__law_number.nd rfl (Or.inl rfl))
    (pss_one (ps_set (i := 4) sc__law_number.nd rfl (Or.inl rfl) (pe_op op_add (pe_op op_mul (pv 4) pe_int) (pe_callTy call_int1 (by rfl) T.n_int (by decide +kernel) (pa_cons (pe_ix (k_ix_list K) (pv 0) (pe_op op_add pe_int (pv 5)) (fun _ _ => rfl)) pa_nil))))))
    (pss_cons (ps_if (PW.pt (pw_or (pt_cmpR op_eq (pv 1) pe_int (nomark _)) (pw_or1 (pt_cmpR op_eq (pv 3) pe_int (nomark _))))) (pss_one (ps_set (i := 4) sc__law_number.nd rfl (Or.inl rfl) (pe_op op_mod (pe_callTy call_int1 (by rfl) T.n_int (by decide +kernel) (pa_cons (pv 4) pa_nil)) (pe_op op_pow pe_int pe_int)))) pss_nil)
    (pss_one (ps_ret (pe_op op_mulW (pv 2) (pv 4))))))))))), fun ds r h H0 H1 rt hrt => ?_⟩)
  obtain ⟨numbers_97, most_98, rfl, ok, rfl⟩ := h
  refine run (o := (oF D.int)) (m := m__law_number numbers_97 most_98) ?_ ok hrt
  unfold m__law_number
  exact (xb_a fun h_99 => (xb_let (st_asg (i := 2) (e := D.int) (ee_sub ee_int (ee_mul ee_int (ee_mod (ee_intI (ee_div (ee_ix (ee_var (d := (eL D.int) numbers_97) rfl) ee_int h_99) ee_int ⟨by decide, by decide⟩)) ee_int (by decide)) (.inl ⟨by decide, by decide⟩)))) fun sign_100 => (xb_a fun h_101 => (xb_let (st_asg (i := 3) (e := D.int) (ee_mod (ee_intI (ee_ix (ee_var (d := (eL D.int) numbers_97) rfl) ee_int h_101)) ee_int (by decide))) fun kind_102 => (xb_leave ni_r (et_or (et_test (ee_eqI (ee_var (d := D.int most_98) rfl) ee_int)) (fun _ => (et_test (ee_eqI (ee_var (d := D.int kind_102) rfl) ee_int)))) (xb_a fun h_103 => (xr_ret (ox_f (ee_sub (ee_mod (ee_intI (ee_ix (ee_var (d := (eL D.int) numbers_97) rfl) ee_int h_103)) ee_int (by decide)) ee_int)))) (xb_leave ni_r (et_test (ee_eqI (ee_var (d := D.int kind_102) rfl) ee_int)) (xb_a fun h_104 => (xb_a fun h_105 => (xr_ret (ox_f (ee_mulW (ee_var (d := D.int sign_100) rfl) (ee_intI (ee_ix (ee_var (d := (eL D.int) numbers_97) rfl) ee_int h_104)) h_105))))) (xb_let (st_asg (i := 4) (e := D.int) ee_int) fun value_106 => (xb_a fun h_107 => (xb_cons (st_fold (L := (fun (s_108 : (Int)) => [.val ((eL D.int) numbers_97), .val (D.int most_98), .val (D.int sign_100), .val (D.int kind_102), .val (D.int s_108), .no])) (fun x_109 => [(5, D.int x_109)]) (ei_r1 ee_int h_107) (sub_cons (sub_cons (sub_cons (sub_cons (sub_cons (sub_no sub_nil)))))) (fun x_109 => eg_name) (fun x_109 s_108 => (xb_a fun h_110 => (xs_one (st_asg (i := 4) (e := D.int) (ee_add (ee_mul (ee_var (d := D.int s_108) rfl) ee_int (.inr ⟨by decide, by decide⟩)) (ee_intI (ee_ix (ee_var (d := (eL D.int) numbers_97) rfl) (ee_add ee_int (ee_var (d := D.int x_109) rfl)) h_110)))) (fun value_111 => (sub_cons (sub_cons (sub_cons (sub_cons (sub_cons (sub_no sub_nil))))))))))) fun s_112 => (xb_cons (st_if (N := (fun (s_116 : (Int)) => [.val ((eL D.int) numbers_97), .val (D.int most_98), .val (D.int sign_100), .val (D.int kind_102), .val (D.int s_116), .no])) (et_or (et_test (ee_eqI (ee_var (d := D.int most_98) rfl) ee_int)) (fun _ => (et_test (ee_eqI (ee_var (d := D.int kind_102) rfl) ee_int)))) (xb_a fun h_114 => (xs_one (st_asg (i := 4) (e := D.int) (ee_mod (ee_intI (ee_var (d := D.int s_112) rfl)) (ee_powR ee_int ee_int ⟨by decide, by decide, by decide⟩ rfl) h_114)) (fun value_115 => (sub_cons (sub_cons (sub_cons (sub_cons (sub_cons (sub_no sub_nil))))))))) (xs_next (sub_cons (sub_cons (sub_cons (sub_cons (sub_cons (sub_no sub_nil)))))))) fun s_116 => (xb_a fun h_117 => (xr_ret (ox_f (ee_mulW (ee_var (d := D.int sign_100) rfl) (ee_var (d := D.int s_116) rfl) h_117))))))))))))))

abbrev s__law_count : Stmt := top 12
abbrev N__law_count : List Str := ["numbers", "kind", "value", "k"]
theorem sc__law_count : FnScope N__law_count ["numbers"] (defScope s__law_count) := ⟨rfl, rfl, rfl, by decide +kernel, rfl, by decide +kernel, by decide +kernel⟩
theorem ok__law_count {P : Program} {w : World} {K : PySem.W.Frag} {mg : Str → Option Value} {base : Heap} {f : Addr} {fd : FuncData} (F : FunG K "_law_count" "_law_count" s__law_count f fd) (T : Txt mg) {A_Shift : Addr} (CT : ClT P w K mg base A_Shift) : FnOk P w K mg base CX0 1 f fd ["numbers"] (spX K (R1 m__law_count (eL D.int) (oF D.int))) := by
  refine ok_defG F sc__law_count (fun ds r h => by obtain ⟨numbers_118, rfl, _⟩ := h; rfl) (fun cdv A outer s H E hr => ⟨_, (pss_cons (ps_set (i := 1) sc__law_count.nd rfl (Or.inl rfl) (pe_op op_mod (pe_callTy call_int1 (by rfl) T.n_int (by decide +kernel) (pa_cons (pe_ix (k_ix_list K) (pv 0) pe_int (fun _ _ => rfl)) pa_nil)) pe_int))
    (pss_cons (ps_if (pt_cmpR op_eq (pv 1) pe_int (nomark _)) (pss_one (ps_ret (pe_op op_mod (pe_callTy call_int1 (by rfl) T.n_int (by decide +kernel) (pa_cons (pe_ix (k_ix_list K) (pv 0) pe_int (fun _ _ => rfl)) pa_nil)) pe_int))) pss_nil)
    (pss_cons (ps_if (pt_cmpR op_eq (pv 1) pe_int (nomark _)) (pss_one (ps_ret (pe_callTy call_int1 (by rfl) T.n_int (by decide +kernel) (pa_cons (pe_ix (k_ix_list K) (pv 0) pe_int (fun _ _ => rfl)) pa_nil)))) pss_nil)
    (pss_cons (ps_set (i := 2) sc__law_count.nd rfl (Or.inl rfl) pe_int)
    (pss_cons (ps_for PassesOwn.never rfl (pi_range1 (by rfl) T.n_range (pa_cons pe_int pa_nil)) (pg_name (i := 3) sc__law_count.nd rfl (Or.inl rfl))
    (pss_one (ps_set (i := 2) sc__law_count.nd rfl (Or.inl rfl) (pe_op op_add (pe_op op_mul (pv 2) pe_int) (pe_callTy call_int1 (by rfl) T.n_int (by decide +kernel) (pa_cons (pe_ix (k_ix_list K) (pv 0) (pe_op op_add pe_int (pv 3)) (fun _ _ => rfl)) pa_nil))))))
    (pss_one (ps_ret (pe_op op_mod (pe_callTy call_int1 (by rfl) T.n_int (by decide +kernel) (pa_cons (pv 2) pa_nil)) (pe_op op_add (pe_op op_pow pe_int pe_int) pe_int))))))))), fun ds r h H0 H1 rt hrt => ?_⟩)
  obtain ⟨numbers_118, rfl, ok, rfl⟩ := h
  refine run (o := (oF D.int)) (m := m__law_count numbers_118) ?_ ok hrt
  unfold m__law_count
  exact (xb_a fun h_119 => (xb_let (st_asg (i := 1) (e := D.int) (ee_mod (ee_intI (ee_ix (ee_var (d := (eL D.int) numbers_118) rfl) ee_int h_119)) ee_int (by decide))) fun kind_120 => (xb_leave ni_r (et_test (ee_eqI (ee_var (d := D.int kind_120) rfl) ee_int)) (xb_a fun h_121 => (xr_ret (ox_f (ee_mod (ee_intI (ee_ix (ee_var (d := (eL D.int) numbers_118) rfl) ee_int h_121)) ee_int (by decide))))) (xb_leave ni_r (et_test (ee_eqI (ee_var (d := D.int kind_120) rfl) ee_int)) (xb_a fun h_122 => (xr_ret (ox_f (ee_intI (ee_ix (ee_var (d := (eL D.int) numbers_118) rfl) ee_int h_122))))) (xb_let (st_asg (i := 2) (e := D.int) ee_int) fun value_123 => (xb_a fun h_124 => (xb_cons (st_fold (L := (fun (s_125 : (Int)) => [.val ((eL D.int) numbers_118), .val (D.int kind_120), .val (D.int s_125), .no])) (fun x_126 => [(3, D.int x_126)]) (ei_r1 ee_int h_124) (sub_cons (sub_cons (sub_cons (sub_no sub_nil)))) (fun x_126 => eg_name) (fun x_126 s_125 => (xb_a fun h_127 => (xs_one (st_asg (i := 2) (e := D.int) (ee_add (ee_mul (ee_var (d := D.int s_125) rfl) ee_int (.inr ⟨by decide, by decide⟩)) (ee_intI (ee_ix (ee_var (d := (eL D.int) numbers_118) rfl) (ee_add ee_int (ee_var (d := D.int x_126) rfl)) h_127)))) (fun value_128 => (sub_cons (sub_cons (sub_cons (sub_no sub_nil))))))))) fun s_129 => (xb_a fun h_131 => (xr_ret (ox_f (ee_mod (ee_intI (ee_var (d := D.int s_129) rfl)) (ee_add (ee_powR ee_int ee_int ⟨by decide, by decide, by decide⟩ rfl) ee_int) h_131)))))))))))

abbrev s__law_pool : Stmt := top 13
abbrev N__law_pool : List Str := ["row", "first", "second", "pool", "label", "k"]
theorem sc__law_pool : FnScope N__law_pool ["row"] (defScope s__law_pool) := ⟨rfl, rfl, rfl, by decide +kernel, rfl, by decide +kernel, by decide +kernel⟩
theorem ok__law_pool {P : Program} {w : World} {K : PySem.W.Frag} {mg : Str → Option Value} {base : Heap} {f : Addr} {fd : FuncData} (F : FunG K "_law_pool" "_law_pool" s__law_pool f fd) (T : Txt mg) {A_Shift : Addr} (CT : ClT P w K mg base A_Shift) (C__law_word : Cal P w K mg base "_law_word" 1 ["number"] (spX K (R1 m__law_word D.int (oF stx)))) : FnOk P w K mg base CX0 2 f fd ["row"] (spX K (R1 m__law_pool (eL D.int) (oL (oF stx)))) := by
  refine ok_defG F sc__law_pool (fun ds r h => by obtain ⟨row_132, rfl, _⟩ := h; rfl) (fun cdv A outer s H E hr => ⟨_, (pss_cons (ps_set (i := 1) sc__law_pool.nd rfl (Or.inl rfl) (pe_cal (C__law_word.mono (by decide)) hr (by rfl) (pa_cons (pe_op op_add (pe_ix (k_ix_list K) (pv 0) pe_int (fun _ _ => rfl)) (pe_op op_mul pe_int (pe_op op_mod (pe_callTy call_int1 (by rfl) T.n_int (by decide +kernel) (pa_cons (pe_ix (k_ix_list K) (pv 0) pe_int (fun _ _ => rfl)) pa_nil)) pe_int))) pa_nil)))
    (pss_cons (ps_set (i := 2) sc__law_pool.nd rfl (Or.inl rfl) (pe_cal (C__law_word.mono (by decide)) hr (by rfl) (pa_cons (pe_ix (k_ix_list K) (pv 0) pe_int (fun _ _ => rfl)) pa_nil)))
    (pss_cons (ps_if (pt_cmpR op_eq (pe_op op_mod (pe_callTy call_int1 (by rfl) T.n_int (by decide +kernel) (pa_cons (pe_ix (k_ix_list K) (pv 0) pe_int (fun _ _ => rfl)) pa_nil)) pe_int) pe_int (nomark _)) (pss_one (ps_set (i := 2) sc__law_pool.nd rfl (Or.inl rfl) (pe_slice sl_str (pe_op op_add_str (pv 2) pe_str) po_none (po_some pe_int)))) pss_nil)
    (pss_cons (ps_set (i := 3) sc__law_pool.nd rfl (Or.inl rfl) (pe_lst pa_nil))
    (pss_cons (ps_for PassesOwn.never rfl (k_pi_list K (pe_lst (pa_cons (pv 1) (pa_cons (pe_op op_add_str (pe_op op_add_str (pv 1) pe_str) (pv 2)) (pa_cons (pv 2) (pa_cons (pe_op op_add_str (pe_op op_add_str (pv 2) pe_str) (pv 1)) (pa_cons (pe_op op_add_str (pv 1) pe_str) pa_nil))))))) (pg_name (i := 4) sc__law_pool.nd rfl (Or.inl rfl))
    (pss_one (ps_if (pt_cmpR (k_ninP K hr.units) (pv 4) (pv 3) (by with_unfolding_all rfl)) (pss_one (ps_expr (pe_bm PySem.F.plainAttrs_list PySem.F.slot_list_append PySem.F.type_list_append mt_append (pv 3) (pa_cons (pv 4) pa_nil)))) pss_nil)))
    (pss_cons (ps_if (pt_cmpR op_eq (pe_op op_mod (pe_callTy call_int1 (by rfl) T.n_int (by decide +kernel) (pa_cons (pe_op op_fdiv (pe_ix (k_ix_list K) (pv 0) pe_int (fun _ _ => rfl)) pe_int) pa_nil)) pe_int) pe_int (nomark _)) (pss_one (ps_for PassesOwn.never rfl (pi_range1 (by rfl) T.n_range (pa_cons pe_int pa_nil)) (pg_name (i := 5) sc__law_pool.nd rfl (Or.inl rfl))
    (pss_cons (ps_set (i := 4) sc__law_pool.nd rfl (Or.inl rfl) (pe_cal (C__law_word.mono (by decide)) hr (by rfl) (pa_cons (pe_op op_add (pe_callTy call_int1 (by rfl) T.n_int (by decide +kernel) (pa_cons (pe_ix (k_ix_list K) (pv 0) pe_int (fun _ _ => rfl)) pa_nil)) (pe_op op_mul pe_int (pv 5))) pa_nil)))
    (pss_one (ps_if (PW.pt (pw_and (pt_cmpR (k_ninP K hr.units) (pv 4) (pv 3) (by with_unfolding_all rfl)) (pw_and1 (pt_cmpR op_lt (pe_callB (k_call_len K) (by rfl) T.n_len (by decide +kernel) (pa_cons (pv 3) pa_nil)) pe_int (nomark _))))) (pss_one (ps_expr (pe_bm PySem.F.plainAttrs_list PySem.F.slot_list_append PySem.F.type_list_append mt_append (pv 3) (pa_cons (pv 4) pa_nil)))) pss_nil))))) pss_nil)
    (pss_one (ps_ret (pv 3))))))))), fun ds r h H0 H1 rt hrt => ?_⟩)
  obtain ⟨row_132, rfl, ok, rfl⟩ := h
  refine run (o := (oL (oF stx))) (m := m__law_pool row_132) ?_ ok hrt
  unfold m__law_pool
  exact (xb_a fun h_133 => (xb_a fun h_134 => (xb_bo (xo_call (o := (oF stx)) (ea_cons (ee_add (ee_ix (ee_var (d := (eL D.int) row_132) rfl) ee_int h_133) (ee_mul ee_int (ee_mod (ee_intI (ee_ix (ee_var (d := (eL D.int) row_132) rfl) ee_int h_134)) ee_int (by decide)) (.inl ⟨by decide, by decide⟩))) ea_nil) (fun ok => ⟨_, rfl, ok, rfl⟩)) fun a_135 ha_135 => (xb_let (st_asg (i := 1) (e := stx) ha_135.ef) fun first_136 => (xb_a fun h_137 => (xb_bo (xo_call (o := (oF stx)) (ea_cons (ee_ix (ee_var (d := (eL D.int) row_132) rfl) ee_int h_137) ea_nil) (fun ok => ⟨_, rfl, ok, rfl⟩)) fun a_138 ha_138 => (xb_let (st_asg (i := 2) (e := stx) ha_138.ef) fun second_139 => (xb_a fun h_141 => (xb_cons (st_if (N := (fun (s_145 : ((List Nat))) => [.val ((eL D.int) row_132), .val (stx first_136), .val (stx s_145), .no, .no, .no])) (et_test (ee_eqI (ee_mod (ee_intI (ee_ix (ee_var (d := (eL D.int) row_132) rfl) ee_int h_141)) ee_int (by decide)) ee_int)) (xb_a fun h_142 => (xb_a fun h_143 => (xs_one (st_asg (i := 2) (e := stx) (ee_slX (ee_addX (ee_var (d := stx second_139) rfl) (ee_strX (l := ([107, 108, 109, 110, 111, 112, 113, 114, 115, 116, 117, 118] : List Nat)) (by decide +kernel)) h_142) eo_none (eo_some ee_int) h_143)) (fun second_144 => (sub_cons (sub_cons (sub_cons (sub_no (sub_no (sub_no sub_nil)))))))))) (xs_next (sub_cons (sub_cons (sub_cons (sub_no (sub_no (sub_no sub_nil)))))))) fun s_145 => (xb_let (st_own (i := 3) (o := (oL (oF stx))) ex_nil) fun pool_146 => (xb_a fun h_147 => (xb_a fun h_148 => (xb_a fun h_149 => (xb_a fun h_150 => (xb_a fun h_151 => (xb_cons (st_fold (L := (fun (s_152 : ((List (List Nat)))) => [.val ((eL D.int) row_132), .val (stx first_136), .val (stx s_145), .own ((oL (oF stx)) s_152), .no, .no])) (fun x_153 => [(4, stx x_153)]) (ei_l ((ex_l (o := (oF stx)) (exs_a (ea_cons (ee_var (d := stx first_136) rfl) (ea_cons (ee_addX (ee_addX (ee_var (d := stx first_136) rfl) (ee_strX (l := ([46] : List Nat)) (by decide +kernel)) h_147) (ee_var (d := stx s_145) rfl) h_148) (ea_cons (ee_var (d := stx s_145) rfl) (ea_cons (ee_addX (ee_addX (ee_var (d := stx s_145) rfl) (ee_strX (l := ([46] : List Nat)) (by decide +kernel)) h_149) (ee_var (d := stx first_136) rfl) h_150) (ea_cons (ee_addX (ee_var (d := stx first_136) rfl) (ee_strX (l := ([97] : List Nat)) (by decide +kernel)) h_151) ea_nil)))))) rfl (Nat.le_of_ble_eq_true rfl)).ev (fz_l fz_f))) (sub_cons (sub_cons (sub_cons (sub_cons (sub_no (sub_no sub_nil)))))) (fun x_153 => eg_name) (fun x_153 s_152 => (xs_one (st_if (N := (fun (s_155 : ((List (List Nat)))) => [.val ((eL D.int) row_132), .val (stx first_136), .val (stx s_145), .own ((oL (oF stx)) s_155), .val (stx x_153), .no])) (et_test (ee_pkS 3 rfl (fz_l fz_f) (ee_ninL eqp_x (by decide) (ee_var (d := stx x_153) rfl) (ee_var (d := (eL stx) s_152) rfl)) trivial)) (xs_one (st_appT (o := (oF stx)) rfl (ox_f (e := stx) (ee_var (d := stx x_153) rfl))) (fun pool_154 => (sub_cons (sub_cons (sub_cons (sub_cons (sub_cons (sub_no sub_nil)))))))) (xs_next (sub_cons (sub_cons (sub_cons (sub_cons (sub_cons (sub_no sub_nil)))))))) (fun s_155 => (sub_cons (sub_cons (sub_cons (sub_cons (sub_no (sub_no sub_nil)))))))))) fun s_156 => (xb_a fun h_158 => (xb_cons (st_if (N := (fun (s_168 : ((List (List Nat)))) => [.val ((eL D.int) row_132), .val (stx first_136), .val (stx s_145), .own ((oL (oF stx)) s_168), .no, .no])) (et_test (ee_eqI (ee_mod (ee_intI (ee_div (ee_ix (ee_var (d := (eL D.int) row_132) rfl) ee_int h_158) ee_int ⟨by decide, by decide⟩)) ee_int (by decide)) ee_int)) (xb_a fun h_159 => (xs_one (st_fold (L := (fun (s_160 : ((List (List Nat)))) => [.val ((eL D.int) row_132), .val (stx first_136), .val (stx s_145), .own ((oL (oF stx)) s_160), .no, .no])) (fun x_161 => [(5, D.int x_161)]) (ei_r1 ee_int h_159) (sub_cons (sub_cons (sub_cons (sub_cons (sub_no (sub_no sub_nil)))))) (fun x_161 => eg_name) (fun x_161 s_160 => (xb_a fun h_162 => (xb_bo (xo_call (o := (oF stx)) (ea_cons (ee_add (ee_intI (ee_ix (ee_var (d := (eL D.int) row_132) rfl) ee_int h_162)) (ee_mul ee_int (ee_var (d := D.int x_161) rfl) (.inl ⟨by decide, by decide⟩))) ea_nil) (fun ok => ⟨_, rfl, ok, rfl⟩)) fun a_163 ha_163 => (xb_let (st_asg (i := 4) (e := stx) ha_163.ef) fun label_164 => (xs_one (st_if (N := (fun (s_166 : ((List (List Nat)))) => [.val ((eL D.int) row_132), .val (stx first_136), .val (stx s_145), .own ((oL (oF stx)) s_166), .val (stx label_164), .val (D.int x_161)])) (et_and (et_test (ee_pkS 3 rfl (fz_l fz_f) (ee_ninL eqp_x (by decide) (ee_var (d := stx label_164) rfl) (ee_var (d := (eL stx) s_160) rfl)) trivial)) (fun _ => (et_test (ee_lt (ee_pkS 3 rfl (fz_l fz_f) (ee_lenT' (ee_var (d := (eL stx) s_160) rfl)) trivial) ee_int)))) (xs_one (st_appT (o := (oF stx)) rfl (ox_f (e := stx) (ee_var (d := stx label_164) rfl))) (fun pool_165 => (sub_cons (sub_cons (sub_cons (sub_cons (sub_cons (sub_cons sub_nil)))))))) (xs_next (sub_cons (sub_cons (sub_cons (sub_cons (sub_cons (sub_cons sub_nil)))))))) (fun s_166 => (sub_cons (sub_cons (sub_cons (sub_cons (sub_no (sub_no sub_nil))))))))))))) (fun s_167 => (sub_cons (sub_cons (sub_cons (sub_cons (sub_no (sub_no sub_nil))))))))) (xs_next (sub_cons (sub_cons (sub_cons (sub_cons (sub_no (sub_no sub_nil)))))))) fun s_168 => (xr_retM (em_var rfl))))))))))))))))))))
end K01

namespace K01
open PySem PySem.Spec PyProof.Rows L2 Y
abbrev s__law_rows : Stmt := top 14
abbrev N__law_rows : List Str := ["row", "pool", "most", "own_rows", "key", "k", "at", "low", "high", "amount"]
theorem sc__law_rows : FnScope N__law_rows ["row", "pool", "most"] (defScope s__law_rows) := ⟨rfl, rfl, rfl, by decide +kernel, rfl, by decide +kernel, by decide +kernel⟩
theorem ok__law_rows {P : Program} {w : World} {K : PySem.W.Frag} {mg : Str → Option Value} {base : Heap} {f : Addr} {fd : FuncData} (F : FunG K "_law_rows" "_law_rows" s__law_rows f fd) (T : Txt mg) {A_Shift : Addr} (CT : ClT P w K mg base A_Shift) (C__law_number : Cal P w K mg base "_law_number" 1 ["numbers", "most"] (spX K (R2 m__law_number (eL D.int) D.int (oF D.int)))) : FnOk P w K mg base CX0 2 f fd ["row", "pool", "most"] (spX K (R3 m__law_rows (eL D.int) (eL stx) D.int (oL (oF (eT4 stx D.int D.int D.int))))) := by
  refine ok_defG F sc__law_rows (fun ds r h => by obtain ⟨row_169, pool_170, most_171, rfl, _⟩ := h; rfl) (fun cdv A outer s H E hr => ⟨_, (pss_cons (ps_set (i := 3) sc__law_rows.nd rfl (Or.inl rfl) (pe_lst pa_nil))
    (pss_cons (ps_if (pt_cmpR op_eq (pe_op op_mod (pe_callTy call_int1 (by rfl) T.n_int (by decide +kernel) (pa_cons (pe_ix (k_ix_list K) (pv 0) pe_int (fun _ _ => rfl)) pa_nil)) pe_int) pe_int (nomark _)) (pss_one (ps_set (i := 2) sc__law_rows.nd rfl (Or.inl rfl) pe_int)) pss_nil)
    (pss_cons (ps_for PassesOwn.never rfl (k_pi_list K (pe_callB (k_sortedRow K) (by rfl) T.n_sorted (by decide +kernel) (pa_cons (pe_lc (own := [("k", 5)]) rfl sc__law_rows.nd (pi_range1 (by rfl) T.n_range (pa_cons (pe_callB (k_call_len K) (by rfl) T.n_len (by decide +kernel) (pa_cons (pv 1) pa_nil)) pa_nil)) (blkOk_by (N := N__law_rows) (sc := defScope s__law_rows) (by decide +kernel)) (fun _ _ _ _ _ => (pg_name (i := 5) sc__law_rows.nd rfl (Or.inl rfl))) (fun _ _ _ _ _ => pts_nil) (fun _ _ _ _ _ => (pe_tup (pa_cons (pe_op op_fdiv (pe_callTy call_int1 (by rfl) T.n_int (by decide +kernel) (pa_cons (pe_ix (k_ix_list K) (pv 0) (pe_op op_add pe_int (pv 5)) (fun _ _ => rfl)) pa_nil)) pe_int) (pa_cons (pv 5) pa_nil))))) pa_nil))) (pg_name (i := 4) sc__law_rows.nd rfl (Or.inl rfl))
    (pss_cons (ps_set (i := 5) sc__law_rows.nd rfl (Or.inl rfl) (pe_ix (k_ix_tup K) (pv 4) pe_int (fun _ _ => rfl)))
    (pss_cons (ps_set (i := 6) sc__law_rows.nd rfl (Or.inl rfl) (pe_op op_add pe_int (pe_op op_mul pe_int (pe_op op_mod (pv 5) pe_int))))
    (pss_one (ps_if (pt_cmpR op_gt (pe_op op_mod (pe_callTy call_int1 (by rfl) T.n_int (by decide +kernel) (pa_cons (pe_ix (k_ix_list K) (pv 0) (pe_op op_add pe_int (pv 5)) (fun _ _ => rfl)) pa_nil)) pe_int) pe_int (nomark _)) (pss_cons (ps_set (i := 7) sc__law_rows.nd rfl (Or.inl rfl) (pe_op op_add (pe_cal (C__law_number.mono (by decide)) hr (by rfl) (pa_cons (pe_slice (k_sl_list K) (pv 0) (po_some (pv 6)) (po_some (pe_op op_add (pv 6) pe_int))) (pa_cons (pv 2) pa_nil))) (pe_op op_fdiv (pv 5) pe_int)))
    (pss_cons (ps_set (i := 8) sc__law_rows.nd rfl (Or.inl rfl) (pe_op op_add (pe_cal (C__law_number.mono (by decide)) hr (by rfl) (pa_cons (pe_slice (k_sl_list K) (pv 0) (po_some (pe_op op_add (pv 6) pe_int)) (po_some (pe_op op_add (pv 6) pe_int))) (pa_cons (pv 2) pa_nil))) (pe_op op_fdiv (pv 5) pe_int)))
    (pss_cons (ps_set (i := 9) sc__law_rows.nd rfl (Or.inl rfl) (pe_cal (C__law_number.mono (by decide)) hr (by rfl) (pa_cons (pe_slice (k_sl_list K) (pv 0) (po_some (pe_op op_add (pv 6) pe_int)) (po_some (pe_op op_add (pv 6) pe_int))) (pa_cons (pv 2) pa_nil))))
    (pss_one (ps_if (pt_cmpR op_eq (pe_op op_mod (pe_callTy call_int1 (by rfl) T.n_int (by decide +kernel) (pa_cons (pe_op op_fdiv (pe_ix (k_ix_list K) (pv 0) pe_int (fun _ _ => rfl)) pe_int) pa_nil)) pe_int) pe_int (nomark _)) (pss_one (ps_expr (pe_bm PySem.F.plainAttrs_list PySem.F.slot_list_append PySem.F.type_list_append mt_append (pv 3) (pa_cons (pe_tup (pa_cons (pe_ix (k_ix_list K) (pv 1) (pv 5) (fun _ _ => rfl)) (pa_cons (pe_callB (call_min2 rfl) (by rfl) T.n_min (by decide +kernel) (pa_cons (pv 7) (pa_cons (pv 8) pa_nil))) (pa_cons (pe_callB (call_max2 rfl) (by rfl) T.n_max (by decide +kernel) (pa_cons (pv 7) (pa_cons (pv 8) pa_nil))) (pa_cons (pv 9) pa_nil))))) pa_nil)))) (pss_one (ps_expr (pe_bm PySem.F.plainAttrs_list PySem.F.slot_list_append PySem.F.type_list_append mt_append (pv 3) (pa_cons (pe_tup (pa_cons (pe_ix (k_ix_list K) (pv 1) (pv 5) (fun _ _ => rfl)) (pa_cons (pv 7) (pa_cons (pv 8) (pa_cons (pv 9) pa_nil))))) pa_nil))))))))) pss_nil)))))
    (pss_one (ps_ret (pv 3)))))), fun ds r h H0 H1 rt hrt => ?_⟩)
  obtain ⟨row_169, pool_170, most_171, rfl, ok, rfl⟩ := h
  refine run (o := (oL (oF (eT4 stx D.int D.int D.int)))) (m := m__law_rows row_169 pool_170 most_171) ?_ ok hrt
  unfold m__law_rows
  exact (xb_let (st_own (i := 3) (o := (oL (oF (eT4 stx D.int D.int D.int)))) ex_nil) fun own_rows_172 => (xb_a fun h_174 => (xb_cons (st_if (N := (fun (s_176 : (Int)) => [.val ((eL D.int) row_169), .val ((eL stx) pool_170), .val (D.int s_176), .own ((oL (oF (eT4 stx D.int D.int D.int))) own_rows_172), .no, .no, .no, .no, .no, .no])) (et_test (ee_eqI (ee_mod (ee_intI (ee_ix (ee_var (d := (eL D.int) row_169) rfl) ee_int h_174)) ee_int (by decide)) ee_int)) (xs_one (st_asg (i := 2) (e := D.int) ee_int) (fun most_175 => (sub_cons (sub_cons (sub_cons (sub_cons (sub_no (sub_no (sub_no (sub_no (sub_no (sub_no sub_nil)))))))))))) (xs_next (sub_cons (sub_cons (sub_cons (sub_cons (sub_no (sub_no (sub_no (sub_no (sub_no (sub_no sub_nil)))))))))))) fun s_176 => (xb_a fun h_177 => (xb_bo (xo_map (fun x_178 => [(5, D.int x_178)]) (ei_r1 (ee_lenT' (ee_var (d := (eL stx) pool_170) rfl)) h_177) (fun x_178 => eg_name) (fun x_178 j hj => by simp at hj; first | subst hj; decide | (rcases hj with rfl <;> decide)) (fun x_178 => (xo_f (xe_a fun h_179 => (xe_p (ee_tup (ea_cons (ee_div (ee_intI (ee_ix (ee_var (d := (eL D.int) row_169) rfl) (ee_add ee_int (ee_var (d := D.int x_178) rfl)) h_179)) ee_int ⟨by decide, by decide⟩) (ea_cons (ee_var (d := D.int x_178) rfl) ea_nil)) (Nat.le_of_ble_eq_true rfl))))))) fun a_180 ha_180 => (xb_cons (st_fold (L := (fun (s_182 : ((List ((List Nat) × Int × Int × Int)))) => [.val ((eL D.int) row_169), .val ((eL stx) pool_170), .val (D.int s_176), .own ((oL (oF (eT4 stx D.int D.int D.int))) s_182), .no, .no, .no, .no, .no, .no])) (fun x_183 => [(4, (eT2 D.int D.int) x_183)]) (ei_l ((ex_sortRows (rowc_of (rowk_i rowk_i1)) (ha_180.ev (fz_l fz_f))).ev (fz_l fz_f))) (sub_cons (sub_cons (sub_cons (sub_cons (sub_no (sub_no (sub_no (sub_no (sub_no (sub_no sub_nil)))))))))) (fun x_183 => eg_name) (fun x_183 s_182 => (xb_let (st_asg (i := 5) (e := D.int) (ee_ixT (ds := [D.int x_183.1, D.int x_183.2]) (d := D.int x_183.2) (ee_var (d := (eT2 D.int D.int) x_183) rfl) ee_int rfl)) fun k_184 => (xb_let (st_asg (i := 6) (e := D.int) (ee_add ee_int (ee_mul ee_int (ee_mod (ee_var (d := D.int k_184) rfl) ee_int (by decide)) (.inl ⟨by decide, by decide⟩)))) fun at_185 => (xb_a fun h_186 => (xs_one (st_if (N := (fun (s_200 : ((List ((List Nat) × Int × Int × Int)))) => [.val ((eL D.int) row_169), .val ((eL stx) pool_170), .val (D.int s_176), .own ((oL (oF (eT4 stx D.int D.int D.int))) s_200), .val ((eT2 D.int D.int) x_183), .val (D.int k_184), .val (D.int at_185), .no, .no, .no])) (et_test (ee_gt (ee_mod (ee_intI (ee_ix (ee_var (d := (eL D.int) row_169) rfl) (ee_add ee_int (ee_var (d := D.int k_184) rfl)) h_186)) ee_int (by decide)) ee_int)) (xb_bo (xo_call (o := (oF D.int)) (ea_cons ((ex_sl (ee_var (d := (eL D.int) row_169) rfl) (eo_some (ee_var (d := D.int at_185) rfl)) (eo_some (ee_add (ee_var (d := D.int at_185) rfl) ee_int))).ev (fz_l fz_f)) (ea_cons (ee_var (d := D.int s_176) rfl) ea_nil)) (fun ok => ⟨_, _, rfl, ok, rfl⟩)) fun a_187 ha_187 => (xb_let (st_asg (i := 7) (e := D.int) (ee_add ha_187.ef (ee_div (ee_var (d := D.int k_184) rfl) ee_int ⟨by decide, by decide⟩))) fun low_188 => (xb_bo (xo_call (o := (oF D.int)) (ea_cons ((ex_sl (ee_var (d := (eL D.int) row_169) rfl) (eo_some (ee_add (ee_var (d := D.int at_185) rfl) ee_int)) (eo_some (ee_add (ee_var (d := D.int at_185) rfl) ee_int))).ev (fz_l fz_f)) (ea_cons (ee_var (d := D.int s_176) rfl) ea_nil)) (fun ok => ⟨_, _, rfl, ok, rfl⟩)) fun a_189 ha_189 => (xb_let (st_asg (i := 8) (e := D.int) (ee_add ha_189.ef (ee_div (ee_var (d := D.int k_184) rfl) ee_int ⟨by decide, by decide⟩))) fun high_190 => (xb_bo (xo_call (o := (oF D.int)) (ea_cons ((ex_sl (ee_var (d := (eL D.int) row_169) rfl) (eo_some (ee_add (ee_var (d := D.int at_185) rfl) ee_int)) (eo_some (ee_add (ee_var (d := D.int at_185) rfl) ee_int))).ev (fz_l fz_f)) (ea_cons (ee_var (d := D.int s_176) rfl) ea_nil)) (fun ok => ⟨_, _, rfl, ok, rfl⟩)) fun a_191 ha_191 => (xb_let (st_asg (i := 9) (e := D.int) ha_191.ef) fun amount_192 => (xb_a fun h_194 => (xs_one (st_if (N := (fun (s_199 : ((List ((List Nat) × Int × Int × Int)))) => [.val ((eL D.int) row_169), .val ((eL stx) pool_170), .val (D.int s_176), .own ((oL (oF (eT4 stx D.int D.int D.int))) s_199), .val ((eT2 D.int D.int) x_183), .val (D.int k_184), .val (D.int at_185), .val (D.int low_188), .val (D.int high_190), .val (D.int amount_192)])) (et_test (ee_eqI (ee_mod (ee_intI (ee_div (ee_ix (ee_var (d := (eL D.int) row_169) rfl) ee_int h_194) ee_int ⟨by decide, by decide⟩)) ee_int (by decide)) ee_int)) (xb_a fun h_195 => (xs_one (st_appT (o := (oF (eT4 stx D.int D.int D.int))) rfl (ox_f (e := (eT4 stx D.int D.int D.int)) (ee_tup (ea_cons (ee_ix (ee_var (d := (eL stx) pool_170) rfl) (ee_var (d := D.int k_184) rfl) h_195) (ea_cons (ee_min2 (ee_var (d := D.int low_188) rfl) (ee_var (d := D.int high_190) rfl)) (ea_cons (ee_max2 (ee_var (d := D.int low_188) rfl) (ee_var (d := D.int high_190) rfl)) (ea_cons (ee_var (d := D.int amount_192) rfl) ea_nil)))) (Nat.le_of_ble_eq_true rfl)))) (fun own_rows_196 => (sub_cons (sub_cons (sub_cons (sub_cons (sub_cons (sub_cons (sub_cons (sub_cons (sub_cons (sub_cons sub_nil))))))))))))) (xb_a fun h_197 => (xs_one (st_appT (o := (oF (eT4 stx D.int D.int D.int))) rfl (ox_f (e := (eT4 stx D.int D.int D.int)) (ee_tup (ea_cons (ee_ix (ee_var (d := (eL stx) pool_170) rfl) (ee_var (d := D.int k_184) rfl) h_197) (ea_cons (ee_var (d := D.int low_188) rfl) (ea_cons (ee_var (d := D.int high_190) rfl) (ea_cons (ee_var (d := D.int amount_192) rfl) ea_nil)))) (Nat.le_of_ble_eq_true rfl)))) (fun own_rows_198 => (sub_cons (sub_cons (sub_cons (sub_cons (sub_cons (sub_cons (sub_cons (sub_cons (sub_cons (sub_cons sub_nil)))))))))))))) (fun s_199 => (sub_cons (sub_cons (sub_cons (sub_cons (sub_cons (sub_cons (sub_cons (sub_no (sub_no (sub_no sub_nil))))))))))))))))))) (xs_next (sub_cons (sub_cons (sub_cons (sub_cons (sub_cons (sub_cons (sub_cons (sub_no (sub_no (sub_no sub_nil)))))))))))) (fun s_200 => (sub_cons (sub_cons (sub_cons (sub_cons (sub_no (sub_no (sub_no (sub_no (sub_no (sub_no sub_nil))))))))))))))))) fun s_201 => (xr_retM (em_var rfl))))))))

abbrev s__law_plus : Stmt := top 15
abbrev N__law_plus : List Str := ["first", "second", "result", "label", "low", "high", "amount", "behind", "least", "most", "known", "row"]
theorem sc__law_plus : FnScope N__law_plus ["first", "second"] (defScope s__law_plus) := ⟨rfl, rfl, rfl, by decide +kernel, rfl, by decide +kernel, by decide +kernel⟩
theorem ok__law_plus {P : Program} {w : World} {K : PySem.W.Frag} {mg : Str → Option Value} {base : Heap} {f : Addr} {fd : FuncData} (F : FunG K "_law_plus" "_law_plus" s__law_plus f fd) (T : Txt mg) {A_Shift : Addr} (CT : ClT P w K mg base A_Shift) : FnOk P w K mg base CX0 1 f fd ["first", "second"] (spX K (R2 m__law_plus (eL (eT4 stx D.int D.int D.int)) (eL (eT4 stx D.int D.int D.int)) (oL (oF (eT4 stx D.int D.int D.int))))) := by
  refine ok_defG F sc__law_plus (fun ds r h => by obtain ⟨first_202, second_203, rfl, _⟩ := h; rfl) (fun cdv A outer s H E hr => ⟨_, (pss_cons (ps_set (i := 2) sc__law_plus.nd rfl (Or.inl rfl) (pe_lst pa_nil))
    (pss_cons (ps_for PassesOwn.never rfl (k_pi_list K (pv 0)) (k_pg_tup K (n := 4) rfl (pgs_cons (pg_name (i := 3) sc__law_plus.nd rfl (Or.inr rfl)) (pgs_cons (pg_name (i := 4) sc__law_plus.nd rfl (Or.inl rfl)) (pgs_cons (pg_name (i := 5) sc__law_plus.nd rfl (Or.inl rfl)) (pgs_cons (pg_name (i := 6) sc__law_plus.nd rfl (Or.inl rfl)) pgs_nil)))))
    (pss_cons (ps_setLc (i := 7) (hy := rfl) (hyl := rfl) (hsw := sw_true rfl rfl rfl (by decide +kernel)) (own := [("row", 11)]) rfl sc__law_plus.nd (k_pi_list K (pv 1)) (blkOk_by (N := N__law_plus) (sc := defScope s__law_plus) (by decide +kernel)) (fun _ _ _ _ _ => (pg_name (i := 11) sc__law_plus.nd rfl (Or.inl rfl))) (fun _ _ _ _ _ => (pts_one (pt_cmpR op_eq (pe_ix (k_ix_tup K) (pv 11) pe_int (fun _ _ => rfl)) (pv 3) (nomark _)))) (fun _ _ _ _ _ => (pv 11)))
    (pss_one (ps_if (pt_cmpR op_eq (pe_callB (k_call_len K) (by rfl) T.n_len (by decide +kernel) (pa_cons (pv 7) pa_nil)) pe_int (nomark _)) (pss_one (ps_expr (pe_bm PySem.F.plainAttrs_list PySem.F.slot_list_append PySem.F.type_list_append mt_append (pv 2) (pa_cons (pe_tup (pa_cons (pv 3) (pa_cons (pv 4) (pa_cons (pv 5) (pa_cons (pv 6) pa_nil))))) pa_nil)))) (pss_cons (ps_set (i := 8) sc__law_plus.nd rfl (Or.inl rfl) (pe_callB (call_max2 rfl) (by rfl) T.n_max (by decide +kernel) (pa_cons (pv 4) (pa_cons (pe_op op_sub (pe_ix (k_ix_tup K) (pe_ix (k_ix_list K) (pv 7) pe_int (fun _ _ => rfl)) pe_int (fun _ _ => rfl)) (pv 6)) pa_nil))))
    (pss_cons (ps_set (i := 9) sc__law_plus.nd rfl (Or.inl rfl) (pe_callB (call_min2 rfl) (by rfl) T.n_min (by decide +kernel) (pa_cons (pv 5) (pa_cons (pe_op op_sub (pe_ix (k_ix_tup K) (pe_ix (k_ix_list K) (pv 7) pe_int (fun _ _ => rfl)) pe_int (fun _ _ => rfl)) (pv 6)) pa_nil))))
    (pss_one (ps_expr (pe_bm PySem.F.plainAttrs_list PySem.F.slot_list_append PySem.F.type_list_append mt_append (pv 2) (pa_cons (pe_tup (pa_cons (pv 3) (pa_cons (pv 8) (pa_cons (pv 9) (pa_cons (pe_op op_add (pv 6) (pe_ix (k_ix_tup K) (pe_ix (k_ix_list K) (pv 7) pe_int (fun _ _ => rfl)) pe_int (fun _ _ => rfl))) pa_nil))))) pa_nil))))))))))
    (pss_cons (ps_set (i := 10) sc__law_plus.nd rfl (Or.inr rfl) (pe_lc (own := [("row", 11)]) rfl sc__law_plus.nd (k_pi_list K (pv 0)) (blkOk_by (N := N__law_plus) (sc := defScope s__law_plus) (by decide +kernel)) (fun _ _ _ _ _ => (pg_name (i := 11) sc__law_plus.nd rfl (Or.inl rfl))) (fun _ _ _ _ _ => pts_nil) (fun _ _ _ _ _ => (pe_ix (k_ix_tup K) (pv 11) pe_int (fun _ _ => rfl)))))
    (pss_one (ps_ret (pe_op (k_catS K) (pv 2) (pe_lc (own := [("row", 11)]) rfl sc__law_plus.nd (k_pi_list K (pv 1)) (blkOk_by (N := N__law_plus) (sc := defScope s__law_plus) (by decide +kernel)) (fun _ _ _ _ _ => (pg_name (i := 11) sc__law_plus.nd rfl (Or.inl rfl))) (fun _ _ _ _ _ => (pts_one (pt_cmpR (k_ninP K hr.units) (pe_ix (k_ix_tup K) (pv 11) pe_int (fun _ _ => rfl)) (pv 10) (by with_unfolding_all rfl)))) (fun _ _ _ _ _ => (pv 11))))))))), fun ds r h H0 H1 rt hrt => ?_⟩)
  obtain ⟨first_202, second_203, rfl, ok, rfl⟩ := h
  refine run (o := (oL (oF (eT4 stx D.int D.int D.int)))) (m := m__law_plus first_202 second_203) ?_ ok hrt
  unfold m__law_plus
  exact (xb_let (st_own (i := 2) (o := (oL (oF (eT4 stx D.int D.int D.int)))) ex_nil) fun result_204 => (xb_cons (st_fold (L := (fun (s_205 : ((List ((List Nat) × Int × Int × Int)))) => [.val ((eL (eT4 stx D.int D.int D.int)) first_202), .val ((eL (eT4 stx D.int D.int D.int)) second_203), .own ((oL (oF (eT4 stx D.int D.int D.int))) s_205), .no, .no, .no, .no, .no, .no, .no, .no, .no])) (fun x_206 => ([(3, stx x_206.1)] ++ ([(4, D.int x_206.2.1)] ++ ([(5, D.int x_206.2.2.1)] ++ ([(6, D.int x_206.2.2.2)] ++ []))))) (ei_l (ee_var (d := (eL (eT4 stx D.int D.int D.int)) first_202) rfl)) (sub_cons (sub_cons (sub_cons (sub_no (sub_no (sub_no (sub_no (sub_no (sub_no (sub_no (sub_no (sub_no sub_nil)))))))))))) (fun x_206 => (eg_tup (egs_consG eg_name (egs_consG eg_name (egs_consG eg_name (egs_consG eg_name egs_nil)))) rfl)) (fun x_206 s_205 => (xb_bo (xo_comp (fun x_207 => [(11, (eT4 stx D.int D.int D.int) x_207)]) (ei_l (ee_var (d := (eL (eT4 stx D.int D.int D.int)) second_203) rfl)) (fun x_207 => eg_name) (fun x_207 j hj => by simp at hj; first | subst hj; decide | (rcases hj with rfl <;> decide)) (fun x_207 => (xt_p (et_test (ee_eqX (ee_ixT (ds := [stx x_207.1, D.int x_207.2.1, D.int x_207.2.2.1, D.int x_207.2.2.2]) (d := stx x_207.1) (ee_var (d := (eT4 stx D.int D.int D.int) x_207) rfl) ee_int rfl) (ee_var (d := stx x_206.1) rfl))))) (fun x_207 => (xo_f (xe_p (ee_var (d := (eT4 stx D.int D.int D.int) x_207) rfl))))) fun a_208 ha_208 => (xb_let (st_asg (i := 7) (e := (eL (eT4 stx D.int D.int D.int))) (ha_208.ev (fz_l fz_f))) fun behind_209 => (xs_one (st_if (N := (fun (s_217 : ((List ((List Nat) × Int × Int × Int)))) => [.val ((eL (eT4 stx D.int D.int D.int)) first_202), .val ((eL (eT4 stx D.int D.int D.int)) second_203), .own ((oL (oF (eT4 stx D.int D.int D.int))) s_217), .val (stx x_206.1), .val (D.int x_206.2.1), .val (D.int x_206.2.2.1), .val (D.int x_206.2.2.2), .val ((eL (eT4 stx D.int D.int D.int)) behind_209), .no, .no, .no, .no])) (et_test (ee_eqI (ee_lenT' (ee_var (d := (eL (eT4 stx D.int D.int D.int)) behind_209) rfl)) ee_int)) (xs_one (st_appT (o := (oF (eT4 stx D.int D.int D.int))) rfl (ox_f (e := (eT4 stx D.int D.int D.int)) (ee_tup (ea_cons (ee_var (d := stx x_206.1) rfl) (ea_cons (ee_var (d := D.int x_206.2.1) rfl) (ea_cons (ee_var (d := D.int x_206.2.2.1) rfl) (ea_cons (ee_var (d := D.int x_206.2.2.2) rfl) ea_nil)))) (Nat.le_of_ble_eq_true rfl)))) (fun result_210 => (sub_cons (sub_cons (sub_cons (sub_cons (sub_cons (sub_cons (sub_cons (sub_cons (sub_no (sub_no (sub_no (sub_no sub_nil)))))))))))))) (xb_a fun h_211 => (xb_let (st_asg (i := 8) (e := D.int) (ee_max2 (ee_var (d := D.int x_206.2.1) rfl) (ee_sub (ee_ixT (ds := [stx (ix behind_209 (0 : Int)).1, D.int (ix behind_209 (0 : Int)).2.1, D.int (ix behind_209 (0 : Int)).2.2.1, D.int (ix behind_209 (0 : Int)).2.2.2]) (d := D.int (ix behind_209 (0 : Int)).2.1) (ee_ix (ee_var (d := (eL (eT4 stx D.int D.int D.int)) behind_209) rfl) ee_int h_211) ee_int rfl) (ee_var (d := D.int x_206.2.2.2) rfl)))) fun least_212 => (xb_a fun h_213 => (xb_let (st_asg (i := 9) (e := D.int) (ee_min2 (ee_var (d := D.int x_206.2.2.1) rfl) (ee_sub (ee_ixT (ds := [stx (ix behind_209 (0 : Int)).1, D.int (ix behind_209 (0 : Int)).2.1, D.int (ix behind_209 (0 : Int)).2.2.1, D.int (ix behind_209 (0 : Int)).2.2.2]) (d := D.int (ix behind_209 (0 : Int)).2.2.1) (ee_ix (ee_var (d := (eL (eT4 stx D.int D.int D.int)) behind_209) rfl) ee_int h_213) ee_int rfl) (ee_var (d := D.int x_206.2.2.2) rfl)))) fun most_214 => (xb_a fun h_215 => (xs_one (st_appT (o := (oF (eT4 stx D.int D.int D.int))) rfl (ox_f (e := (eT4 stx D.int D.int D.int)) (ee_tup (ea_cons (ee_var (d := stx x_206.1) rfl) (ea_cons (ee_var (d := D.int least_212) rfl) (ea_cons (ee_var (d := D.int most_214) rfl) (ea_cons (ee_add (ee_var (d := D.int x_206.2.2.2) rfl) (ee_ixT (ds := [stx (ix behind_209 (0 : Int)).1, D.int (ix behind_209 (0 : Int)).2.1, D.int (ix behind_209 (0 : Int)).2.2.1, D.int (ix behind_209 (0 : Int)).2.2.2]) (d := D.int (ix behind_209 (0 : Int)).2.2.2) (ee_ix (ee_var (d := (eL (eT4 stx D.int D.int D.int)) behind_209) rfl) ee_int h_215) ee_int rfl)) ea_nil)))) (Nat.le_of_ble_eq_true rfl)))) (fun result_216 => (sub_cons (sub_cons (sub_cons (sub_cons (sub_cons (sub_cons (sub_cons (sub_cons (sub_no (sub_no (sub_no (sub_no sub_nil)))))))))))))))))))) (fun s_217 => (sub_cons (sub_cons (sub_cons (sub_no (sub_no (sub_no (sub_no (sub_no (sub_no (sub_no (sub_no (sub_no sub_nil)))))))))))))))))) fun s_218 => (xb_bo (xo_map (fun x_219 => [(11, (eT4 stx D.int D.int D.int) x_219)]) (ei_l (ee_var (d := (eL (eT4 stx D.int D.int D.int)) first_202) rfl)) (fun x_219 => eg_name) (fun x_219 j hj => by simp at hj; first | subst hj; decide | (rcases hj with rfl <;> decide)) (fun x_219 => (xo_f (xe_p (ee_ixT (ds := [stx x_219.1, D.int x_219.2.1, D.int x_219.2.2.1, D.int x_219.2.2.2]) (d := stx x_219.1) (ee_var (d := (eT4 stx D.int D.int D.int) x_219) rfl) ee_int rfl))))) fun a_220 ha_220 => (xb_let (st_asg (i := 10) (e := (eL stx)) (ha_220.ev (fz_l fz_f))) fun known_221 => (xb_freeze 2 rfl ((fz_l fz_f) s_218) (xb_bo (xo_comp (fun x_222 => [(11, (eT4 stx D.int D.int D.int) x_222)]) (ei_l (ee_var (d := (eL (eT4 stx D.int D.int D.int)) second_203) rfl)) (fun x_222 => eg_name) (fun x_222 j hj => by simp at hj; first | subst hj; decide | (rcases hj with rfl <;> decide)) (fun x_222 => (xt_p (et_test (ee_ninL eqp_x (by decide) (ee_ixT (ds := [stx x_222.1, D.int x_222.2.1, D.int x_222.2.2.1, D.int x_222.2.2.2]) (d := stx x_222.1) (ee_var (d := (eT4 stx D.int D.int D.int) x_222) rfl) ee_int rfl) (ee_var (d := (eL stx) known_221) rfl))))) (fun x_222 => (xo_f (xe_p (ee_var (d := (eT4 stx D.int D.int D.int) x_222) rfl))))) fun a_223 ha_223 => (xb_a fun h_224 => (xr_ret (ex_cat (ee_var (d := (eL (eT4 stx D.int D.int D.int)) s_218) rfl) (ha_223.ev (fz_l fz_f)) h_224)))))))))

abbrev s__law_times : Stmt := top 16
abbrev N__law_times : List Str := ["own_rows", "times", "result", "label", "low", "high", "amount", "rest"]
theorem sc__law_times : FnScope N__law_times ["own_rows", "times"] (defScope s__law_times) := ⟨rfl, rfl, rfl, by decide +kernel, rfl, by decide +kernel, by decide +kernel⟩
theorem ok__law_times {P : Program} {w : World} {K : PySem.W.Frag} {mg : Str → Option Value} {base : Heap} {f : Addr} {fd : FuncData} (F : FunG K "_law_times" "_law_times" s__law_times f fd) (T : Txt mg) {A_Shift : Addr} (CT : ClT P w K mg base A_Shift) : FnOk P w K mg base CX0 1 f fd ["own_rows", "times"] (spX K (R2 m__law_times (eL (eT4 stx D.int D.int D.int)) D.int (oL (oF (eT4 stx D.int D.int D.int))))) := by
  refine ok_defG F sc__law_times (fun ds r h => by obtain ⟨own_rows_225, times_226, rfl, _⟩ := h; rfl) (fun cdv A outer s H E hr => ⟨_, (pss_cons (ps_if (pt_cmpR op_eq (pv 1) pe_int (nomark _)) (pss_one (ps_ret (pe_lst pa_nil))) pss_nil)
    (pss_cons (ps_set (i := 2) sc__law_times.nd rfl (Or.inl rfl) (pe_lst pa_nil))
    (pss_cons (ps_for PassesOwn.never rfl (k_pi_list K (pv 0)) (k_pg_tup K (n := 4) rfl (pgs_cons (pg_name (i := 3) sc__law_times.nd rfl (Or.inl rfl)) (pgs_cons (pg_name (i := 4) sc__law_times.nd rfl (Or.inl rfl)) (pgs_cons (pg_name (i := 5) sc__law_times.nd rfl (Or.inl rfl)) (pgs_cons (pg_name (i := 6) sc__law_times.nd rfl (Or.inl rfl)) pgs_nil)))))
    (pss_cons (ps_set (i := 7) sc__law_times.nd rfl (Or.inl rfl) (pe_op op_mulW (pe_op op_sub (pv 1) pe_int) (pv 6)))
    (pss_one (ps_expr (pe_bm PySem.F.plainAttrs_list PySem.F.slot_list_append PySem.F.type_list_append mt_append (pv 2) (pa_cons (pe_tup (pa_cons (pv 3) (pa_cons (pe_op op_sub (pv 4) (pe_callB (call_min2 rfl) (by rfl) T.n_min (by decide +kernel) (pa_cons pe_int (pa_cons (pv 7) pa_nil)))) (pa_cons (pe_op op_sub (pv 5) (pe_callB (call_max2 rfl) (by rfl) T.n_max (by decide +kernel) (pa_cons pe_int (pa_cons (pv 7) pa_nil)))) (pa_cons (pe_op op_mulW (pv 1) (pv 6)) pa_nil))))) pa_nil))))))
    (pss_one (ps_ret (pv 2)))))), fun ds r h H0 H1 rt hrt => ?_⟩)
  obtain ⟨own_rows_225, times_226, rfl, ok, rfl⟩ := h
  refine run (o := (oL (oF (eT4 stx D.int D.int D.int)))) (m := m__law_times own_rows_225 times_226) ?_ ok hrt
  unfold m__law_times
  exact (xb_leave ni_r (et_test (ee_eqI (ee_var (d := D.int times_226) rfl) ee_int)) (xr_ret ex_nil) (xb_let (st_own (i := 2) (o := (oL (oF (eT4 stx D.int D.int D.int)))) ex_nil) fun result_227 => (xb_cons (st_fold (L := (fun (s_228 : ((List ((List Nat) × Int × Int × Int)))) => [.val ((eL (eT4 stx D.int D.int D.int)) own_rows_225), .val (D.int times_226), .own ((oL (oF (eT4 stx D.int D.int D.int))) s_228), .no, .no, .no, .no, .no])) (fun x_229 => ([(3, stx x_229.1)] ++ ([(4, D.int x_229.2.1)] ++ ([(5, D.int x_229.2.2.1)] ++ ([(6, D.int x_229.2.2.2)] ++ []))))) (ei_l (ee_var (d := (eL (eT4 stx D.int D.int D.int)) own_rows_225) rfl)) (sub_cons (sub_cons (sub_cons (sub_no (sub_no (sub_no (sub_no (sub_no sub_nil)))))))) (fun x_229 => (eg_tup (egs_consG eg_name (egs_consG eg_name (egs_consG eg_name (egs_consG eg_name egs_nil)))) rfl)) (fun x_229 s_228 => (xb_a fun h_230 => (xb_let (st_asg (i := 7) (e := D.int) (ee_mulW (ee_sub (ee_var (d := D.int times_226) rfl) ee_int) (ee_var (d := D.int x_229.2.2.2) rfl) h_230)) fun rest_231 => (xb_a fun h_232 => (xs_one (st_appT (o := (oF (eT4 stx D.int D.int D.int))) rfl (ox_f (e := (eT4 stx D.int D.int D.int)) (ee_tup (ea_cons (ee_var (d := stx x_229.1) rfl) (ea_cons (ee_sub (ee_var (d := D.int x_229.2.1) rfl) (ee_min2 ee_int (ee_var (d := D.int rest_231) rfl))) (ea_cons (ee_sub (ee_var (d := D.int x_229.2.2.1) rfl) (ee_max2 ee_int (ee_var (d := D.int rest_231) rfl))) (ea_cons (ee_mulW (ee_var (d := D.int times_226) rfl) (ee_var (d := D.int x_229.2.2.2) rfl) h_232) ea_nil)))) (Nat.le_of_ble_eq_true rfl)))) (fun result_233 => (sub_cons (sub_cons (sub_cons (sub_no (sub_no (sub_no (sub_no (sub_no sub_nil))))))))))))))) fun s_234 => (xr_retM (em_var rfl)))))

abbrev s__law_back : Stmt := top 17
abbrev N__law_back : List Str := ["own_rows", "label", "low", "high", "amount"]
theorem sc__law_back : FnScope N__law_back ["own_rows"] (defScope s__law_back) := ⟨rfl, rfl, rfl, by decide +kernel, rfl, by decide +kernel, by decide +kernel⟩
theorem ok__law_back {P : Program} {w : World} {K : PySem.W.Frag} {mg : Str → Option Value} {base : Heap} {f : Addr} {fd : FuncData} (F : FunG K "_law_back" "_law_back" s__law_back f fd) (T : Txt mg) {A_Shift : Addr} (CT : ClT P w K mg base A_Shift) : FnOk P w K mg base CX0 1 f fd ["own_rows"] (spX K (R1 m__law_back (eL (eT4 stx D.int D.int D.int)) (oL (oF (eT4 stx D.int D.int D.int))))) := by
  refine ok_defG F sc__law_back (fun ds r h => by obtain ⟨own_rows_235, rfl, _⟩ := h; rfl) (fun cdv A outer s H E hr => ⟨_, (pss_one (ps_ret (pe_lc (own := [("label", 1), ("low", 2), ("high", 3), ("amount", 4)]) rfl sc__law_back.nd (k_pi_list K (pv 0)) (blkOk_by (N := N__law_back) (sc := defScope s__law_back) (by decide +kernel)) (fun _ _ _ _ _ => (k_pg_tup K (n := 4) rfl (pgs_cons (pg_name (i := 1) sc__law_back.nd rfl (Or.inl rfl)) (pgs_cons (pg_name (i := 2) sc__law_back.nd rfl (Or.inl rfl)) (pgs_cons (pg_name (i := 3) sc__law_back.nd rfl (Or.inl rfl)) (pgs_cons (pg_name (i := 4) sc__law_back.nd rfl (Or.inl rfl)) pgs_nil)))))) (fun _ _ _ _ _ => pts_nil) (fun _ _ _ _ _ => (pe_tup (pa_cons (pv 1) (pa_cons (pe_op op_add (pv 2) (pv 4)) (pa_cons (pe_op op_add (pv 3) (pv 4)) (pa_cons (pe_op op_sub pe_int (pv 4)) pa_nil))))))))), fun ds r h H0 H1 rt hrt => ?_⟩)
  obtain ⟨own_rows_235, rfl, ok, rfl⟩ := h
  refine run (o := (oL (oF (eT4 stx D.int D.int D.int)))) (m := m__law_back own_rows_235) ?_ ok hrt
  unfold m__law_back
  exact (xb_bo (xo_map (fun x_236 => ([(1, stx x_236.1)] ++ ([(2, D.int x_236.2.1)] ++ ([(3, D.int x_236.2.2.1)] ++ ([(4, D.int x_236.2.2.2)] ++ []))))) (ei_l (ee_var (d := (eL (eT4 stx D.int D.int D.int)) own_rows_235) rfl)) (fun x_236 => (eg_tup (egs_consG eg_name (egs_consG eg_name (egs_consG eg_name (egs_consG eg_name egs_nil)))) rfl)) (fun x_236 j hj => by simp at hj; first | subst hj; decide | (rcases hj with rfl | rfl | rfl | rfl <;> decide)) (fun x_236 => (xo_f (xe_p (ee_tup (ea_cons (ee_var (d := stx x_236.1) rfl) (ea_cons (ee_add (ee_var (d := D.int x_236.2.1) rfl) (ee_var (d := D.int x_236.2.2.2) rfl)) (ea_cons (ee_add (ee_var (d := D.int x_236.2.2.1) rfl) (ee_var (d := D.int x_236.2.2.2) rfl)) (ea_cons (ee_sub ee_int (ee_var (d := D.int x_236.2.2.2) rfl)) ea_nil)))) (Nat.le_of_ble_eq_true rfl)))))) fun a_237 ha_237 => (xr_ret ha_237))
end K01

namespace K01
open PySem PySem.Spec PyProof.Rows L2 Y
abbrev s__law_near : Stmt := top 18
abbrev N__law_near : List Str := ["own_rows", "result", "k", "label", "low", "high", "amount", "place"]
theorem sc__law_near : FnScope N__law_near ["own_rows"] (defScope s__law_near) := ⟨rfl, rfl, rfl, by decide +kernel, rfl, by decide +kernel, by decide +kernel⟩
theorem ok__law_near {P : Program} {w : World} {K : PySem.W.Frag} {mg : Str → Option Value} {base : Heap} {f : Addr} {fd : FuncData} (F : FunG K "_law_near" "_law_near" s__law_near f fd) (T : Txt mg) {A_Shift : Addr} (CT : ClT P w K mg base A_Shift) : FnOk P w K mg base CX0 1 f fd ["own_rows"] (spX K (R1 m__law_near (eL (eT4 stx D.int D.int D.int)) (oF (eL (eL (eT4 stx D.int D.int D.int)))))) := by
  refine ok_defG F sc__law_near (fun ds r h => by obtain ⟨own_rows_238, rfl, _⟩ := h; rfl) (fun cdv A outer s H E hr => ⟨_, (pss_cons (ps_set (i := 1) sc__law_near.nd rfl (Or.inl rfl) (pe_lst (pa_cons (pe_op (k_catS K) (pv 0) (pe_lst (pa_cons (pe_tup (pa_cons pe_str (pa_cons pe_int (pa_cons pe_int (pa_cons pe_int pa_nil))))) pa_nil))) pa_nil)))
    (pss_cons (ps_for PassesOwn.never rfl (k_pi_list K (pe_lc (own := [("place", 7)]) rfl sc__law_near.nd (pi_range1 (by rfl) T.n_range (pa_cons (pe_callB (k_call_len K) (by rfl) T.n_len (by decide +kernel) (pa_cons (pv 0) pa_nil)) pa_nil)) (blkOk_by (N := N__law_near) (sc := defScope s__law_near) (by decide +kernel)) (fun _ _ _ _ _ => (pg_name (i := 7) sc__law_near.nd rfl (Or.inl rfl))) (fun _ _ _ _ _ => (pts_one (PW.pt (pw_or (pt_cmpR op_lt (pv 7) pe_int (nomark _)) (pw_or1 (pt_cmpR op_eq (pv 7) (pe_op op_sub (pe_callB (k_call_len K) (by rfl) T.n_len (by decide +kernel) (pa_cons (pv 0) pa_nil)) pe_int) (nomark _))))))) (fun _ _ _ _ _ => (pv 7)))) (pg_name (i := 2) sc__law_near.nd rfl (Or.inl rfl))
    (pss_cons (ps_asg (pe_ix (k_ix_list K) (pv 0) (pv 2) (fun _ _ => rfl)) (k_pg_tup K (n := 4) rfl (pgs_cons (pg_name (i := 3) sc__law_near.nd rfl (Or.inl rfl)) (pgs_cons (pg_name (i := 4) sc__law_near.nd rfl (Or.inl rfl)) (pgs_cons (pg_name (i := 5) sc__law_near.nd rfl (Or.inl rfl)) (pgs_cons (pg_name (i := 6) sc__law_near.nd rfl (Or.inl rfl)) pgs_nil))))))
    (pss_cons (ps_expr (pe_bm PySem.F.plainAttrs_list PySem.F.slot_list_append PySem.F.type_list_append mt_append (pv 1) (pa_cons (pe_op (k_catS K) (pe_slice (k_sl_list K) (pv 0) po_none (po_some (pv 2))) (pe_slice (k_sl_list K) (pv 0) (po_some (pe_op op_add (pv 2) pe_int)) po_none)) pa_nil)))
    (pss_cons (ps_expr (pe_bm PySem.F.plainAttrs_list PySem.F.slot_list_append PySem.F.type_list_append mt_append (pv 1) (pa_cons (pe_op (k_catS K) (pe_op (k_catS K) (pe_slice (k_sl_list K) (pv 0) po_none (po_some (pv 2))) (pe_lst (pa_cons (pe_tup (pa_cons pe_str (pa_cons (pv 4) (pa_cons (pv 5) (pa_cons (pv 6) pa_nil))))) pa_nil))) (pe_slice (k_sl_list K) (pv 0) (po_some (pe_op op_add (pv 2) pe_int)) po_none)) pa_nil)))
    (pss_cons (ps_expr (pe_bm PySem.F.plainAttrs_list PySem.F.slot_list_append PySem.F.type_list_append mt_append (pv 1) (pa_cons (pe_op (k_catS K) (pe_op (k_catS K) (pe_slice (k_sl_list K) (pv 0) po_none (po_some (pv 2))) (pe_lst (pa_cons (pe_tup (pa_cons (pv 3) (pa_cons (pe_op op_add (pv 4) pe_int) (pa_cons (pv 5) (pa_cons (pv 6) pa_nil))))) pa_nil))) (pe_slice (k_sl_list K) (pv 0) (po_some (pe_op op_add (pv 2) pe_int)) po_none)) pa_nil)))
    (pss_cons (ps_expr (pe_bm PySem.F.plainAttrs_list PySem.F.slot_list_append PySem.F.type_list_append mt_append (pv 1) (pa_cons (pe_op (k_catS K) (pe_op (k_catS K) (pe_slice (k_sl_list K) (pv 0) po_none (po_some (pv 2))) (pe_lst (pa_cons (pe_tup (pa_cons (pv 3) (pa_cons (pv 4) (pa_cons (pe_op op_add (pv 5) pe_int) (pa_cons (pv 6) pa_nil))))) pa_nil))) (pe_slice (k_sl_list K) (pv 0) (po_some (pe_op op_add (pv 2) pe_int)) po_none)) pa_nil)))
    (pss_one (ps_expr (pe_bm PySem.F.plainAttrs_list PySem.F.slot_list_append PySem.F.type_list_append mt_append (pv 1) (pa_cons (pe_op (k_catS K) (pe_op (k_catS K) (pe_slice (k_sl_list K) (pv 0) po_none (po_some (pv 2))) (pe_lst (pa_cons (pe_tup (pa_cons (pv 3) (pa_cons (pv 4) (pa_cons (pv 5) (pa_cons (pe_op op_add (pv 6) pe_int) pa_nil))))) pa_nil))) (pe_slice (k_sl_list K) (pv 0) (po_some (pe_op op_add (pv 2) pe_int)) po_none)) pa_nil))))))))))
    (pss_one (ps_ret (pv 1))))), fun ds r h H0 H1 rt hrt => ?_⟩)
  obtain ⟨own_rows_238, rfl, ok, rfl⟩ := h
  refine run (o := (oF (eL (eL (eT4 stx D.int D.int D.int))))) (m := m__law_near own_rows_238) ?_ ok hrt
  unfold m__law_near
  exact (xb_a fun h_239 => (xb_let (st_own (i := 1) (o := (oL (oF (eL (eT4 stx D.int D.int D.int))))) (ex_l (o := (oF (eL (eT4 stx D.int D.int D.int)))) (exs_a (ea_cons ((ex_cat (ee_var (d := (eL (eT4 stx D.int D.int D.int)) own_rows_238) rfl) ((ex_l (o := (oF (eT4 stx D.int D.int D.int))) (exs_a (ea_cons (ee_tup (ea_cons (ee_strX (l := ([122, 122, 122, 122, 122, 122, 122, 122, 122, 122, 122, 122] : List Nat)) (by decide +kernel)) (ea_cons ee_int (ea_cons ee_int (ea_cons ee_int ea_nil)))) (Nat.le_of_ble_eq_true rfl)) ea_nil)) rfl (Nat.le_of_ble_eq_true rfl)).ev (fz_l fz_f)) h_239).ev (fz_l fz_f)) ea_nil)) rfl (Nat.le_of_ble_eq_true rfl))) fun result_240 => (xb_a fun h_241 => (xb_bo (xo_comp (fun x_242 => [(7, D.int x_242)]) (ei_r1 (ee_lenT' (ee_var (d := (eL (eT4 stx D.int D.int D.int)) own_rows_238) rfl)) h_241) (fun x_242 => eg_name) (fun x_242 j hj => by simp at hj; first | subst hj; decide | (rcases hj with rfl <;> decide)) (fun x_242 => (xt_p (et_or (et_test (ee_lt (ee_var (d := D.int x_242) rfl) ee_int)) (fun _ => (et_test (ee_eqI (ee_var (d := D.int x_242) rfl) (ee_sub (ee_lenT' (ee_var (d := (eL (eT4 stx D.int D.int D.int)) own_rows_238) rfl)) ee_int))))))) (fun x_242 => (xo_f (xe_p (ee_var (d := D.int x_242) rfl))))) fun a_243 ha_243 => (xb_cons (st_fold (L := (fun (s_244 : ((List (List ((List Nat) × Int × Int × Int))))) => [.val ((eL (eT4 stx D.int D.int D.int)) own_rows_238), .own ((oL (oF (eL (eT4 stx D.int D.int D.int)))) s_244), .no, .no, .no, .no, .no, .no])) (fun x_245 => [(2, D.int x_245)]) (ei_l (ha_243.ev (fz_l fz_f))) (sub_cons (sub_cons (sub_no (sub_no (sub_no (sub_no (sub_no (sub_no sub_nil)))))))) (fun x_245 => eg_name) (fun x_245 s_244 => (xb_a fun h_247 => (xb_let (st_asgG (e := (eT4 stx D.int D.int D.int)) (us := fun q_246 => ([(3, stx q_246.1)] ++ ([(4, D.int q_246.2.1)] ++ ([(5, D.int q_246.2.2.1)] ++ ([(6, D.int q_246.2.2.2)] ++ []))))) (ee_ix (ee_var (d := (eL (eT4 stx D.int D.int D.int)) own_rows_238) rfl) (ee_var (d := D.int x_245) rfl) h_247) (fun q_246 => (eg_tup (egs_consG eg_name (egs_consG eg_name (egs_consG eg_name (egs_consG eg_name egs_nil)))) rfl))) fun q_246 => (xb_a fun h_248 => (xb_cons (st_appT (o := (oF (eL (eT4 stx D.int D.int D.int)))) rfl (ox_f (e := (eL (eT4 stx D.int D.int D.int))) ((ex_cat ((ex_sl (ee_var (d := (eL (eT4 stx D.int D.int D.int)) own_rows_238) rfl) eo_none (eo_some (ee_var (d := D.int x_245) rfl))).ev (fz_l fz_f)) ((ex_sl (ee_var (d := (eL (eT4 stx D.int D.int D.int)) own_rows_238) rfl) (eo_some (ee_add (ee_var (d := D.int x_245) rfl) ee_int)) eo_none).ev (fz_l fz_f)) h_248).ev (fz_l fz_f)))) fun result_249 => (xb_a fun h_250 => (xb_a fun h_251 => (xb_cons (st_appT (o := (oF (eL (eT4 stx D.int D.int D.int)))) rfl (ox_f (e := (eL (eT4 stx D.int D.int D.int))) ((ex_cat ((ex_cat ((ex_sl (ee_var (d := (eL (eT4 stx D.int D.int D.int)) own_rows_238) rfl) eo_none (eo_some (ee_var (d := D.int x_245) rfl))).ev (fz_l fz_f)) ((ex_l (o := (oF (eT4 stx D.int D.int D.int))) (exs_a (ea_cons (ee_tup (ea_cons (ee_strX (l := ([122, 122, 122, 122, 122, 122, 122, 122, 122, 122, 122, 122] : List Nat)) (by decide +kernel)) (ea_cons (ee_var (d := D.int q_246.2.1) rfl) (ea_cons (ee_var (d := D.int q_246.2.2.1) rfl) (ea_cons (ee_var (d := D.int q_246.2.2.2) rfl) ea_nil)))) (Nat.le_of_ble_eq_true rfl)) ea_nil)) rfl (Nat.le_of_ble_eq_true rfl)).ev (fz_l fz_f)) h_250).ev (fz_l fz_f)) ((ex_sl (ee_var (d := (eL (eT4 stx D.int D.int D.int)) own_rows_238) rfl) (eo_some (ee_add (ee_var (d := D.int x_245) rfl) ee_int)) eo_none).ev (fz_l fz_f)) h_251).ev (fz_l fz_f)))) fun result_252 => (xb_a fun h_253 => (xb_a fun h_254 => (xb_cons (st_appT (o := (oF (eL (eT4 stx D.int D.int D.int)))) rfl (ox_f (e := (eL (eT4 stx D.int D.int D.int))) ((ex_cat ((ex_cat ((ex_sl (ee_var (d := (eL (eT4 stx D.int D.int D.int)) own_rows_238) rfl) eo_none (eo_some (ee_var (d := D.int x_245) rfl))).ev (fz_l fz_f)) ((ex_l (o := (oF (eT4 stx D.int D.int D.int))) (exs_a (ea_cons (ee_tup (ea_cons (ee_var (d := stx q_246.1) rfl) (ea_cons (ee_add (ee_var (d := D.int q_246.2.1) rfl) ee_int) (ea_cons (ee_var (d := D.int q_246.2.2.1) rfl) (ea_cons (ee_var (d := D.int q_246.2.2.2) rfl) ea_nil)))) (Nat.le_of_ble_eq_true rfl)) ea_nil)) rfl (Nat.le_of_ble_eq_true rfl)).ev (fz_l fz_f)) h_253).ev (fz_l fz_f)) ((ex_sl (ee_var (d := (eL (eT4 stx D.int D.int D.int)) own_rows_238) rfl) (eo_some (ee_add (ee_var (d := D.int x_245) rfl) ee_int)) eo_none).ev (fz_l fz_f)) h_254).ev (fz_l fz_f)))) fun result_255 => (xb_a fun h_256 => (xb_a fun h_257 => (xb_cons (st_appT (o := (oF (eL (eT4 stx D.int D.int D.int)))) rfl (ox_f (e := (eL (eT4 stx D.int D.int D.int))) ((ex_cat ((ex_cat ((ex_sl (ee_var (d := (eL (eT4 stx D.int D.int D.int)) own_rows_238) rfl) eo_none (eo_some (ee_var (d := D.int x_245) rfl))).ev (fz_l fz_f)) ((ex_l (o := (oF (eT4 stx D.int D.int D.int))) (exs_a (ea_cons (ee_tup (ea_cons (ee_var (d := stx q_246.1) rfl) (ea_cons (ee_var (d := D.int q_246.2.1) rfl) (ea_cons (ee_add (ee_var (d := D.int q_246.2.2.1) rfl) ee_int) (ea_cons (ee_var (d := D.int q_246.2.2.2) rfl) ea_nil)))) (Nat.le_of_ble_eq_true rfl)) ea_nil)) rfl (Nat.le_of_ble_eq_true rfl)).ev (fz_l fz_f)) h_256).ev (fz_l fz_f)) ((ex_sl (ee_var (d := (eL (eT4 stx D.int D.int D.int)) own_rows_238) rfl) (eo_some (ee_add (ee_var (d := D.int x_245) rfl) ee_int)) eo_none).ev (fz_l fz_f)) h_257).ev (fz_l fz_f)))) fun result_258 => (xb_a fun h_259 => (xb_a fun h_260 => (xs_one (st_appT (o := (oF (eL (eT4 stx D.int D.int D.int)))) rfl (ox_f (e := (eL (eT4 stx D.int D.int D.int))) ((ex_cat ((ex_cat ((ex_sl (ee_var (d := (eL (eT4 stx D.int D.int D.int)) own_rows_238) rfl) eo_none (eo_some (ee_var (d := D.int x_245) rfl))).ev (fz_l fz_f)) ((ex_l (o := (oF (eT4 stx D.int D.int D.int))) (exs_a (ea_cons (ee_tup (ea_cons (ee_var (d := stx q_246.1) rfl) (ea_cons (ee_var (d := D.int q_246.2.1) rfl) (ea_cons (ee_var (d := D.int q_246.2.2.1) rfl) (ea_cons (ee_add (ee_var (d := D.int q_246.2.2.2) rfl) ee_int) ea_nil)))) (Nat.le_of_ble_eq_true rfl)) ea_nil)) rfl (Nat.le_of_ble_eq_true rfl)).ev (fz_l fz_f)) h_259).ev (fz_l fz_f)) ((ex_sl (ee_var (d := (eL (eT4 stx D.int D.int D.int)) own_rows_238) rfl) (eo_some (ee_add (ee_var (d := D.int x_245) rfl) ee_int)) eo_none).ev (fz_l fz_f)) h_260).ev (fz_l fz_f)))) (fun result_261 => (sub_cons (sub_cons (sub_no (sub_no (sub_no (sub_no (sub_no (sub_no sub_nil))))))))))))))))))))))))))) fun s_262 => (xb_freeze 1 rfl ((fz_l fz_f) s_262) (xr_ret (ox_f (ee_var (d := (eL (eL (eT4 stx D.int D.int D.int))) s_262) rfl)))))))))

abbrev s__law_same_n : Stmt := top 10
abbrev N__law_same_n : List Str := ["actual", "expected", "k"]
theorem sc__law_same_n : FnScope N__law_same_n ["actual", "expected"] (defScope s__law_same_n) := ⟨rfl, rfl, rfl, by decide +kernel, rfl, by decide +kernel, by decide +kernel⟩
theorem ok__law_same_n {P : Program} {w : World} {K : PySem.W.Frag} {mg : Str → Option Value} {base : Heap} {f : Addr} {fd : FuncData} (F : FunG K "_law_same" "_law_same" s__law_same_n f fd) (T : Txt mg) {A_Shift : Addr} (CT : ClT P w K mg base A_Shift) : FnOk P w K mg base CX0 1 f fd ["actual", "expected"] (spX K (R2 m__law_same_n eU0 eU0 (oF D.bl))) := by
  refine ok_defG F sc__law_same_n (fun ds r h => by obtain ⟨actual_263, expected_264, rfl, _⟩ := h; rfl) (fun cdv A outer s H E hr => ⟨_, (pss_cons (ps_if (pt_cmpR op_isN (pv 1) pe_non (nomark _)) (pss_one (ps_ret (pe_cmpR op_isN (pv 0) pe_non (nomark _)))) pss_nil)
    pss_nev), fun ds r h H0 H1 rt hrt => ?_⟩)
  obtain ⟨actual_263, expected_264, rfl, ok, rfl⟩ := h
  refine run (o := (oF D.bl)) (m := m__law_same_n actual_263 expected_264) ?_ ok hrt
  unfold m__law_same_n
  exact (xb_leave ni_r (et_test (ee_isN1 (ee_var (d := eU0 expected_264) rfl))) (xr_ret (ox_f (ee_isN1 (ee_var (d := eU0 actual_263) rfl)))) (xx_not (fun h => h)))

abbrev s__law_same_b : Stmt := top 10
abbrev N__law_same_b : List Str := ["actual", "expected", "k"]
theorem sc__law_same_b : FnScope N__law_same_b ["actual", "expected"] (defScope s__law_same_b) := ⟨rfl, rfl, rfl, by decide +kernel, rfl, by decide +kernel, by decide +kernel⟩
theorem ok__law_same_b {P : Program} {w : World} {K : PySem.W.Frag} {mg : Str → Option Value} {base : Heap} {f : Addr} {fd : FuncData} (F : FunG K "_law_same" "_law_same" s__law_same_b f fd) (T : Txt mg) {A_Shift : Addr} (CT : ClT P w K mg base A_Shift) : FnOk P w K mg base CX0 1 f fd ["actual", "expected"] (spX K (R2 m__law_same_b D.bl D.bl (oF D.bl))) := by
  refine ok_defG F sc__law_same_b (fun ds r h => by obtain ⟨actual_265, expected_266, rfl, _⟩ := h; rfl) (fun cdv A outer s H E hr => ⟨_, (pss_cons (ps_if (pt_cmpR op_isN (pv 1) pe_non (nomark _)) pss_nev pss_nil)
    (pss_cons (ps_if (pt_val (pe_callB (k_isi K) (by rfl) T.n_isinstance (by decide +kernel) (pa_cons (pv 1) (pa_cons (pe_bltn (v := .ty "bool") (by rfl) T.n_bool (by decide +kernel) rfl) pa_nil)))) (pss_one (ps_ret (pe_and (pe_callB (k_isi K) (by rfl) T.n_isinstance (by decide +kernel) (pa_cons (pv 0) (pa_cons (pe_bltn (v := .ty "bool") (by rfl) T.n_bool (by decide +kernel) rfl) pa_nil))) (pe_one (pe_cmpR op_eq (pv 0) (pv 1) (nomark _)))))) pss_nil)
    pss_nev)), fun ds r h H0 H1 rt hrt => ?_⟩)
  obtain ⟨actual_265, expected_266, rfl, ok, rfl⟩ := h
  refine run (o := (oF D.bl)) (m := m__law_same_b actual_265 expected_266) ?_ ok hrt
  unfold m__law_same_b
  exact (xb_leave ni_r (et_test (ee_isN0 (e := D.bl) (nn_any fun _ => by trivial) (ee_var (d := D.bl expected_266) rfl))) (xx_not (fun h => h)) (xb_leave ni_r (et_B (ee_isiB (ee_var (d := D.bl expected_266) rfl) (kit_ty (by decide +kernel)))) (xr_ret (ox_f (ee_andV (ee_isiB (ee_var (d := D.bl actual_265) rfl) (kit_ty (by decide +kernel))) (fun _ => (ee_eqB (ee_var (d := D.bl actual_265) rfl) (ee_var (d := D.bl expected_266) rfl)))))) (xx_not (fun h => h))))

abbrev s__law_same_i : Stmt := top 10
abbrev N__law_same_i : List Str := ["actual", "expected", "k"]
theorem sc__law_same_i : FnScope N__law_same_i ["actual", "expected"] (defScope s__law_same_i) := ⟨rfl, rfl, rfl, by decide +kernel, rfl, by decide +kernel, by decide +kernel⟩
theorem ok__law_same_i {P : Program} {w : World} {K : PySem.W.Frag} {mg : Str → Option Value} {base : Heap} {f : Addr} {fd : FuncData} (F : FunG K "_law_same" "_law_same" s__law_same_i f fd) (T : Txt mg) {A_Shift : Addr} (CT : ClT P w K mg base A_Shift) : FnOk P w K mg base CX0 1 f fd ["actual", "expected"] (spX K (R2 m__law_same_i D.int D.int (oF D.bl))) := by
  refine ok_defG F sc__law_same_i (fun ds r h => by obtain ⟨actual_267, expected_268, rfl, _⟩ := h; rfl) (fun cdv A outer s H E hr => ⟨_, (pss_cons (ps_if (pt_cmpR op_isN (pv 1) pe_non (nomark _)) pss_nev pss_nil)
    (pss_cons (ps_if (pt_val (pe_callB (k_isi K) (by rfl) T.n_isinstance (by decide +kernel) (pa_cons (pv 1) (pa_cons (pe_bltn (v := .ty "bool") (by rfl) T.n_bool (by decide +kernel) rfl) pa_nil)))) pss_nev pss_nil)
    (pss_cons (ps_if (pt_val (pe_callB (k_isi K) (by rfl) T.n_isinstance (by decide +kernel) (pa_cons (pv 1) (pa_cons (pe_bltn (v := .ty "int") (by rfl) T.n_int (by decide +kernel) rfl) pa_nil)))) (pss_one (ps_ret (pe_and (pe_callB (k_isi K) (by rfl) T.n_isinstance (by decide +kernel) (pa_cons (pv 0) (pa_cons (pe_bltn (v := .ty "int") (by rfl) T.n_int (by decide +kernel) rfl) pa_nil))) (pe_and (pe_not (pe_callB (k_isi K) (by rfl) T.n_isinstance (by decide +kernel) (pa_cons (pv 0) (pa_cons (pe_bltn (v := .ty "bool") (by rfl) T.n_bool (by decide +kernel) rfl) pa_nil)))) (pe_one (pe_cmpR op_eq (pv 0) (pv 1) (nomark _))))))) pss_nil)
    pss_nev))), fun ds r h H0 H1 rt hrt => ?_⟩)
  obtain ⟨actual_267, expected_268, rfl, ok, rfl⟩ := h
  refine run (o := (oF D.bl)) (m := m__law_same_i actual_267 expected_268) ?_ ok hrt
  unfold m__law_same_i
  exact (xb_leave ni_r (et_test (ee_isN0 (e := D.int) (nn_any fun _ => by trivial) (ee_var (d := D.int expected_268) rfl))) (xx_not (fun h => h)) (xb_leave ni_r (et_B (ee_isiI (ee_var (d := D.int expected_268) rfl) (kit_ty (by decide +kernel)))) (xx_not (fun h => h)) (xb_leave ni_r (et_B (ee_isiI (ee_var (d := D.int expected_268) rfl) (kit_ty (by decide +kernel)))) (xr_ret (ox_f (ee_andV (ee_isiI (ee_var (d := D.int actual_267) rfl) (kit_ty (by decide +kernel))) (fun _ => (ee_andV (ee_notV (ee_isiI (ee_var (d := D.int actual_267) rfl) (kit_ty (by decide +kernel)))) (fun _ => (ee_eqI (ee_var (d := D.int actual_267) rfl) (ee_var (d := D.int expected_268) rfl)))))))) (xx_not (fun h => h)))))

abbrev s__law_same_x : Stmt := top 10
abbrev N__law_same_x : List Str := ["actual", "expected", "k"]
theorem sc__law_same_x : FnScope N__law_same_x ["actual", "expected"] (defScope s__law_same_x) := ⟨rfl, rfl, rfl, by decide +kernel, rfl, by decide +kernel, by decide +kernel⟩
theorem ok__law_same_x {P : Program} {w : World} {K : PySem.W.Frag} {mg : Str → Option Value} {base : Heap} {f : Addr} {fd : FuncData} (F : FunG K "_law_same" "_law_same" s__law_same_x f fd) (T : Txt mg) {A_Shift : Addr} (CT : ClT P w K mg base A_Shift) : FnOk P w K mg base CX0 1 f fd ["actual", "expected"] (spX K (R2 m__law_same_x stx stx (oF D.bl))) := by
  refine ok_defG F sc__law_same_x (fun ds r h => by obtain ⟨actual_269, expected_270, rfl, _⟩ := h; rfl) (fun cdv A outer s H E hr => ⟨_, (pss_cons (ps_if (pt_cmpR op_isN (pv 1) pe_non (nomark _)) pss_nev pss_nil)
    (pss_cons (ps_if (pt_val (pe_callB (k_isi K) (by rfl) T.n_isinstance (by decide +kernel) (pa_cons (pv 1) (pa_cons (pe_bltn (v := .ty "bool") (by rfl) T.n_bool (by decide +kernel) rfl) pa_nil)))) pss_nev pss_nil)
    (pss_cons (ps_if (pt_val (pe_callB (k_isi K) (by rfl) T.n_isinstance (by decide +kernel) (pa_cons (pv 1) (pa_cons (pe_bltn (v := .ty "int") (by rfl) T.n_int (by decide +kernel) rfl) pa_nil)))) pss_nev pss_nil)
    (pss_cons (ps_if (pt_val (pe_callB (k_isi K) (by rfl) T.n_isinstance (by decide +kernel) (pa_cons (pv 1) (pa_cons (pe_bltn (v := .ty "str") (by rfl) T.n_str (by decide +kernel) rfl) pa_nil)))) (pss_one (ps_ret (pe_and (pe_callB (k_isi K) (by rfl) T.n_isinstance (by decide +kernel) (pa_cons (pv 0) (pa_cons (pe_bltn (v := .ty "str") (by rfl) T.n_str (by decide +kernel) rfl) pa_nil))) (pe_one (pe_cmpR op_eq (pv 0) (pv 1) (nomark _)))))) pss_nil)
    pss_nev)))), fun ds r h H0 H1 rt hrt => ?_⟩)
  obtain ⟨actual_269, expected_270, rfl, ok, rfl⟩ := h
  refine run (o := (oF D.bl)) (m := m__law_same_x actual_269 expected_270) ?_ ok hrt
  unfold m__law_same_x
  exact (xb_leave ni_r (et_test (ee_isN0 (e := stx) (nn_any fun _ => by trivial) (ee_var (d := stx expected_270) rfl))) (xx_not (fun h => h)) (xb_leave ni_r (et_B (ee_isiX (ee_var (d := stx expected_270) rfl) (kit_ty (by decide +kernel)))) (xx_not (fun h => h)) (xb_leave ni_r (et_B (ee_isiX (ee_var (d := stx expected_270) rfl) (kit_ty (by decide +kernel)))) (xx_not (fun h => h)) (xb_leave ni_r (et_B (ee_isiX (ee_var (d := stx expected_270) rfl) (kit_ty (by decide +kernel)))) (xr_ret (ox_f (ee_andV (ee_isiX (ee_var (d := stx actual_269) rfl) (kit_ty (by decide +kernel))) (fun _ => (ee_eqX (ee_var (d := stx actual_269) rfl) (ee_var (d := stx expected_270) rfl)))))) (xx_not (fun h => h))))))

abbrev s__law_same_u : Stmt := top 10
abbrev N__law_same_u : List Str := ["actual", "expected", "k"]
theorem sc__law_same_u : FnScope N__law_same_u ["actual", "expected"] (defScope s__law_same_u) := ⟨rfl, rfl, rfl, by decide +kernel, rfl, by decide +kernel, by decide +kernel⟩
theorem ok__law_same_u {m n : Nat} {P : Program} {w : World} {K : PySem.W.Frag} {mg : Str → Option Value} {base : Heap} {f : Addr} {fd : FuncData} (F : FunG K "_law_same" "_law_same" s__law_same_u f fd) (T : Txt mg) {A_Shift : Addr} (CT : ClT P w K mg base A_Shift) (CR : Cal P w K mg base "_law_same" n ["actual", "expected"] (spX K (R2 (mSameD m) ePD ePD (oF D.bl)))) : FnOk P w K mg base CX0 (n + 1) f fd ["actual", "expected"] (spX K (R2 (m__law_same_u m) (eU ePD) (eU ePD) (oF D.bl))) := by
  refine ok_defG F sc__law_same_u (fun ds r h => by obtain ⟨actual_271, expected_272, rfl, _⟩ := h; rfl) (fun cdv A outer s H E hr => ⟨_, (pss_cons (ps_if (pt_cmpR op_isN (pv 1) pe_non (nomark _)) pss_nev pss_nil)
    (pss_cons (ps_if (pt_val (pe_callB (k_isi K) (by rfl) T.n_isinstance (by decide +kernel) (pa_cons (pv 1) (pa_cons (pe_bltn (v := .ty "bool") (by rfl) T.n_bool (by decide +kernel) rfl) pa_nil)))) pss_nev pss_nil)
    (pss_cons (ps_if (pt_val (pe_callB (k_isi K) (by rfl) T.n_isinstance (by decide +kernel) (pa_cons (pv 1) (pa_cons (pe_bltn (v := .ty "int") (by rfl) T.n_int (by decide +kernel) rfl) pa_nil)))) pss_nev pss_nil)
    (pss_cons (ps_if (pt_val (pe_callB (k_isi K) (by rfl) T.n_isinstance (by decide +kernel) (pa_cons (pv 1) (pa_cons (pe_bltn (v := .ty "str") (by rfl) T.n_str (by decide +kernel) rfl) pa_nil)))) pss_nev pss_nil)
    (pss_cons (ps_if (PW.pt (pw_and (pt_val (pe_callB (k_isi K) (by rfl) T.n_isinstance (by decide +kernel) (pa_cons (pv 1) (pa_cons (pe_bltn (v := .ty "tuple") (by rfl) T.n_tuple (by decide +kernel) rfl) pa_nil)))) (pw_and1 (pt_not (pt_val (pe_callB (k_isi K) (by rfl) T.n_isinstance (by decide +kernel) (pa_cons (pv 0) (pa_cons (pe_bltn (v := .ty "tuple") (by rfl) T.n_tuple (by decide +kernel) rfl) pa_nil)))))))) pss_nev pss_nil)
    (pss_cons (ps_if (PW.pt (pw_or (PW.pt (pw_and (pt_val (pe_callB (k_isi K) (by rfl) T.n_isinstance (by decide +kernel) (pa_cons (pv 1) (pa_cons (pe_bltn (v := .ty "list") (by rfl) T.n_list (by decide +kernel) rfl) pa_nil)))) (pw_and1 (pt_not (pt_val (pe_callB (k_isi K) (by rfl) T.n_isinstance (by decide +kernel) (pa_cons (pv 0) (pa_cons (pe_bltn (v := .ty "list") (by rfl) T.n_list (by decide +kernel) rfl) pa_nil)))))))) (pw_or1 (pt_cmpR op_ne (pe_callB (k_call_len K) (by rfl) T.n_len (by decide +kernel) (pa_cons (pv 0) pa_nil)) (pe_callB (k_call_len K) (by rfl) T.n_len (by decide +kernel) (pa_cons (pv 1) pa_nil)) (nomark _))))) (pss_one (ps_ret pe_bl)) pss_nil)
    (pss_cons (ps_for PassesOwn.never rfl (pi_range1 (by rfl) T.n_range (pa_cons (pe_callB (k_call_len K) (by rfl) T.n_len (by decide +kernel) (pa_cons (pv 1) pa_nil)) pa_nil)) (pg_name (i := 2) sc__law_same_u.nd rfl (Or.inl rfl))
    (pss_one (ps_if (pt_not (pt_val (pe_cal CR hr (by rfl) (pa_cons (pe_ix (k_ix_tup K) (pv 0) (pv 2) (fun _ _ => rfl)) (pa_cons (pe_ix (k_ix_tup K) (pv 1) (pv 2) (fun _ _ => rfl)) pa_nil))))) (pss_one (ps_ret pe_bl)) pss_nil)))
    (pss_one (ps_ret pe_bl))))))))), fun ds r h H0 H1 rt hrt => ?_⟩)
  obtain ⟨actual_271, expected_272, rfl, ok, rfl⟩ := h
  refine run (o := (oF D.bl)) (m := m__law_same_u m actual_271 expected_272) ?_ ok hrt
  unfold m__law_same_u
  exact (xb_leave ni_r (et_test (ee_isN0 (e := (eU ePD)) (nn_any fun _ => by trivial) (ee_var (d := (eU ePD) expected_272) rfl))) (xx_not (fun h => h)) (xb_leave ni_r (et_B (ee_isiT (ee_var (d := (eU ePD) expected_272) rfl) (kit_ty (by decide +kernel)))) (xx_not (fun h => h)) (xb_leave ni_r (et_B (ee_isiT (ee_var (d := (eU ePD) expected_272) rfl) (kit_ty (by decide +kernel)))) (xx_not (fun h => h)) (xb_leave ni_r (et_B (ee_isiT (ee_var (d := (eU ePD) expected_272) rfl) (kit_ty (by decide +kernel)))) (xx_not (fun h => h)) (xb_leave ni_r (et_and (et_B (ee_isiT (ee_var (d := (eU ePD) expected_272) rfl) (kit_ty (by decide +kernel)))) (fun _ => (et_not (et_B (ee_isiT (ee_var (d := (eU ePD) actual_271) rfl) (kit_ty (by decide +kernel))))))) (xx_not (fun h => h)) (xb_leave ni_r (et_or (et_and (et_B (ee_isiT (ee_var (d := (eU ePD) expected_272) rfl) (kit_ty (by decide +kernel)))) (fun _ => (et_not (et_B (ee_isiT (ee_var (d := (eU ePD) actual_271) rfl) (kit_ty (by decide +kernel))))))) (fun _ => (et_test (ee_neI (ee_lenU' (ee_var (d := (eU ePD) actual_271) rfl)) (ee_lenU' (ee_var (d := (eU ePD) expected_272) rfl)))))) (xr_ret (ox_f ee_bl)) (xb_a fun h_273 => (xb_loop (L := (fun (s_274 : Unit) => [.val ((eU ePD) actual_271), .val ((eU ePD) expected_272), .no])) (o := (oF D.bl)) ni_r (fun x_275 => [(2, D.int x_275)]) (ei_r1 (ee_lenU' (ee_var (d := (eU ePD) expected_272) rfl)) h_273) (sub_cons (sub_cons (sub_no sub_nil))) (fun x_275 => eg_name) (fun _ _ _ _ h => h) (fun x_275 s_274 => (xb_a fun h_276 => (xb_a fun h_277 => (xb_bo (xo_call (o := oF D.bl) (ea_cons (ee_ixU (ee_var (d := (eU ePD) actual_271) rfl) (ee_var (d := D.int x_275) rfl) h_276) (ea_cons (ee_ixU (ee_var (d := (eU ePD) expected_272) rfl) (ee_var (d := D.int x_275) rfl) h_277) ea_nil)) (fun ok => ⟨_, _, rfl, ok, rfl⟩)) fun a_278 ha_278 => (xb_if (et_not (et_B ha_278.ef)) (xl_ret (ox_f ee_bl)) (xl_next (sub_cons (sub_cons (sub_no sub_nil))))))))) (fun s_279 => (xr_ret (ox_f ee_bl)))))))))))

abbrev s__law_same_l : Stmt := top 10
abbrev N__law_same_l : List Str := ["actual", "expected", "k"]
theorem sc__law_same_l : FnScope N__law_same_l ["actual", "expected"] (defScope s__law_same_l) := ⟨rfl, rfl, rfl, by decide +kernel, rfl, by decide +kernel, by decide +kernel⟩
theorem ok__law_same_l {m n : Nat} {P : Program} {w : World} {K : PySem.W.Frag} {mg : Str → Option Value} {base : Heap} {f : Addr} {fd : FuncData} (F : FunG K "_law_same" "_law_same" s__law_same_l f fd) (T : Txt mg) {A_Shift : Addr} (CT : ClT P w K mg base A_Shift) (CR : Cal P w K mg base "_law_same" n ["actual", "expected"] (spX K (R2 (mSameD m) ePD ePD (oF D.bl)))) : FnOk P w K mg base CX0 (n + 1) f fd ["actual", "expected"] (spX K (R2 (m__law_same_l m) (eL ePD) (eL ePD) (oF D.bl))) := by
  refine ok_defG F sc__law_same_l (fun ds r h => by obtain ⟨actual_281, expected_282, rfl, _⟩ := h; rfl) (fun cdv A outer s H E hr => ⟨_, (pss_cons (ps_if (pt_cmpR op_isN (pv 1) pe_non (nomark _)) pss_nev pss_nil)
    (pss_cons (ps_if (pt_val (pe_callB (k_isi K) (by rfl) T.n_isinstance (by decide +kernel) (pa_cons (pv 1) (pa_cons (pe_bltn (v := .ty "bool") (by rfl) T.n_bool (by decide +kernel) rfl) pa_nil)))) pss_nev pss_nil)
    (pss_cons (ps_if (pt_val (pe_callB (k_isi K) (by rfl) T.n_isinstance (by decide +kernel) (pa_cons (pv 1) (pa_cons (pe_bltn (v := .ty "int") (by rfl) T.n_int (by decide +kernel) rfl) pa_nil)))) pss_nev pss_nil)
    (pss_cons (ps_if (pt_val (pe_callB (k_isi K) (by rfl) T.n_isinstance (by decide +kernel) (pa_cons (pv 1) (pa_cons (pe_bltn (v := .ty "str") (by rfl) T.n_str (by decide +kernel) rfl) pa_nil)))) pss_nev pss_nil)
    (pss_cons (ps_if (PW.pt (pw_and (pt_val (pe_callB (k_isi K) (by rfl) T.n_isinstance (by decide +kernel) (pa_cons (pv 1) (pa_cons (pe_bltn (v := .ty "tuple") (by rfl) T.n_tuple (by decide +kernel) rfl) pa_nil)))) (pw_and1 (pt_not (pt_val (pe_callB (k_isi K) (by rfl) T.n_isinstance (by decide +kernel) (pa_cons (pv 0) (pa_cons (pe_bltn (v := .ty "tuple") (by rfl) T.n_tuple (by decide +kernel) rfl) pa_nil)))))))) pss_nev pss_nil)
    (pss_cons (ps_if (PW.pt (pw_or (PW.pt (pw_and (pt_val (pe_callB (k_isi K) (by rfl) T.n_isinstance (by decide +kernel) (pa_cons (pv 1) (pa_cons (pe_bltn (v := .ty "list") (by rfl) T.n_list (by decide +kernel) rfl) pa_nil)))) (pw_and1 (pt_not (pt_val (pe_callB (k_isi K) (by rfl) T.n_isinstance (by decide +kernel) (pa_cons (pv 0) (pa_cons (pe_bltn (v := .ty "list") (by rfl) T.n_list (by decide +kernel) rfl) pa_nil)))))))) (pw_or1 (pt_cmpR op_ne (pe_callB (k_call_len K) (by rfl) T.n_len (by decide +kernel) (pa_cons (pv 0) pa_nil)) (pe_callB (k_call_len K) (by rfl) T.n_len (by decide +kernel) (pa_cons (pv 1) pa_nil)) (nomark _))))) (pss_one (ps_ret pe_bl)) pss_nil)
    (pss_cons (ps_for PassesOwn.never rfl (pi_range1 (by rfl) T.n_range (pa_cons (pe_callB (k_call_len K) (by rfl) T.n_len (by decide +kernel) (pa_cons (pv 1) pa_nil)) pa_nil)) (pg_name (i := 2) sc__law_same_l.nd rfl (Or.inl rfl))
    (pss_one (ps_if (pt_not (pt_val (pe_cal CR hr (by rfl) (pa_cons (pe_ix (k_ix_list K) (pv 0) (pv 2) (fun _ _ => rfl)) (pa_cons (pe_ix (k_ix_list K) (pv 1) (pv 2) (fun _ _ => rfl)) pa_nil))))) (pss_one (ps_ret pe_bl)) pss_nil)))
    (pss_one (ps_ret pe_bl))))))))), fun ds r h H0 H1 rt hrt => ?_⟩)
  obtain ⟨actual_281, expected_282, rfl, ok, rfl⟩ := h
  refine run (o := (oF D.bl)) (m := m__law_same_l m actual_281 expected_282) ?_ ok hrt
  unfold m__law_same_l
  exact (xb_leave ni_r (et_test (ee_isN0 (e := (eL ePD)) (nn_any fun _ => by trivial) (ee_var (d := (eL ePD) expected_282) rfl))) (xx_not (fun h => h)) (xb_leave ni_r (et_B (ee_isiL (ee_var (d := (eL ePD) expected_282) rfl) (kit_ty (by decide +kernel)))) (xx_not (fun h => h)) (xb_leave ni_r (et_B (ee_isiL (ee_var (d := (eL ePD) expected_282) rfl) (kit_ty (by decide +kernel)))) (xx_not (fun h => h)) (xb_leave ni_r (et_B (ee_isiL (ee_var (d := (eL ePD) expected_282) rfl) (kit_ty (by decide +kernel)))) (xx_not (fun h => h)) (xb_leave ni_r (et_and (et_B (ee_isiL (ee_var (d := (eL ePD) expected_282) rfl) (kit_ty (by decide +kernel)))) (fun _ => (et_not (et_B (ee_isiL (ee_var (d := (eL ePD) actual_281) rfl) (kit_ty (by decide +kernel))))))) (xx_not (fun h => h)) (xb_leave ni_r (et_or (et_and (et_B (ee_isiL (ee_var (d := (eL ePD) expected_282) rfl) (kit_ty (by decide +kernel)))) (fun _ => (et_not (et_B (ee_isiL (ee_var (d := (eL ePD) actual_281) rfl) (kit_ty (by decide +kernel))))))) (fun _ => (et_test (ee_neI (ee_lenT' (ee_var (d := (eL ePD) actual_281) rfl)) (ee_lenT' (ee_var (d := (eL ePD) expected_282) rfl)))))) (xr_ret (ox_f ee_bl)) (xb_a fun h_283 => (xb_loop (L := (fun (s_284 : Unit) => [.val ((eL ePD) actual_281), .val ((eL ePD) expected_282), .no])) (o := (oF D.bl)) ni_r (fun x_285 => [(2, D.int x_285)]) (ei_r1 (ee_lenT' (ee_var (d := (eL ePD) expected_282) rfl)) h_283) (sub_cons (sub_cons (sub_no sub_nil))) (fun x_285 => eg_name) (fun _ _ _ _ h => h) (fun x_285 s_284 => (xb_a fun h_286 => (xb_a fun h_287 => (xb_bo (xo_call (o := oF D.bl) (ea_cons (ee_ix (ee_var (d := (eL ePD) actual_281) rfl) (ee_var (d := D.int x_285) rfl) h_286) (ea_cons (ee_ix (ee_var (d := (eL ePD) expected_282) rfl) (ee_var (d := D.int x_285) rfl) h_287) ea_nil)) (fun ok => ⟨_, _, rfl, ok, rfl⟩)) fun a_288 ha_288 => (xb_if (et_not (et_B ha_288.ef)) (xl_ret (ox_f ee_bl)) (xl_next (sub_cons (sub_cons (sub_no sub_nil))))))))) (fun s_289 => (xr_ret (ox_f ee_bl)))))))))))
theorem same_u {m : Nat} (xs : List PD) (h : PD.dps xs ≤ m) (hz : xs.length < 2 ^ 62) (hd : ∀ x ∈ xs, DOk (ePD x)) : isT (m__law_same_u m xs xs) := by
  unfold m__law_same_u
  refine H.ite (fun z => by cases z) fun _ => H.ite (fun z => by cases z) fun _ => H.ite (fun z => by cases z) fun _ => H.ite (fun z => by cases z) fun _ => H.ite (fun z => by cases z) fun _ => H.ite (fun z => by simp at z) fun _ => same_body h hz hd
theorem same_l {m : Nat} (xs : List PD) (h : PD.dps xs ≤ m) (hz : xs.length < 2 ^ 62) (hd : ∀ x ∈ xs, DOk (ePD x)) : isT (m__law_same_l m xs xs) := by
  unfold m__law_same_l
  refine H.ite (fun z => by cases z) fun _ => H.ite (fun z => by cases z) fun _ => H.ite (fun z => by cases z) fun _ => H.ite (fun z => by cases z) fun _ => H.ite (fun z => by cases z) fun _ => H.ite (fun z => by simp at z) fun _ => same_body h hz hd
theorem same_ok {P : Program} {w : World} {K : PySem.W.Frag} {mg : Str → Option Value} {base : Heap} {f : Addr} {fd : FuncData} (F : FunG K "_law_same" "_law_same" s__law_same_l f fd) (T : Txt mg) {A_Shift : Addr} (CT : ClT P w K mg base A_Shift)
    (MK : ∀ k sp, FnOk P w K mg base CX0 k f fd ["actual", "expected"] sp → Cal P w K mg base "_law_same" k ["actual", "expected"] sp) : ∀ m, FnOk P w K mg base CX0 (m + 2) f fd ["actual", "expected"] (spX K (RSame m)) := by
  have A : ∀ m n, FnOk P w K mg base CX0 (n + 1) f fd ["actual", "expected"] (spX K (RAtom m)) := fun m n => fnok_atom ((ok__law_same_n F T CT).mono (Nat.le_add_left _ _)) ((ok__law_same_b F T CT).mono (Nat.le_add_left _ _)) ((ok__law_same_i F T CT).mono (Nat.le_add_left _ _)) ((ok__law_same_x F T CT).mono (Nat.le_add_left _ _))
    (fun a => ⟨by simp [m__law_same_n, G.ite, G.p], by simp [m__law_same_n, G.ite, G.p]⟩) (fun a => ⟨by simp [m__law_same_b, G.ite, G.p], by simp [m__law_same_b, G.ite, G.p]⟩) (fun a => ⟨by simp [m__law_same_i, G.ite, G.p], by simp [m__law_same_i, G.ite, G.p]⟩) (fun a => ⟨by simp [m__law_same_x, G.ite, G.p], by simp [m__law_same_x, G.ite, G.p]⟩)
  intro m
  induction m with
  | zero => exact fnok_spx (A 0 1) ratom_zero
  | succ m ih =>
    have CR := cal_spx (MK _ _ ih) (rsame_d (m := m))
    exact fnok_seq (A (m + 1) (m + 2)) (ok__law_same_u (m := m) (n := m + 2) F T CT CR) (ok__law_same_l (m := m) (n := m + 2) F T CT CR) same_u same_l
theorem same_c {P : Program} {w : World} {K : PySem.W.Frag} {mg : Str → Option Value} {base : Heap} {f : Addr} {fd : FuncData} (F : FunG K "_law_same" "_law_same" s__law_same_l f fd) (T : Txt mg) {A_Shift : Addr} (CT : ClT P w K mg base A_Shift)
    (MK : ∀ k sp, FnOk P w K mg base CX0 k f fd ["actual", "expected"] sp → Cal P w K mg base "_law_same" k ["actual", "expected"] sp) : SameC P w K mg base "_law_same" 10 := ⟨MK _ _ (same_ok F T CT MK 8)⟩
end K01

namespace K01
open PySem PySem.Spec PyProof.Rows L2 Y
abbrev s__law_shown : Stmt := top 19
abbrev N__law_shown : List Str := ["shift", "own_rows", "row"]
theorem sc__law_shown : FnScope N__law_shown ["shift", "own_rows"] (defScope s__law_shown) := ⟨rfl, rfl, rfl, by decide +kernel, rfl, by decide +kernel, by decide +kernel⟩
theorem ok__law_shown {P : Program} {w : World} {K : PySem.W.Frag} {mg : Str → Option Value} {base : Heap} {f : Addr} {fd : FuncData} (F : FunG K "_law_shown" "_law_shown" s__law_shown f fd) (T : Txt mg) {A_Shift : Addr} (CT : ClT P w K mg base A_Shift) (CS : SameC P w K mg base "_law_same" 10) (P_Shift_never : PrpC P w K mg base A_Shift "never" 1 (spX K (R1 m_Shift_never (e_Shift A_Shift) (oF D.bl)))) : FnOk P w K mg base CX0 11 f fd ["shift", "own_rows"] (spX K (R2 m__law_shown (e_Shift A_Shift) (eL (eT4 stx D.int D.int D.int)) (oF D.bl))) := by
  refine ok_defG F sc__law_shown (fun ds r h => by obtain ⟨shift_291, own_rows_292, rfl, _⟩ := h; rfl) (fun cdv A outer s H E hr => ⟨_, (pss_cons (ps_if (PW.pt (pw_or (pt_not (pt_val (pe_callB (k_isi K) (by rfl) T.n_isinstance (by decide +kernel) (pa_cons (pv 0) (pa_cons (pe_glob (v := V.ref A_Shift) (by rfl) CT.g_Shift rfl) pa_nil))))) (pw_or1 (pt_not (pt_val (pe_cal ((CS.mono (by decide)).c (e := (eU (eT4 stx D.int D.int D.int))) (pln_u (pln_t4 pln_x pln_int pln_int pln_int))) hr (by rfl) (pa_cons (k_fld K (pv 0)) (pa_cons (pe_callTy (k_tuple_of K) (by rfl) T.n_tuple (by decide +kernel) (pa_cons (pe_callB (k_sortedRow K) (by rfl) T.n_sorted (by decide +kernel) (pa_cons (pv 1) pa_nil)) pa_nil)) pa_nil)))))))) (pss_one (ps_ret pe_bl)) pss_nil)
    (pss_one (ps_ret (pe_cal ((CS.mono (by decide)).c (e := D.bl) pln_b) hr (by rfl) (pa_cons (pe_prp (P_Shift_never.mono (by decide)) hr (pv 0)) (pa_cons (pe_cmpR op_gt (pe_callB (k_call_len K) (by rfl) T.n_len (by decide +kernel) (pa_cons (pe_lc (own := [("row", 2)]) rfl sc__law_shown.nd (k_pi_list K (pv 1)) (blkOk_by (N := N__law_shown) (sc := defScope s__law_shown) (by decide +kernel)) (fun _ _ _ _ _ => (pg_name (i := 2) sc__law_shown.nd rfl (Or.inl rfl))) (fun _ _ _ _ _ => (pts_one (pt_cmpR op_gt (pe_ix (k_ix_tup K) (pv 2) pe_int (fun _ _ => rfl)) (pe_ix (k_ix_tup K) (pv 2) pe_int (fun _ _ => rfl)) (nomark _)))) (fun _ _ _ _ _ => (pv 2))) pa_nil)) pe_int (nomark _)) pa_nil)))))), fun ds r h H0 H1 rt hrt => ?_⟩)
  obtain ⟨shift_291, own_rows_292, rfl, ok, rfl⟩ := h
  refine run (o := (oF D.bl)) (m := m__law_shown shift_291 own_rows_292) ?_ ok hrt
  unfold m__law_shown
  exact (xb_bt (xt_or (et_not (et_B (ee_isiC CT.own_Shift (ee_var (d := (e_Shift A_Shift) shift_291) rfl)))) (xt_bo (xo_call (o := oF D.bl) (ea_cons (ee_fld (d := (eU (eT4 stx D.int D.int D.int)) shift_291.f_rows) (ee_var (d := (e_Shift A_Shift) shift_291) rfl) CT.cls_Shift CT.na_Shift_rows rfl) (ea_cons (ee_tupleL ((ex_sortRows (rowc_of (rowk_x (rowk_i (rowk_i rowk_i1)))) (ee_var (d := (eL (eT4 stx D.int D.int D.int)) own_rows_292) rfl)).ev (fz_l fz_f))) ea_nil)) (fun ok => ⟨_, _, rfl, ok, rfl⟩)) fun a_294 ha_294 => (xt_p (et_not (et_B ha_294.ef))))) fun a_295 ha_295 => (xb_leave ni_r ha_295 (xr_ret (ox_f ee_bl)) (xb_bo (xo_prp (o := (oF D.bl)) (ee_var (d := (e_Shift A_Shift) shift_291) rfl) (fun ok => ⟨_, rfl, ok, rfl⟩)) fun a_296 ha_296 => (xb_bo (xo_comp (fun x_297 => [(2, (eT4 stx D.int D.int D.int) x_297)]) (ei_l (ee_var (d := (eL (eT4 stx D.int D.int D.int)) own_rows_292) rfl)) (fun x_297 => eg_name) (fun x_297 j hj => by simp at hj; first | subst hj; decide | (rcases hj with rfl <;> decide)) (fun x_297 => (xt_p (et_test (ee_gt (ee_ixT (ds := [stx x_297.1, D.int x_297.2.1, D.int x_297.2.2.1, D.int x_297.2.2.2]) (d := D.int x_297.2.1) (ee_var (d := (eT4 stx D.int D.int D.int) x_297) rfl) ee_int rfl) (ee_ixT (ds := [stx x_297.1, D.int x_297.2.1, D.int x_297.2.2.1, D.int x_297.2.2.2]) (d := D.int x_297.2.2.1) (ee_var (d := (eT4 stx D.int D.int D.int) x_297) rfl) ee_int rfl))))) (fun x_297 => (xo_f (xe_p (ee_var (d := (eT4 stx D.int D.int D.int) x_297) rfl))))) fun a_298 ha_298 => (xb_bo (xo_call (o := oF D.bl) (ea_cons ha_296.ef (ea_cons (ee_gt (ee_lenT' (ha_298.ev (fz_l fz_f))) ee_int) ea_nil)) (fun ok => ⟨_, _, rfl, ok, rfl⟩)) fun a_299 ha_299 => (xr_ret (ox_f ha_299.ef)))))))

abbrev s__law_compared : Stmt := top 20
abbrev N__law_compared : List Str := ["shift", "own_rows", "near", "thing"]
theorem sc__law_compared : FnScope N__law_compared ["shift", "own_rows"] (defScope s__law_compared) := ⟨rfl, rfl, rfl, by decide +kernel, rfl, by decide +kernel, by decide +kernel⟩
theorem ok__law_compared {P : Program} {w : World} {K : PySem.W.Frag} {mg : Str → Option Value} {base : Heap} {f : Addr} {fd : FuncData} (F : FunG K "_law_compared" "_law_compared" s__law_compared f fd) (T : Txt mg) {A_Shift : Addr} (CT : ClT P w K mg base A_Shift) (CS : SameC P w K mg base "_law_same" 10) (Q_Shift_eq__c : OprC P w K mg base A_Shift "__eq__" 1 ["self", "other"] (spX K (R2 m_Shift_eq__c (e_Shift A_Shift) (e_Shift A_Shift) (oF D.bl)))) (K_Shift_l : MakC P w K mg base "Shift" A_Shift 1 ["self", "rows"] (spI K A_Shift (RI1 m_Shift_init_l (eL (eT4 stx D.int D.int D.int)) ns_Shift (ob_Shift A_Shift)))) (C__law_near : Cal P w K mg base "_law_near" 1 ["own_rows"] (spX K (R1 m__law_near (eL (eT4 stx D.int D.int D.int)) (oF (eL (eL (eT4 stx D.int D.int D.int))))))) (Q_Shift_eq__p : OprC P w K mg base A_Shift "__eq__" 1 ["self", "other"] (spX K (R2 m_Shift_eq__p (e_Shift A_Shift) ePD (oF D.bl)))) : FnOk P w K mg base CX0 11 f fd ["shift", "own_rows"] (spX K (R2 m__law_compared (e_Shift A_Shift) (eL (eT4 stx D.int D.int D.int)) (oF D.bl))) := by
  refine ok_defG F sc__law_compared (fun ds r h => by obtain ⟨shift_300, own_rows_301, rfl, _⟩ := h; rfl) (fun cdv A outer s H E hr => ⟨_, (pss_cons (ps_if (PW.pt (pw_or (pt_not (pt_val (pe_cal ((CS.mono (by decide)).c (e := D.bl) pln_b) hr (by rfl) (pa_cons (pe_opEq K (Q_Shift_eq__c.mono (by decide)) hr (pv 0) (pe_mak (K_Shift_l.mono (by decide)) hr (by rfl) (pa_cons (k_revL K (pv 1)) pa_nil)) (nomark _)) (pa_cons pe_bl pa_nil))))) (pw_or1 (pt_not (pt_val (pe_cal ((CS.mono (by decide)).c (e := D.bl) pln_b) hr (by rfl) (pa_cons (pe_opEq K (Q_Shift_eq__c.mono (by decide)) hr (pv 0) (pv 0) (nomark _)) (pa_cons pe_bl pa_nil)))))))) (pss_one (ps_ret pe_bl)) pss_nil)
    (pss_cons (ps_for PassesOwn.never rfl (k_pi_list K (pe_cal (C__law_near.mono (by decide)) hr (by rfl) (pa_cons (pv 1) pa_nil))) (pg_name (i := 2) sc__law_compared.nd rfl (Or.inl rfl))
    (pss_one (ps_if (PW.pt (pw_or (pt_not (pt_val (pe_cal ((CS.mono (by decide)).c (e := D.bl) pln_b) hr (by rfl) (pa_cons (pe_opEq K (Q_Shift_eq__c.mono (by decide)) hr (pv 0) (pe_mak (K_Shift_l.mono (by decide)) hr (by rfl) (pa_cons (pv 2) pa_nil)) (nomark _)) (pa_cons pe_bl pa_nil))))) (pw_or1 (pt_not (pt_val (pe_cal ((CS.mono (by decide)).c (e := D.bl) pln_b) hr (by rfl) (pa_cons (pe_opEq K (Q_Shift_eq__c.mono (by decide)) hr (pe_mak (K_Shift_l.mono (by decide)) hr (by rfl) (pa_cons (pv 2) pa_nil)) (pv 0) (nomark _)) (pa_cons pe_bl pa_nil)))))))) (pss_one (ps_ret pe_bl)) pss_nil)))
    (pss_cons (ps_for PassesOwn.never rfl (k_pi_list K (pe_lst (pa_cons pe_non (pa_cons (pe_callTy (k_tuple_of K) (by rfl) T.n_tuple (by decide +kernel) (pa_cons (pe_callB (k_sortedRow K) (by rfl) T.n_sorted (by decide +kernel) (pa_cons (pv 1) pa_nil)) pa_nil)) (pa_cons (pe_callTy (k_list_of K) (by rfl) T.n_list (by decide +kernel) (pa_cons (pv 1) pa_nil)) (pa_cons pe_str (pa_cons pe_int pa_nil))))))) (pg_name (i := 3) sc__law_compared.nd rfl (Or.inl rfl))
    (pss_one (ps_if (pt_not (pt_val (pe_cal ((CS.mono (by decide)).c (e := D.bl) pln_b) hr (by rfl) (pa_cons (pe_opEqP K CT.own_Shift (Q_Shift_eq__p.mono (by decide)) hr (pv 0) (pv 3) (nomark _)) (pa_cons pe_bl pa_nil))))) (pss_one (ps_ret pe_bl)) pss_nil)))
    (pss_one (ps_ret pe_bl))))), fun ds r h H0 H1 rt hrt => ?_⟩)
  obtain ⟨shift_300, own_rows_301, rfl, ok, rfl⟩ := h
  refine run (o := (oF D.bl)) (m := m__law_compared shift_300 own_rows_301) ?_ ok hrt
  unfold m__law_compared
  exact (xb_b (xe_make (ns := ns_Shift) (ob := ob_Shift A_Shift) (ea_cons ((ex_rev (ee_var (d := (eL (eT4 stx D.int D.int D.int)) own_rows_301) rfl)).ev (fz_l fz_f)) ea_nil) (fun ok => ⟨_, rfl, ok, rfl⟩)) fun a_302 ha_302 => (xb_bo (xo_ownEq (o := (oF D.bl)) (ee_var (d := (e_Shift A_Shift) shift_300) rfl) ha_302 eqok_ins (fun _ => nno_bl) (fun ok => ⟨_, _, rfl, ok, rfl⟩)) fun a_303 ha_303 => (xb_bo (xo_call (o := oF D.bl) (ea_cons ha_303.ef (ea_cons ee_bl ea_nil)) (fun ok => ⟨_, _, rfl, ok, rfl⟩)) fun a_304 ha_304 => (xb_bt (xt_or (et_not (et_B ha_304.ef)) (xt_bo (xo_ownEq (o := (oF D.bl)) (ee_var (d := (e_Shift A_Shift) shift_300) rfl) (ee_var (d := (e_Shift A_Shift) shift_300) rfl) eqok_ins (fun _ => nno_bl) (fun ok => ⟨_, _, rfl, ok, rfl⟩)) fun a_305 ha_305 => (xt_bo (xo_call (o := oF D.bl) (ea_cons ha_305.ef (ea_cons ee_bl ea_nil)) (fun ok => ⟨_, _, rfl, ok, rfl⟩)) fun a_306 ha_306 => (xt_p (et_not (et_B ha_306.ef)))))) fun a_307 ha_307 => (xb_leave ni_r ha_307 (xr_ret (ox_f ee_bl)) (xb_bo (xo_call (o := (oF (eL (eL (eT4 stx D.int D.int D.int))))) (ea_cons (ee_var (d := (eL (eT4 stx D.int D.int D.int)) own_rows_301) rfl) ea_nil) (fun ok => ⟨_, rfl, ok, rfl⟩)) fun a_308 ha_308 => (xb_loop (L := (fun (s_309 : Unit) => [.val ((e_Shift A_Shift) shift_300), .val ((eL (eT4 stx D.int D.int D.int)) own_rows_301), .no, .no])) (o := (oF D.bl)) ni_r (fun x_310 => [(2, (eL (eT4 stx D.int D.int D.int)) x_310)]) (ei_l ha_308.ef) (sub_cons (sub_cons (sub_no (sub_no sub_nil)))) (fun x_310 => eg_name) (fun _ _ _ _ h => h) (fun x_310 s_309 => (xb_b (xe_make (ns := ns_Shift) (ob := ob_Shift A_Shift) (ea_cons (ee_var (d := (eL (eT4 stx D.int D.int D.int)) x_310) rfl) ea_nil) (fun ok => ⟨_, rfl, ok, rfl⟩)) fun a_311 ha_311 => (xb_bo (xo_ownEq (o := (oF D.bl)) (ee_var (d := (e_Shift A_Shift) shift_300) rfl) ha_311 eqok_ins (fun _ => nno_bl) (fun ok => ⟨_, _, rfl, ok, rfl⟩)) fun a_312 ha_312 => (xb_bo (xo_call (o := oF D.bl) (ea_cons ha_312.ef (ea_cons ee_bl ea_nil)) (fun ok => ⟨_, _, rfl, ok, rfl⟩)) fun a_313 ha_313 => (xb_bt (xt_or (et_not (et_B ha_313.ef)) (xt_b (xe_make (ns := ns_Shift) (ob := ob_Shift A_Shift) (ea_cons (ee_var (d := (eL (eT4 stx D.int D.int D.int)) x_310) rfl) ea_nil) (fun ok => ⟨_, rfl, ok, rfl⟩)) fun a_314 ha_314 => (xt_bo (xo_ownEq (o := (oF D.bl)) ha_314 (ee_var (d := (e_Shift A_Shift) shift_300) rfl) eqok_ins (fun _ => nno_bl) (fun ok => ⟨_, _, rfl, ok, rfl⟩)) fun a_315 ha_315 => (xt_bo (xo_call (o := oF D.bl) (ea_cons ha_315.ef (ea_cons ee_bl ea_nil)) (fun ok => ⟨_, _, rfl, ok, rfl⟩)) fun a_316 ha_316 => (xt_p (et_not (et_B ha_316.ef))))))) fun a_317 ha_317 => (xb_if ha_317 (xl_ret (ox_f ee_bl)) (xl_next (sub_cons (sub_cons (sub_no (sub_no sub_nil))))))))))) (fun s_318 => (xb_loop (L := (fun (s_320 : Unit) => [.val ((e_Shift A_Shift) shift_300), .val ((eL (eT4 stx D.int D.int D.int)) own_rows_301), .no, .no])) (o := (oF D.bl)) ni_r (fun x_321 => [(3, ePD x_321)]) (ei_l ((ex_l (o := (oF ePD)) (exs_a (ea_cons (ee_pd (e1 := eU0) (f1 := (fun _ => PD.n)) (v := ()) ee_non topd_n) (ea_cons (ee_pd (e1 := (eU (eT4 stx D.int D.int D.int))) (f1 := (fun xs => PD.t (xs.map (fun q => PD.t [PD.x q.1, PD.i q.2.1, PD.i q.2.2.1, PD.i q.2.2.2])))) (v := (sortS (scX (scI (scI scI1))) own_rows_301)) (ee_tupleL ((ex_sortRows (rowc_of (rowk_x (rowk_i (rowk_i rowk_i1)))) (ee_var (d := (eL (eT4 stx D.int D.int D.int)) own_rows_301) rfl)).ev (fz_l fz_f))) (topd_u (topd_t4 topd_x topd_i topd_i topd_i))) (ea_cons (ee_pd (e1 := (eL (eT4 stx D.int D.int D.int))) (f1 := (fun xs => PD.l (xs.map (fun q => PD.t [PD.x q.1, PD.i q.2.1, PD.i q.2.2.1, PD.i q.2.2.2])))) (v := own_rows_301) ((ex_list (ee_var (d := (eL (eT4 stx D.int D.int D.int)) own_rows_301) rfl)).ev (fz_l fz_f)) (topd_l (topd_t4 topd_x topd_i topd_i topd_i))) (ea_cons (ee_pd (e1 := stx) (f1 := PD.x) (v := ([115, 104, 105, 102, 116] : List Nat)) (ee_strX (l := ([115, 104, 105, 102, 116] : List Nat)) (by decide +kernel)) topd_x) (ea_cons (ee_pd (e1 := D.int) (f1 := PD.i) (v := (0 : Int)) ee_int topd_i) ea_nil)))))) rfl (Nat.le_of_ble_eq_true rfl)).ev (fz_l fz_f))) (sub_cons (sub_cons (sub_no (sub_no sub_nil)))) (fun x_321 => eg_name) (fun _ _ _ _ h => h) (fun x_321 s_320 => (xb_bo (xo_ownEqP (o := (oF D.bl)) (ee_var (d := (e_Shift A_Shift) shift_300) rfl) (ee_var (d := ePD x_321) rfl) (fun _ => nno_bl) (fun ok => ⟨_, _, rfl, ok, rfl⟩)) fun a_322 ha_322 => (xb_bo (xo_call (o := oF D.bl) (ea_cons ha_322.ef (ea_cons ee_bl ea_nil)) (fun ok => ⟨_, _, rfl, ok, rfl⟩)) fun a_323 ha_323 => (xb_if (et_not (et_B ha_323.ef)) (xl_ret (ox_f ee_bl)) (xl_next (sub_cons (sub_cons (sub_no (sub_no sub_nil))))))))) (fun s_324 => (xr_ret (ox_f ee_bl))))))))))))

abbrev s_law : Stmt := top 21
abbrev N_law : List Str := ["script", "pool", "first", "second", "third", "numbers", "passed", "one", "other", "times", "count"]
theorem sc_law : FnScope N_law ["script"] (defScope s_law) := ⟨rfl, rfl, rfl, by decide +kernel, rfl, by decide +kernel, by decide +kernel⟩
theorem ok_law {P : Program} {w : World} {K : PySem.W.Frag} {mg : Str → Option Value} {base : Heap} {f : Addr} {fd : FuncData} (F : FunG K "law" "law" s_law f fd) (T : Txt mg) {A_Shift : Addr} (CT : ClT P w K mg base A_Shift) (C__law_pool : Cal P w K mg base "_law_pool" 2 ["row"] (spX K (R1 m__law_pool (eL D.int) (oL (oF stx))))) (C__law_row : Cal P w K mg base "_law_row" 1 ["cell", "many"] (spX K (R2 m__law_row D.int D.int (oL (oF D.int))))) (C__law_cell : Cal P w K mg base "_law_cell" 1 ["script", "k"] (spX K (R2 m__law_cell (eL D.int) D.int (oF D.int)))) (C__law_rows : Cal P w K mg base "_law_rows" 2 ["row", "pool", "most"] (spX K (R3 m__law_rows (eL D.int) (eL stx) D.int (oL (oF (eT4 stx D.int D.int D.int)))))) (K_Shift_l : MakC P w K mg base "Shift" A_Shift 1 ["self", "rows"] (spI K A_Shift (RI1 m_Shift_init_l (eL (eT4 stx D.int D.int D.int)) ns_Shift (ob_Shift A_Shift)))) (CS : SameC P w K mg base "_law_same" 10) (KN_Shift_u_0_rows : MakN P w K mg base "Shift" A_Shift 1 ["self", "rows"] 0 ["rows"] (fun vs zs => vs ++ zs) (spI K A_Shift (RI1 m_Shift_init_u (eU (eT4 stx D.int D.int D.int)) ns_Shift (ob_Shift A_Shift)))) (C__law_shown : Cal P w K mg base "_law_shown" 11 ["shift", "own_rows"] (spX K (R2 m__law_shown (e_Shift A_Shift) (eL (eT4 stx D.int D.int D.int)) (oF D.bl)))) (C__law_plus : Cal P w K mg base "_law_plus" 1 ["first", "second"] (spX K (R2 m__law_plus (eL (eT4 stx D.int D.int D.int)) (eL (eT4 stx D.int D.int D.int)) (oL (oF (eT4 stx D.int D.int D.int)))))) (B_Shift_add_ : OprC P w K mg base A_Shift (PySem.dunder Operator.Add.info.2) 3 ["self", "other"] (spX K (R2 m_Shift_add_ (e_Shift A_Shift) (e_Shift A_Shift) (oF (e_Shift A_Shift))))) (C__law_back : Cal P w K mg base "_law_back" 1 ["own_rows"] (spX K (R1 m__law_back (eL (eT4 stx D.int D.int D.int)) (oL (oF (eT4 stx D.int D.int D.int)))))) (U_Shift_invert_ : OprC P w K mg base A_Shift "__invert__" 3 ["self"] (spX K (R1 m_Shift_invert_ (e_Shift A_Shift) (oF (e_Shift A_Shift))))) (C__law_times : Cal P w K mg base "_law_times" 1 ["own_rows", "times"] (spX K (R2 m__law_times (eL (eT4 stx D.int D.int D.int)) D.int (oL (oF (eT4 stx D.int D.int D.int)))))) (BI_Shift_mul_ : OprI P w K mg base A_Shift Operator.Mult 3 ["self", "other"] (spX K (R2 m_Shift_mul_ (e_Shift A_Shift) D.int (oF (e_Shift A_Shift))))) (C__law_count : Cal P w K mg base "_law_count" 1 ["numbers"] (spX K (R1 m__law_count (eL D.int) (oF D.int)))) (Q_Shift_eq__c : OprC P w K mg base A_Shift "__eq__" 1 ["self", "other"] (spX K (R2 m_Shift_eq__c (e_Shift A_Shift) (e_Shift A_Shift) (oF D.bl)))) (C__law_compared : Cal P w K mg base "_law_compared" 11 ["shift", "own_rows"] (spX K (R2 m__law_compared (e_Shift A_Shift) (eL (eT4 stx D.int D.int D.int)) (oF D.bl)))) : FnOk P w K mg base CX0 12 f fd ["script"] (spX K (R1 m_law (eL D.int) (oF D.bl))) := by
  refine ok_defG F sc_law (fun ds r h => by obtain ⟨script_327, rfl, _⟩ := h; rfl) (fun cdv A outer s H E hr => ⟨_, (pss_cons (ps_set (i := 1) sc_law.nd rfl (Or.inl rfl) (pe_cal (C__law_pool.mono (by decide)) hr (by rfl) (pa_cons (pe_cal (C__law_row.mono (by decide)) hr (by rfl) (pa_cons (pe_cal (C__law_cell.mono (by decide)) hr (by rfl) (pa_cons (pv 0) (pa_cons pe_int pa_nil))) (pa_cons pe_int pa_nil))) pa_nil)))
    (pss_cons (ps_set (i := 2) sc_law.nd rfl (Or.inl rfl) (pe_cal (C__law_rows.mono (by decide)) hr (by rfl) (pa_cons (pe_cal (C__law_row.mono (by decide)) hr (by rfl) (pa_cons (pe_cal (C__law_cell.mono (by decide)) hr (by rfl) (pa_cons (pv 0) (pa_cons pe_int pa_nil))) (pa_cons pe_int pa_nil))) (pa_cons (pv 1) (pa_cons pe_int pa_nil)))))
    (pss_cons (ps_set (i := 3) sc_law.nd rfl (Or.inl rfl) (pe_cal (C__law_rows.mono (by decide)) hr (by rfl) (pa_cons (pe_cal (C__law_row.mono (by decide)) hr (by rfl) (pa_cons (pe_cal (C__law_cell.mono (by decide)) hr (by rfl) (pa_cons (pv 0) (pa_cons pe_int pa_nil))) (pa_cons pe_int pa_nil))) (pa_cons (pv 1) (pa_cons pe_int pa_nil)))))
    (pss_cons (ps_set (i := 4) sc_law.nd rfl (Or.inl rfl) (pe_cal (C__law_rows.mono (by decide)) hr (by rfl) (pa_cons (pe_cal (C__law_row.mono (by decide)) hr (by rfl) (pa_cons (pe_cal (C__law_cell.mono (by decide)) hr (by rfl) (pa_cons (pv 0) (pa_cons pe_int pa_nil))) (pa_cons pe_int pa_nil))) (pa_cons (pv 1) (pa_cons pe_int pa_nil)))))
    (pss_cons (ps_set (i := 5) sc_law.nd rfl (Or.inl rfl) (pe_cal (C__law_row.mono (by decide)) hr (by rfl) (pa_cons (pe_cal (C__law_cell.mono (by decide)) hr (by rfl) (pa_cons (pv 0) (pa_cons pe_int pa_nil))) (pa_cons pe_int pa_nil))))
    (pss_cons (ps_set (i := 6) sc_law.nd rfl (Or.inl rfl) (pe_callTy (k_list_of K) (by rfl) T.n_list (by decide +kernel) (pa_cons (pv 2) pa_nil)))
    (pss_cons (ps_set (i := 7) sc_law.nd rfl (Or.inl rfl) (pe_mak (K_Shift_l.mono (by decide)) hr (by rfl) (pa_cons (pv 6) pa_nil)))
    (pss_cons (ps_if (pt_not (pt_val (pe_cal ((CS.mono (by decide)).c (e := (eL (eT4 stx D.int D.int D.int))) (pln_l (pln_t4 pln_x pln_int pln_int pln_int))) hr (by rfl) (pa_cons (pv 6) (pa_cons (pv 2) pa_nil))))) (pss_one (ps_ret pe_bl)) pss_nil)
    (pss_cons (ps_expr (pe_bm PySem.F.plainAttrs_list PySem.F.slot_list_append PySem.F.type_list_append mt_append (pv 6) (pa_cons (pe_tup (pa_cons pe_str (pa_cons pe_int (pa_cons pe_int (pa_cons pe_int pa_nil))))) pa_nil)))
    (pss_cons (ps_set (i := 8) sc_law.nd rfl (Or.inl rfl) (pe_makK (KN_Shift_u_0_rows.mono (by decide)) hr (by rfl) (pk_cons (pe_callTy (k_tuple_of K) (by rfl) T.n_tuple (by decide +kernel) (pa_cons (pv 3) pa_nil)) pk_nil)))
    (pss_cons (ps_if (PW.pt (pw_or (pt_not (pt_val (pe_cal (C__law_shown.mono (by decide)) hr (by rfl) (pa_cons (pv 7) (pa_cons (pv 2) pa_nil))))) (pw_or1 (pt_not (pt_val (pe_cal (C__law_shown.mono (by decide)) hr (by rfl) (pa_cons (pv 8) (pa_cons (pv 3) pa_nil)))))))) (pss_one (ps_ret pe_bl)) pss_nil)
    (pss_cons (ps_if (PW.pt (pw_or (pt_not (pt_val (pe_cal (C__law_shown.mono (by decide)) hr (by rfl) (pa_cons (pe_opC (op := Operator.Add) (B_Shift_add_.mono (by decide)) hr (pv 7) (pv 8)) (pa_cons (pe_cal (C__law_plus.mono (by decide)) hr (by rfl) (pa_cons (pv 2) (pa_cons (pv 3) pa_nil))) pa_nil))))) (pw_or1 (pt_not (pt_val (pe_cal (C__law_shown.mono (by decide)) hr (by rfl) (pa_cons (pe_opC (op := Operator.Add) (B_Shift_add_.mono (by decide)) hr (pv 8) (pv 7)) (pa_cons (pe_cal (C__law_plus.mono (by decide)) hr (by rfl) (pa_cons (pv 3) (pa_cons (pv 2) pa_nil))) pa_nil)))))))) (pss_one (ps_ret pe_bl)) pss_nil)
    (pss_cons (ps_if (PW.pt (pw_or (pt_not (pt_val (pe_cal (C__law_shown.mono (by decide)) hr (by rfl) (pa_cons (pe_opC (op := Operator.Add) (B_Shift_add_.mono (by decide)) hr (pv 7) (pv 7)) (pa_cons (pe_cal (C__law_plus.mono (by decide)) hr (by rfl) (pa_cons (pv 2) (pa_cons (pv 2) pa_nil))) pa_nil))))) (pw_or1 (pt_not (pt_val (pe_cal (C__law_shown.mono (by decide)) hr (by rfl) (pa_cons (pe_opU (U_Shift_invert_.mono (by decide)) hr (pv 7)) (pa_cons (pe_cal (C__law_back.mono (by decide)) hr (by rfl) (pa_cons (pv 2) pa_nil)) pa_nil)))))))) (pss_one (ps_ret pe_bl)) pss_nil)
    (pss_cons (ps_for PassesOwn.never rfl (k_pi_list K (pe_lst (pa_cons pe_int (pa_cons pe_int (pa_cons pe_int (pa_cons (pe_op op_mod (pe_callTy call_int1 (by rfl) T.n_int (by decide +kernel) (pa_cons (pe_ix (k_ix_list K) (pv 5) pe_int (fun _ _ => rfl)) pa_nil)) pe_int) pa_nil)))))) (pg_name (i := 9) sc_law.nd rfl (Or.inl rfl))
    (pss_one (ps_if (pt_not (pt_val (pe_cal (C__law_shown.mono (by decide)) hr (by rfl) (pa_cons (pe_opI (op := Operator.Mult) (BI_Shift_mul_.mono (by decide)) hr (pv 7) (pv 9)) (pa_cons (pe_cal (C__law_times.mono (by decide)) hr (by rfl) (pa_cons (pv 2) (pa_cons (pv 9) pa_nil))) pa_nil))))) (pss_one (ps_ret pe_bl)) pss_nil)))
    (pss_cons (ps_set (i := 10) sc_law.nd rfl (Or.inl rfl) (pe_cal (C__law_count.mono (by decide)) hr (by rfl) (pa_cons (pv 5) pa_nil)))
    (pss_cons (ps_if (pt_not (pt_val (pe_cal (C__law_shown.mono (by decide)) hr (by rfl) (pa_cons (pe_opI (op := Operator.Mult) (BI_Shift_mul_.mono (by decide)) hr (pe_mak (K_Shift_l.mono (by decide)) hr (by rfl) (pa_cons (pv 4) pa_nil)) (pv 10)) (pa_cons (pe_cal (C__law_times.mono (by decide)) hr (by rfl) (pa_cons (pv 4) (pa_cons (pv 10) pa_nil))) pa_nil))))) (pss_one (ps_ret pe_bl)) pss_nil)
    (pss_cons (ps_if (PW.pt (pw_or (pt_not (pt_val (pe_cal ((CS.mono (by decide)).c (e := D.bl) pln_b) hr (by rfl) (pa_cons (pe_opEq K (Q_Shift_eq__c.mono (by decide)) hr (pv 7) (pv 8) (nomark _)) (pa_cons (pe_cmpR (k_eqP K hr.units) (pe_callB (k_sortedRow K) (by rfl) T.n_sorted (by decide +kernel) (pa_cons (pv 2) pa_nil)) (pe_callB (k_sortedRow K) (by rfl) T.n_sorted (by decide +kernel) (pa_cons (pv 3) pa_nil)) (nomark _)) pa_nil))))) (pw_or1 (pt_not (pt_val (pe_cal (C__law_compared.mono (by decide)) hr (by rfl) (pa_cons (pv 7) (pa_cons (pv 2) pa_nil)))))))) (pss_one (ps_ret pe_bl)) pss_nil)
    (pss_one (ps_ret (pe_and (pe_cal (C__law_shown.mono (by decide)) hr (by rfl) (pa_cons (pv 7) (pa_cons (pv 2) pa_nil))) (pe_one (pe_cal (C__law_shown.mono (by decide)) hr (by rfl) (pa_cons (pv 8) (pa_cons (pv 3) pa_nil)))))))))))))))))))))))), fun ds r h H0 H1 rt hrt => ?_⟩)
  obtain ⟨script_327, rfl, ok, rfl⟩ := h
  refine run (o := (oF D.bl)) (m := m_law script_327) ?_ ok hrt
  unfold m_law
  exact (xb_bo (xo_call (o := (oF D.int)) (ea_cons (ee_var (d := (eL D.int) script_327) rfl) (ea_cons ee_int ea_nil)) (fun ok => ⟨_, _, rfl, ok, rfl⟩)) fun a_328 ha_328 => (xb_bo (xo_call (o := (oL (oF D.int))) (ea_cons ha_328.ef (ea_cons ee_int ea_nil)) (fun ok => ⟨_, _, rfl, ok, rfl⟩)) fun a_329 ha_329 => (xb_bo (xo_call (o := (oL (oF stx))) (ea_cons (ha_329.ev (fz_l fz_f)) ea_nil) (fun ok => ⟨_, rfl, ok, rfl⟩)) fun a_330 ha_330 => (xb_let (st_asg (i := 1) (e := (eL stx)) (ha_330.ev (fz_l fz_f))) fun pool_331 => (xb_bo (xo_call (o := (oF D.int)) (ea_cons (ee_var (d := (eL D.int) script_327) rfl) (ea_cons ee_int ea_nil)) (fun ok => ⟨_, _, rfl, ok, rfl⟩)) fun a_332 ha_332 => (xb_bo (xo_call (o := (oL (oF D.int))) (ea_cons ha_332.ef (ea_cons ee_int ea_nil)) (fun ok => ⟨_, _, rfl, ok, rfl⟩)) fun a_333 ha_333 => (xb_bo (xo_call (o := (oL (oF (eT4 stx D.int D.int D.int)))) (ea_cons (ha_333.ev (fz_l fz_f)) (ea_cons (ee_var (d := (eL stx) pool_331) rfl) (ea_cons ee_int ea_nil))) (fun ok => ⟨_, _, _, rfl, ok, rfl⟩)) fun a_334 ha_334 => (xb_let (st_asg (i := 2) (e := (eL (eT4 stx D.int D.int D.int))) (ha_334.ev (fz_l fz_f))) fun first_335 => (xb_bo (xo_call (o := (oF D.int)) (ea_cons (ee_var (d := (eL D.int) script_327) rfl) (ea_cons ee_int ea_nil)) (fun ok => ⟨_, _, rfl, ok, rfl⟩)) fun a_336 ha_336 => (xb_bo (xo_call (o := (oL (oF D.int))) (ea_cons ha_336.ef (ea_cons ee_int ea_nil)) (fun ok => ⟨_, _, rfl, ok, rfl⟩)) fun a_337 ha_337 => (xb_bo (xo_call (o := (oL (oF (eT4 stx D.int D.int D.int)))) (ea_cons (ha_337.ev (fz_l fz_f)) (ea_cons (ee_var (d := (eL stx) pool_331) rfl) (ea_cons ee_int ea_nil))) (fun ok => ⟨_, _, _, rfl, ok, rfl⟩)) fun a_338 ha_338 => (xb_let (st_asg (i := 3) (e := (eL (eT4 stx D.int D.int D.int))) (ha_338.ev (fz_l fz_f))) fun second_339 => (xb_bo (xo_call (o := (oF D.int)) (ea_cons (ee_var (d := (eL D.int) script_327) rfl) (ea_cons ee_int ea_nil)) (fun ok => ⟨_, _, rfl, ok, rfl⟩)) fun a_340 ha_340 => (xb_bo (xo_call (o := (oL (oF D.int))) (ea_cons ha_340.ef (ea_cons ee_int ea_nil)) (fun ok => ⟨_, _, rfl, ok, rfl⟩)) fun a_341 ha_341 => (xb_bo (xo_call (o := (oL (oF (eT4 stx D.int D.int D.int)))) (ea_cons (ha_341.ev (fz_l fz_f)) (ea_cons (ee_var (d := (eL stx) pool_331) rfl) (ea_cons ee_int ea_nil))) (fun ok => ⟨_, _, _, rfl, ok, rfl⟩)) fun a_342 ha_342 => (xb_let (st_asg (i := 4) (e := (eL (eT4 stx D.int D.int D.int))) (ha_342.ev (fz_l fz_f))) fun third_343 => (xb_bo (xo_call (o := (oF D.int)) (ea_cons (ee_var (d := (eL D.int) script_327) rfl) (ea_cons ee_int ea_nil)) (fun ok => ⟨_, _, rfl, ok, rfl⟩)) fun a_344 ha_344 => (xb_bo (xo_call (o := (oL (oF D.int))) (ea_cons ha_344.ef (ea_cons ee_int ea_nil)) (fun ok => ⟨_, _, rfl, ok, rfl⟩)) fun a_345 ha_345 => (xb_let (st_asg (i := 5) (e := (eL D.int)) (ha_345.ev (fz_l fz_f))) fun numbers_346 => (xb_let (st_own (i := 6) (o := (oL (oF (eT4 stx D.int D.int D.int)))) (ex_list (ee_var (d := (eL (eT4 stx D.int D.int D.int)) first_335) rfl))) fun passed_347 => (xb_b (xe_pkL 6 rfl (fz_l fz_f) (onl_l onl_f) (xe_b (xe_make (ns := ns_Shift) (ob := ob_Shift A_Shift) (ea_cons (ee_var (d := (eL (eT4 stx D.int D.int D.int)) passed_347) rfl) ea_nil) (fun ok => ⟨_, rfl, ok, rfl⟩)) fun a_348 ha_348 => (xe_p ha_348)) (nol_ins (f := ob_Shift A_Shift) fun q => (nols_c ((nol_u (nol_tup (f := fun q : ((List Nat) × Int × Int × Int) => [stx q.1, D.int q.2.1, D.int q.2.2.1, D.int q.2.2.2]) fun q => (nols_c (nol_stx _) (nols_c (nol_int _) (nols_c (nol_int _) (nols_c (nol_int _) nols_n)))))) _) nols_n))) fun a_349 ha_349 => (xb_let (st_asg (i := 7) (e := (e_Shift A_Shift)) ha_349) fun one_350 => (xb_b (xe_pkS 6 rfl (fz_l fz_f) (xe_bo (xo_call (o := oF D.bl) (ea_cons (ee_var (d := (eL (eT4 stx D.int D.int D.int)) passed_347) rfl) (ea_cons (ee_var (d := (eL (eT4 stx D.int D.int D.int)) first_335) rfl) ea_nil)) (fun ok => ⟨_, _, rfl, ok, rfl⟩)) fun a_351 ha_351 => (xe_p ha_351.ef)) sc_bl) fun a_352 ha_352 => (xb_leave ni_r (et_not (et_B ha_352)) (xr_ret (ox_f ee_bl)) (xb_cons (st_appT (o := (oF (eT4 stx D.int D.int D.int))) rfl (ox_f (e := (eT4 stx D.int D.int D.int)) (ee_tup (ea_cons (ee_strX (l := ([122, 122, 122, 122, 122, 122, 122, 122, 122, 122, 122, 122] : List Nat)) (by decide +kernel)) (ea_cons ee_int (ea_cons ee_int (ea_cons ee_int ea_nil)))) (Nat.le_of_ble_eq_true rfl)))) fun passed_353 => (xb_b (xe_makeN (ns := ns_Shift) (ob := ob_Shift A_Shift) ea_nil (ea_cons (ee_tupleL (ee_var (d := (eL (eT4 stx D.int D.int D.int)) second_339) rfl)) ea_nil) (fun ok => ⟨_, rfl, ok, rfl⟩)) fun a_354 ha_354 => (xb_let (st_asg (i := 8) (e := (e_Shift A_Shift)) ha_354) fun other_355 => (xb_bo (xo_call (o := (oF D.bl)) (ea_cons (ee_var (d := (e_Shift A_Shift) one_350) rfl) (ea_cons (ee_var (d := (eL (eT4 stx D.int D.int D.int)) first_335) rfl) ea_nil)) (fun ok => ⟨_, _, rfl, ok, rfl⟩)) fun a_356 ha_356 => (xb_bt (xt_or (et_not (et_B ha_356.ef)) (xt_bo (xo_call (o := (oF D.bl)) (ea_cons (ee_var (d := (e_Shift A_Shift) other_355) rfl) (ea_cons (ee_var (d := (eL (eT4 stx D.int D.int D.int)) second_339) rfl) ea_nil)) (fun ok => ⟨_, _, rfl, ok, rfl⟩)) fun a_357 ha_357 => (xt_p (et_not (et_B ha_357.ef))))) fun a_358 ha_358 => (xb_leave ni_r ha_358 (xr_ret (ox_f ee_bl)) (xb_bo (xo_ownC (o := (oF (e_Shift A_Shift))) (ee_var (d := (e_Shift A_Shift) one_350) rfl) (ee_var (d := (e_Shift A_Shift) other_355) rfl) (fun _ => nno_ins) (fun ok => ⟨_, _, rfl, ok, rfl⟩)) fun a_359 ha_359 => (xb_bo (xo_call (o := (oL (oF (eT4 stx D.int D.int D.int)))) (ea_cons (ee_var (d := (eL (eT4 stx D.int D.int D.int)) first_335) rfl) (ea_cons (ee_var (d := (eL (eT4 stx D.int D.int D.int)) second_339) rfl) ea_nil)) (fun ok => ⟨_, _, rfl, ok, rfl⟩)) fun a_360 ha_360 => (xb_bo (xo_call (o := (oF D.bl)) (ea_cons ha_359.ef (ea_cons (ha_360.ev (fz_l fz_f)) ea_nil)) (fun ok => ⟨_, _, rfl, ok, rfl⟩)) fun a_361 ha_361 => (xb_bt (xt_or (et_not (et_B ha_361.ef)) (xt_bo (xo_ownC (o := (oF (e_Shift A_Shift))) (ee_var (d := (e_Shift A_Shift) other_355) rfl) (ee_var (d := (e_Shift A_Shift) one_350) rfl) (fun _ => nno_ins) (fun ok => ⟨_, _, rfl, ok, rfl⟩)) fun a_362 ha_362 => (xt_bo (xo_call (o := (oL (oF (eT4 stx D.int D.int D.int)))) (ea_cons (ee_var (d := (eL (eT4 stx D.int D.int D.int)) second_339) rfl) (ea_cons (ee_var (d := (eL (eT4 stx D.int D.int D.int)) first_335) rfl) ea_nil)) (fun ok => ⟨_, _, rfl, ok, rfl⟩)) fun a_363 ha_363 => (xt_bo (xo_call (o := (oF D.bl)) (ea_cons ha_362.ef (ea_cons (ha_363.ev (fz_l fz_f)) ea_nil)) (fun ok => ⟨_, _, rfl, ok, rfl⟩)) fun a_364 ha_364 => (xt_p (et_not (et_B ha_364.ef))))))) fun a_365 ha_365 => (xb_leave ni_r ha_365 (xr_ret (ox_f ee_bl)) (xb_bo (xo_ownC (o := (oF (e_Shift A_Shift))) (ee_var (d := (e_Shift A_Shift) one_350) rfl) (ee_var (d := (e_Shift A_Shift) one_350) rfl) (fun _ => nno_ins) (fun ok => ⟨_, _, rfl, ok, rfl⟩)) fun a_366 ha_366 => (xb_bo (xo_call (o := (oL (oF (eT4 stx D.int D.int D.int)))) (ea_cons (ee_var (d := (eL (eT4 stx D.int D.int D.int)) first_335) rfl) (ea_cons (ee_var (d := (eL (eT4 stx D.int D.int D.int)) first_335) rfl) ea_nil)) (fun ok => ⟨_, _, rfl, ok, rfl⟩)) fun a_367 ha_367 => (xb_bo (xo_call (o := (oF D.bl)) (ea_cons ha_366.ef (ea_cons (ha_367.ev (fz_l fz_f)) ea_nil)) (fun ok => ⟨_, _, rfl, ok, rfl⟩)) fun a_368 ha_368 => (xb_bt (xt_or (et_not (et_B ha_368.ef)) (xt_bo (xo_ownU (o := (oF (e_Shift A_Shift))) (ee_var (d := (e_Shift A_Shift) one_350) rfl) (fun ok => ⟨_, rfl, ok, rfl⟩)) fun a_369 ha_369 => (xt_bo (xo_call (o := (oL (oF (eT4 stx D.int D.int D.int)))) (ea_cons (ee_var (d := (eL (eT4 stx D.int D.int D.int)) first_335) rfl) ea_nil) (fun ok => ⟨_, rfl, ok, rfl⟩)) fun a_370 ha_370 => (xt_bo (xo_call (o := (oF D.bl)) (ea_cons ha_369.ef (ea_cons (ha_370.ev (fz_l fz_f)) ea_nil)) (fun ok => ⟨_, _, rfl, ok, rfl⟩)) fun a_371 ha_371 => (xt_p (et_not (et_B ha_371.ef))))))) fun a_372 ha_372 => (xb_leave ni_r ha_372 (xr_ret (ox_f ee_bl)) (xb_a fun h_373 => (xb_loop (L := (fun (s_374 : Unit) => [.val ((eL D.int) script_327), .val ((eL stx) pool_331), .val ((eL (eT4 stx D.int D.int D.int)) first_335), .val ((eL (eT4 stx D.int D.int D.int)) second_339), .val ((eL (eT4 stx D.int D.int D.int)) third_343), .val ((eL D.int) numbers_346), .own ((oL (oF (eT4 stx D.int D.int D.int))) passed_353), .val ((e_Shift A_Shift) one_350), .val ((e_Shift A_Shift) other_355), .no, .no])) (o := (oF D.bl)) ni_r (fun x_375 => [(9, D.int x_375)]) (ei_l ((ex_l (o := (oF D.int)) (exs_a (ea_cons ee_int (ea_cons ee_int (ea_cons ee_int (ea_cons (ee_mod (ee_intI (ee_ix (ee_var (d := (eL D.int) numbers_346) rfl) ee_int h_373)) ee_int (by decide)) ea_nil))))) rfl (Nat.le_of_ble_eq_true rfl)).ev (fz_l fz_f))) (sub_cons (sub_cons (sub_cons (sub_cons (sub_cons (sub_cons (sub_cons (sub_cons (sub_cons (sub_no (sub_no sub_nil))))))))))) (fun x_375 => eg_name) (fun _ _ _ _ h => h) (fun x_375 s_374 => (xb_bo (xo_ownI (o := (oF (e_Shift A_Shift))) (ee_var (d := (e_Shift A_Shift) one_350) rfl) (ee_var (d := D.int x_375) rfl) (fun _ => nno_ins) (fun ok => ⟨_, _, rfl, ok, rfl⟩)) fun a_376 ha_376 => (xb_bo (xo_call (o := (oL (oF (eT4 stx D.int D.int D.int)))) (ea_cons (ee_var (d := (eL (eT4 stx D.int D.int D.int)) first_335) rfl) (ea_cons (ee_var (d := D.int x_375) rfl) ea_nil)) (fun ok => ⟨_, _, rfl, ok, rfl⟩)) fun a_377 ha_377 => (xb_bo (xo_call (o := (oF D.bl)) (ea_cons ha_376.ef (ea_cons (ha_377.ev (fz_l fz_f)) ea_nil)) (fun ok => ⟨_, _, rfl, ok, rfl⟩)) fun a_378 ha_378 => (xb_if (et_not (et_B ha_378.ef)) (xl_ret (ox_f ee_bl)) (xl_next (sub_cons (sub_cons (sub_cons (sub_cons (sub_cons (sub_cons (sub_cons (sub_cons (sub_cons (sub_no (sub_no sub_nil))))))))))))))))) (fun s_379 => (xb_bo (xo_call (o := (oF D.int)) (ea_cons (ee_var (d := (eL D.int) numbers_346) rfl) ea_nil) (fun ok => ⟨_, rfl, ok, rfl⟩)) fun a_380 ha_380 => (xb_let (st_asg (i := 10) (e := D.int) ha_380.ef) fun count_381 => (xb_b (xe_make (ns := ns_Shift) (ob := ob_Shift A_Shift) (ea_cons (ee_var (d := (eL (eT4 stx D.int D.int D.int)) third_343) rfl) ea_nil) (fun ok => ⟨_, rfl, ok, rfl⟩)) fun a_382 ha_382 => (xb_bo (xo_ownI (o := (oF (e_Shift A_Shift))) ha_382 (ee_var (d := D.int count_381) rfl) (fun _ => nno_ins) (fun ok => ⟨_, _, rfl, ok, rfl⟩)) fun a_383 ha_383 => (xb_bo (xo_call (o := (oL (oF (eT4 stx D.int D.int D.int)))) (ea_cons (ee_var (d := (eL (eT4 stx D.int D.int D.int)) third_343) rfl) (ea_cons (ee_var (d := D.int count_381) rfl) ea_nil)) (fun ok => ⟨_, _, rfl, ok, rfl⟩)) fun a_384 ha_384 => (xb_bo (xo_call (o := (oF D.bl)) (ea_cons ha_383.ef (ea_cons (ha_384.ev (fz_l fz_f)) ea_nil)) (fun ok => ⟨_, _, rfl, ok, rfl⟩)) fun a_385 ha_385 => (xb_leave ni_r (et_not (et_B ha_385.ef)) (xr_ret (ox_f ee_bl)) (xb_bo (xo_ownEq (o := (oF D.bl)) (ee_var (d := (e_Shift A_Shift) one_350) rfl) (ee_var (d := (e_Shift A_Shift) other_355) rfl) eqok_ins (fun _ => nno_bl) (fun ok => ⟨_, _, rfl, ok, rfl⟩)) fun a_386 ha_386 => (xb_bo (xo_call (o := oF D.bl) (ea_cons ha_386.ef (ea_cons (ee_eqQ (eqp_l (eqp_tup (eqps_c eqp_x (eqps_c eqp_int (eqps_c eqp_int (eqps_1 eqp_int)))))) (by decide) ((ex_sortRows (rowc_of (rowk_x (rowk_i (rowk_i rowk_i1)))) (ee_var (d := (eL (eT4 stx D.int D.int D.int)) first_335) rfl)).ev (fz_l fz_f)) ((ex_sortRows (rowc_of (rowk_x (rowk_i (rowk_i rowk_i1)))) (ee_var (d := (eL (eT4 stx D.int D.int D.int)) second_339) rfl)).ev (fz_l fz_f))) ea_nil)) (fun ok => ⟨_, _, rfl, ok, rfl⟩)) fun a_389 ha_389 => (xb_bt (xt_or (et_not (et_B ha_389.ef)) (xt_bo (xo_call (o := (oF D.bl)) (ea_cons (ee_var (d := (e_Shift A_Shift) one_350) rfl) (ea_cons (ee_var (d := (eL (eT4 stx D.int D.int D.int)) first_335) rfl) ea_nil)) (fun ok => ⟨_, _, rfl, ok, rfl⟩)) fun a_390 ha_390 => (xt_p (et_not (et_B ha_390.ef))))) fun a_391 ha_391 => (xb_leave ni_r ha_391 (xr_ret (ox_f ee_bl)) (xb_bo (xo_call (o := (oF D.bl)) (ea_cons (ee_var (d := (e_Shift A_Shift) one_350) rfl) (ea_cons (ee_var (d := (eL (eT4 stx D.int D.int D.int)) first_335) rfl) ea_nil)) (fun ok => ⟨_, _, rfl, ok, rfl⟩)) fun a_392 ha_392 => (xb_b (xe_andV ha_392.ef (xe_bo (xo_call (o := (oF D.bl)) (ea_cons (ee_var (d := (e_Shift A_Shift) other_355) rfl) (ea_cons (ee_var (d := (eL (eT4 stx D.int D.int D.int)) second_339) rfl) ea_nil)) (fun ok => ⟨_, _, rfl, ok, rfl⟩)) fun a_393 ha_393 => (xe_p ha_393.ef))) fun a_394 ha_394 => (xr_ret (ox_f ha_394))))))))))))))))))))))))))))))))))))))))))))))))))))))))))
end K01

/-! R1: cells, rows, words; the pool of labels, the numbers, the drawn rows. -/
namespace K01
open PySem L2 Y
abbrev Tx := List Nat
theorem inI_small {n : Int} (h0 : 0 ≤ n) (h : n ≤ 100000) : InI n := ⟨by omega, by omega⟩
theorem cell_ok (s : List Int) {k : Int} (h : 0 ≤ k) : H (m__law_cell s k) fun _ => True := by
  unfold m__law_cell
  refine H.b (H.ite (fun e => H.a (inR_of h (by simpa using e)) (H.p (H.p trivial))) fun _ => H.p (H.p trivial))
structure Row (r : List Int) (m : Nat) : Prop where
  len : r.length = m
  lo : ∀ x ∈ r, 0 ≤ x
  hi : ∀ x ∈ r, x < 1000
theorem row_ok (c : Int) {m : Int} (h0 : 0 ≤ m) (h : m ≤ 1000) : H (m__law_row c m) fun r => Row r m.toNat := by
  unfold m__law_row
  refine H.lt (H.lt (H.lt (H.a (inI_small h0 (by omega)) (H.b (H.fold (fun k (s : List Int × Int × Int) => Row s.1 k) ⟨rfl, by simp, by simp⟩ (fun k x s hx hs => ?_) fun s hs => ?_)))))
  · obtain ⟨rfl, hk⟩ := rangeZ_get hx
    refine H.lt (H.lt (H.b (H.c (by have := hs.len; omega) (H.b (H.p (H.p ?_))))))
    refine ⟨by simp [hs.len], fun x hx => ?_, fun x hx => ?_⟩
    · rcases List.mem_append.1 hx with hx | hx
      · exact hs.lo x hx
      · rw [List.mem_singleton] at hx
        subst hx
        split <;> omega
    · rcases List.mem_append.1 hx with hx | hx
      · exact hs.hi x hx
      · rw [List.mem_singleton] at hx
        subst hx
        split <;> omega
  · rw [rangeZ_len] at hs
    exact H.p hs
theorem Row.at {r : List Int} {m : Nat} (h : Row r m) {k : Int} (h0 : 0 ≤ k) (h1 : k < m) : InR r.length k ∧ 0 ≤ ix r k ∧ ix r k < 1000 := by
  have hl := h.len
  have hk : k.toNat < r.length := by omega
  refine ⟨inR_of h0 (by omega), ?_⟩
  rw [ix_pos h0, List.getD_eq_getElem?_getD, List.getElem?_eq_getElem hk, Option.getD_some]
  exact ⟨h.lo _ (List.getElem_mem _), h.hi _ (List.getElem_mem _)⟩
theorem log_lt {n k : Nat} (hk : 0 < k) (h : n < 2 ^ k) : n.log2 < k := by
  by_cases z : n = 0
  · subst z; simpa using hk
  · exact (Nat.log2_lt z).2 h
theorem cmul_of {i j : Int} (hi : i.natAbs < 2 ^ 500) (hj : j.natAbs < 2 ^ 500) : CMulW i j := by
  have h1 := log_lt (by decide) hi
  have h2 := log_lt (by decide) hj
  unfold CMulW
  omega
theorem cmul_small {i j : Int} (hi : -1000000000 < i ∧ i < 1000000000) (hj : -1000000000 < j ∧ j < 1000000000) : CMulW i j :=
  cmul_of (Nat.lt_of_lt_of_le (show i.natAbs < 2 ^ 30 by omega) (Nat.pow_le_pow_right (by decide) (by decide))) (Nat.lt_of_lt_of_le (show j.natAbs < 2 ^ 30 by omega) (Nat.pow_le_pow_right (by decide) (by decide)))
/-! ### words -/
def wrd : Nat → Nat → Tx
  | 0, _ => []
  | f + 1, r => if r = 0 then [] else wrd f ((r - 1) / 26) ++ [97 + (r - 1) % 26]
theorem wrd_zero : ∀ f, wrd f 0 = []
  | 0 => rfl
  | f + 1 => rfl
theorem wrd_len : ∀ f r, (wrd f r).length ≤ f
  | 0, _ => by simp [wrd]
  | f + 1, r => by
    unfold wrd
    split
    · simp
    · have := wrd_len f ((r - 1) / 26)
      simp; omega
theorem wrd_ne {f r : Nat} (h : 0 < r) : wrd (f + 1) r ≠ [] := by
  unfold wrd
  rw [if_neg (by omega)]
  simp
theorem wrd_mem : ∀ f r, ∀ c ∈ wrd f r, 97 ≤ c ∧ c ≤ 122
  | 0, _, c, h => by simp [wrd] at h
  | f + 1, r, c, h => by
    unfold wrd at h
    split at h
    · simp at h
    · rcases List.mem_append.1 h with h | h
      · exact wrd_mem f _ c h
      · rw [List.mem_singleton] at h
        omega
def wval (l : Tx) : Nat := l.foldl (fun a c => a * 26 + (c - 96)) 0
theorem wval_snoc (l : Tx) (c : Nat) : wval (l ++ [c]) = wval l * 26 + (c - 96) := by unfold wval; rw [List.foldl_append]; rfl
theorem wval_wrd : ∀ f r, r < 26 ^ f → wval (wrd f r) = r
  | 0, r, h => by
    have : r = 0 := by simpa using h
    subst this; rfl
  | f + 1, r, h => by
    unfold wrd
    split
    · rename_i e; subst e; rfl
    · rename_i e
      have h1 : (r - 1) / 26 < 26 ^ f := by
        rw [Nat.div_lt_iff_lt_mul (by decide)]
        rw [Nat.pow_succ] at h
        omega
      rw [wval_snoc, wval_wrd f _ h1]
      omega
/-- the word of a number -/
def word (n : Int) : Tx := wrd 12 (n + 1).toNat
theorem word_inj {a b : Int} (ha : 0 ≤ a) (ha' : a < 1000000000) (hb : 0 ≤ b) (hb' : b < 1000000000) (h : word a = word b) : a = b := by
  have e := congrArg wval h
  unfold word at e
  rw [wval_wrd _ _ (Nat.lt_of_lt_of_le (show (a + 1).toNat < 10000000000 by omega) (by decide)), wval_wrd _ _ (Nat.lt_of_lt_of_le (show (b + 1).toNat < 10000000000 by omega) (by decide))] at e
  omega
theorem word_ok {n : Int} (h0 : 0 ≤ n) : H (m__law_word n) fun w => w = word n := by
  unfold m__law_word
  refine H.lt (H.lt (H.a (inI_small (by decide) (by decide)) (H.b (H.fold (fun k (s : Int × Tx) => k ≤ 12 ∧ wrd 12 (n + 1).toNat = wrd (12 - k) s.1.toNat ++ s.2 ∧ s.2.length ≤ k) ⟨by decide, by simp, by simp⟩ (fun k x s hx hs => ?_) fun s hs => ?_))))
  · obtain ⟨rfl, hk⟩ := rangeZ_get hx
    obtain ⟨h1, h2, h3⟩ := hs
    have hk' : k < 12 := by omega
    have e1 : 12 - k = (12 - (k + 1)) + 1 := by omega
    refine H.b (H.w (Q := fun a => a = if 0 < s.1 then [97 + (s.1.toNat - 1) % 26] else []) (H.ite (fun hp => ?_) fun hp => ?_) fun a ha => ?_)
    · have hp : 0 < s.1 := by simpa using hp
      have hm0 : 0 ≤ (s.1 - 1) % 26 := by omega
      have hm1 : (s.1 - 1) % 26 < 26 := by omega
      refine H.a ⟨inR_of hm0 hm1, by decide⟩ (H.p ?_)
      rw [if_pos hp, ix_pos hm0]
      have e2 : ((s.1 - 1) % 26).toNat = (s.1.toNat - 1) % 26 := by omega
      have hb : (s.1.toNat - 1) % 26 < 26 := Nat.mod_lt _ (by decide)
      rw [e2]
      generalize (s.1.toNat - 1) % 26 = j at hb
      have key : ∀ j < 26, ([97, 98, 99, 100, 101, 102, 103, 104, 105, 106, 107, 108, 109, 110, 111, 112, 113, 114, 115, 116, 117, 118, 119, 120, 121, 122] : List Nat).getD j default = 97 + j := by decide
      rw [key j hb]
    · have hp : ¬ 0 < s.1 := by simpa using hp
      exact H.p (by rw [if_neg hp])
    · have la : a.length ≤ 1 := by rw [ha]; split <;> simp
      refine H.a (by omega) (H.lt (H.b (H.p (H.p ⟨by omega, ?_, by simp; omega⟩))))
      rw [h2, e1]
      show wrd (12 - (k + 1) + 1) s.1.toNat ++ s.2 = wrd (12 - (k + 1)) ((s.1 - 1) / 26).toNat ++ (a ++ s.2)
      rw [ha]
      by_cases hp : 0 < s.1
      · rw [if_pos hp]
        conv => lhs; unfold wrd
        rw [if_neg (by omega)]
        have e2 : ((s.1 - 1) / 26).toNat = (s.1.toNat - 1) / 26 := by omega
        rw [e2, List.append_assoc]
      · rw [if_neg hp]
        have z1 : s.1.toNat = 0 := by omega
        have z2 : ((s.1 - 1) / 26).toNat = 0 := by omega
        rw [z1, z2, wrd_zero, wrd_zero]
        rfl
  · obtain ⟨_, h2, h3⟩ := hs
    rw [rangeZ_len] at h2 h3
    refine H.p ?_
    show s.2 = word n
    unfold word
    rw [h2]
    simp [wrd]
theorem word_len (n : Int) : (word n).length ≤ 12 := wrd_len _ _
abbrev zz : Tx := [122, 122, 122, 122, 122, 122, 122, 122, 122, 122, 122, 122]
/-- a label that is drawn -/
def Gd (l : Tx) : Prop := l.length ≤ 25 ∧ l ≠ zz
theorem ne_zz {l : Tx} {c : Nat} (h : c ∈ l) (hc : c ≠ 122) : l ≠ zz := fun e => by
  rw [e] at h
  simp at h
  exact hc h
theorem word_zz {n : Int} (h0 : 0 ≤ n) (h1 : n < 1000000000) : word n ≠ zz := fun e => by
  have e := congrArg wval e
  unfold word at e
  rw [wval_wrd _ _ (Nat.lt_of_lt_of_le (show (n + 1).toNat < 10000000000 by omega) (by decide))] at e
  have : wval zz = 99246114928149462 := by decide
  omega
theorem gd_word {n : Int} (h0 : 0 ≤ n) (h1 : n < 1000000000) : Gd (word n) := ⟨by have := word_len n; omega, word_zz h0 h1⟩
theorem gd_pad {n : Int} (h0 : 0 ≤ n) (h1 : n < 1000000000) : Gd ((word n ++ [107, 108, 109, 110, 111, 112, 113, 114, 115, 116, 117, 118]).take 12) := by
  have hl := word_len n
  refine ⟨by rw [List.length_take]; omega, fun e => ?_⟩
  by_cases z : (word n).length = 12
  · rw [← z, List.take_left'] at e
    · exact word_zz h0 h1 e
    · rfl
  · have e2 : ((word n ++ [107, 108, 109, 110, 111, 112, 113, 114, 115, 116, 117, 118]).take 12)[(word n).length]? = some 107 := by
      rw [List.getElem?_take_of_lt (by omega), List.getElem?_append_right (Nat.le_refl _)]
      simp
    rw [e] at e2
    have := ne_zz (List.mem_of_getElem? e2) (by decide)
    exact this rfl
theorem gd_app {a b : Tx} {c : Nat} (h : a.length + b.length ≤ 25) (hm : c ∈ b) (hc : c ≠ 122) : Gd (a ++ b) := ⟨by simpa using h, ne_zz (List.mem_append_right _ hm) hc⟩
/-- the labels drawn so far -/
structure Pool (p : List Tx) (n : Nat) : Prop where
  nd : p.Nodup
  gd : ∀ l ∈ p, Gd l
  len : p.length ≤ n
theorem Pool.add {p : List Tx} {n : Nat} (h : Pool p n) {l : Tx} (g : Gd l) (hn : l ∉ p) : Pool (p ++ [l]) (n + 1) :=
  ⟨List.nodup_append.2 ⟨h.nd, by simp, fun a ha b hb => by rw [List.mem_singleton] at hb; subst hb; exact fun e => hn (e ▸ ha)⟩, fun x hx => by
    rcases List.mem_append.1 hx with hx | hx
    · exact h.gd x hx
    · rw [List.mem_singleton] at hx; subst hx; exact g, by have := h.len; simp; omega⟩
theorem Pool.up {p : List Tx} {n m : Nat} (h : Pool p n) (hm : n ≤ m) : Pool p m := ⟨h.nd, h.gd, Nat.le_trans h.len hm⟩
theorem pool_ok {r : List Int} (h : Row r 4) : H (m__law_pool r) fun p => Pool p 70 := by
  obtain ⟨i0, a0, b0⟩ := h.at (k := 0) (by decide) (by decide)
  obtain ⟨i1, a1, b1⟩ := h.at (k := 1) (by decide) (by decide)
  obtain ⟨i2, a2, b2⟩ := h.at (k := 2) (by decide) (by decide)
  obtain ⟨i3, a3, b3⟩ := h.at (k := 3) (by decide) (by decide)
  have hA : 0 ≤ ix r 0 + 1000 * (ix r 1 % 30) ∧ ix r 0 + 1000 * (ix r 1 % 30) < 1000000 := by omega
  unfold m__law_pool
  refine H.a i0 (H.a i1 (H.bt _ (word_ok hA.1) (H.lt (H.a i2 (H.bt _ (word_ok a2) (H.lt (H.a i3 (H.b ?_))))))))
  generalize ix r 0 + 1000 * (ix r 1 % 30) = A at hA
  have lA := word_len A
  have gA := gd_word hA.1 (by omega)
  refine H.w (Q := fun s => Gd s ∧ s.length ≤ 12) (H.ite (fun _ => ?_) fun _ => H.p ⟨gd_word a2 (by omega), word_len _⟩) fun s hs => ?_
  · have := word_len (ix r 2)
    refine H.a (by simp; omega) (H.a (by simp; omega) (H.b (H.p (H.p ?_))))
    have e := cut_to (word (ix r 2) ++ ([107, 108, 109, 110, 111, 112, 113, 114, 115, 116, 117, 118] : List Nat)) 12
    rw [show ((12 : Nat) : Int) = 12 from rfl] at e
    rw [e]
    exact ⟨gd_pad a2 (by omega), by rw [List.length_take]; omega⟩
  · obtain ⟨gs, ls⟩ := hs
    refine H.lt (H.a (by simp; omega) (H.a (by simp; omega) (H.a (by simp; omega) (H.a (by simp; omega) (H.a (by simp; omega) (H.b (H.fold (fun k p => Pool p k) ⟨by simp, by simp, by simp⟩ (fun k x p hx hp => ?_) fun p hp => ?_)))))))
    · have hk : k < 5 := by have := (List.getElem?_eq_some_iff.mp hx).1; simpa using this
      have gx : Gd x := by
        have hm := List.mem_of_getElem? hx
        simp only [List.mem_cons, List.not_mem_nil, or_false] at hm
        rcases hm with rfl | rfl | rfl | rfl | rfl
        · exact gA
        · rw [List.append_assoc]; exact gd_app (c := 46) (by simp; omega) (by simp) (by decide)
        · exact gs
        · rw [List.append_assoc]; exact gd_app (c := 46) (by simp; omega) (by simp) (by decide)
        · exact gd_app (c := 97) (by simp; omega) (by simp) (by decide)
      refine H.b (H.w (Q := fun q => Pool q (k + 1)) (H.ite (fun e => ?_) fun _ => H.p (hp.up (by omega))) fun q hq => H.p hq)
      have hl := hp.len
      refine H.b (H.c (by omega) (H.p (hp.add gx ?_)))
      simpa using e
    · have hp : Pool p 5 := hp
      refine H.a i3 (H.b (H.w (Q := fun q => Pool q 70) (H.ite (fun _ => ?_) fun _ => H.p (hp.up (by decide))) fun q hq => H.p hq))
      refine H.a (inI_small (by decide) (by decide)) (H.b (H.fold (fun k p => Pool p (5 + k)) hp (fun k x p hx hp => ?_) fun p hp => ?_))
      · obtain ⟨rfl, hk⟩ := rangeZ_get hx
        have hk' : k < 60 := by omega
        refine H.a i0 (H.bt _ (word_ok (by omega)) (H.lt (H.b (H.w (Q := fun q => Pool q (5 + k + 1)) (H.ite (fun e => ?_) fun _ => H.p (hp.up (by omega))) fun q hq => H.p hq))))
        have hl := hp.len
        rw [Bool.and_eq_true] at e
        refine H.b (H.c (by omega) (H.p (hp.add (gd_word (by omega) (by omega)) ?_)))
        simpa using e.1
      · rw [rangeZ_len] at hp
        exact H.p (hp.up (by simp))
/-! ### numbers -/
def Bg (n : Int) : Prop := -(10 ^ 40) < n ∧ n < 10 ^ 40
theorem Row.cut {r : List Int} {n : Nat} (h : Row r n) {a b : Int} {k : Nat} (h0 : 0 ≤ a) (hb : b = a + k) (h1 : a + k ≤ n) : Row (cutD r (some a) (some b)) k := by
  have e := cut_mid r a.toNat (a.toNat + k)
  have e1 : ((a.toNat : Nat) : Int) = a := by omega
  have e2 : ((a.toNat + k : Nat) : Int) = b := by omega
  rw [e1, e2] at e
  rw [e]
  have hl := h.len
  refine ⟨by simp; omega, fun x hx => h.lo x (List.mem_of_mem_take (List.mem_of_mem_drop hx)), fun x hx => h.hi x (List.mem_of_mem_take (List.mem_of_mem_drop hx))⟩
theorem number_ok {r : List Int} (h : Row r 14) {m : Int} : H (m__law_number r m) Bg := by
  obtain ⟨i0, a0, b0⟩ := h.at (k := 0) (by decide) (by decide)
  obtain ⟨i1, a1, b1⟩ := h.at (k := 1) (by decide) (by decide)
  unfold m__law_number
  refine H.a i0 (H.lt (H.a i0 (H.lt (H.ite (fun _ => H.a i1 (H.p ⟨by omega, by omega⟩)) fun _ => H.ite (fun _ => H.a i1 (H.a (cmul_small (by omega) (by omega)) (H.p ?_))) fun _ => ?_))))
  · have : ix r 0 / 4 % 2 = 0 ∨ ix r 0 / 4 % 2 = 1 := by omega
    rcases this with e | e <;> rw [e] <;> exact ⟨by omega, by omega⟩
  · refine H.lt (H.a (inI_small (by decide) (by decide)) (H.b (H.fold (fun k (v : Int) => 0 ≤ v ∧ v < 1000 ^ k) ⟨by decide, by decide⟩ (fun k x v hx hv => ?_) fun v hv => ?_)))
    · obtain ⟨rfl, hk⟩ := rangeZ_get hx
      obtain ⟨i, a, b⟩ := h.at (k := 1 + (k : Int)) (by omega) (by omega)
      refine H.a i (H.b (H.p (H.p ?_)))
      have e : (1000 : Int) ^ (k + 1) = 1000 ^ k * 1000 := by rw [Int.pow_succ]
      rw [e]
      omega
    · rw [rangeZ_len] at hv
      have hv : 0 ≤ v ∧ v < 1000 ^ 13 := hv
      have h39 : (1000 : Int) ^ 13 = 10 ^ 39 := by decide
      rw [h39] at hv
      refine H.b (H.w (Q := fun v => 0 ≤ v ∧ v < 10 ^ 39) (H.ite (fun _ => H.a (by decide) (H.b (H.p (H.p ?_)))) fun _ => H.p hv) fun v hv => ?_)
      · have h1 := Int.emod_nonneg v (show (10 : Int) ^ 18 ≠ 0 by decide)
        have h2 := Int.emod_lt_of_pos v (show (0 : Int) < 10 ^ 18 by decide)
        have h3 : (10 : Int) ^ 18 ≤ 10 ^ 39 := by decide
        omega
      · have hs : ix r 0 / 4 % 2 = 0 ∨ ix r 0 / 4 % 2 = 1 := by omega
        have h3 : (10 : Int) ^ 39 ≤ 10 ^ 40 := by decide
        have h4 : (10 : Nat) ^ 39 < 2 ^ 500 := by decide
        have h5 : ((10 : Nat) ^ 39 : Int) = 10 ^ 39 := by decide
        refine H.a (cmul_of ?_ ?_) (H.p ?_)
        · rcases hs with e | e <;> rw [e] <;> decide
        · have : v.natAbs < 10 ^ 39 := by omega
          exact Nat.lt_trans this h4
        · rcases hs with e | e <;> rw [e] <;> exact ⟨by omega, by omega⟩
theorem count_ok {r : List Int} (h : Row r 9) : H (m__law_count r) fun c => 0 ≤ c ∧ c < 10 ^ 40 := by
  obtain ⟨i0, a0, b0⟩ := h.at (k := 0) (by decide) (by decide)
  obtain ⟨i1, a1, b1⟩ := h.at (k := 1) (by decide) (by decide)
  unfold m__law_count
  refine H.a i0 (H.lt (H.ite (fun _ => H.a i1 (H.p ⟨by omega, by omega⟩)) fun _ => H.ite (fun _ => H.a i1 (H.p ⟨by omega, by omega⟩)) fun _ => ?_))
  refine H.lt (H.a (inI_small (by decide) (by decide)) (H.b (H.fold (fun k (v : Int) => True) trivial (fun k x v hx hv => ?_) fun v hv => ?_)))
  · obtain ⟨rfl, hk⟩ := rangeZ_get hx
    obtain ⟨i, a, b⟩ := h.at (k := 1 + (k : Int)) (by omega) (by omega)
    exact H.a i (H.b (H.p (H.p trivial)))
  · refine H.a (by decide) (H.p ?_)
    have h1 := Int.emod_nonneg v (show (10 : Int) ^ 20 + 1 ≠ 0 by decide)
    have h2 := Int.emod_lt_of_pos v (show (0 : Int) < 10 ^ 20 + 1 by decide)
    have h3 : (10 : Int) ^ 20 + 1 ≤ 10 ^ 40 := by decide
    omega
end K01

/-! R2: sorted rows; what the operators make of them. -/
namespace K01
open PySem L2 Y
abbrev Rw := Tx × Int × Int × Int
abbrev ky : Rw → List Sc := scX (scI (scI scI1))
theorem ky_inj {a b : Rw} (h : ky a = ky b) : a = b := (rowk_x (rowk_i (rowk_i rowk_i1))).inj _ _ h
theorem map_inj {α β : Type} {f : α → β} (hf : ∀ a b, f a = f b → a = b) : ∀ {xs ys : List α}, xs.map f = ys.map f → xs = ys
  | [], [], _ => rfl
  | [], _ :: _, h => by simp at h
  | _ :: _, [], h => by simp at h
  | x :: xs, y :: ys, h => by
    simp only [List.map_cons, List.cons.injEq] at h
    rw [hf _ _ h.1, map_inj hf h.2]
theorem sort_perm {xs ys : List Rw} (h : xs.Perm ys) : sortS ky xs = sortS ky ys :=
  map_inj (fun _ _ => ky_inj) (sorted_uniq (List.pairwise_map.2 (sortS_sorted xs)) (List.pairwise_map.2 (sortS_sorted ys)) ((((sortS_perm xs).trans h).trans (sortS_perm ys).symm).map ky))
theorem sort_iff {xs ys : List Rw} : sortS ky xs = sortS ky ys ↔ xs.Perm ys :=
  ⟨fun h => (sortS_perm xs).symm.trans (h ▸ sortS_perm ys), sort_perm⟩
theorem sort_len (xs : List Rw) : (sortS ky xs).length = xs.length := (sortS_perm xs).length_eq
def low (r : Rw) : Bool := decide (r.2.2.1 < r.2.1)
def inL (xs : List Rw) (c : Tx) : Bool := decide (c ∈ xs.map (·.1))
def isL (c : Tx) (r : Rw) : Bool := decide (r.1 = c)
theorem inL_t {xs : List Rw} {c : Tx} : inL xs c = true ↔ c ∈ xs.map (·.1) := by unfold inL; exact decide_eq_true_iff
theorem inL_f {xs : List Rw} {c : Tx} : inL xs c = false ↔ c ∉ xs.map (·.1) := by unfold inL; exact decide_eq_false_iff_not
/-! what may be compared -/
theorem dok_row (r : Rw) : DOk (eT4 stx D.int D.int D.int r) := dok_tup (by simp) (doks_c dok_x (doks_c dok_int (doks_c dok_int (doks_c dok_int doks_n))))
theorem msame_ok {α : Type} {e : α → D} {a b : α} (h : a = b) (d : DOk (e a)) : H (mSame e a b) (· = true) := ⟨⟨h, d⟩, rfl⟩
theorem same_b {a b : Bool} (h : a = b) : H (mSame D.bl a b) (· = true) := msame_ok h dok_b
theorem same_rows {a b : List Rw} (h : a = b) (hz : a.length ≤ 100000) : H (mSame (eU (eT4 stx D.int D.int D.int)) a b) (· = true) := msame_ok h (dok_u.2 ⟨by omega, fun r _ => dok_row r⟩)
theorem same_rowsL {a b : List Rw} (h : a = b) (hz : a.length ≤ 100000) : H (mSame (eL (eT4 stx D.int D.int D.int)) a b) (· = true) := msame_ok h (dok_l.2 ⟨by omega, fun r _ => dok_row r⟩)
/-! making -/
/-- s holds the rows xs, sorted -/
def Is (s : C_Shift) (xs : List Rw) : Prop := s.f_rows = sortS ky xs
theorem init_l {xs : List Rw} (hz : xs.length ≤ 100000) : H (m_Shift_init_l xs) fun s => Is s xs := by
  unfold m_Shift_init_l
  refine H.b (H.mapG id hz (fun x _ => H.p rfl) (H.b (H.p (H.p ?_))))
  show sortS ky (xs.map id) = _
  rw [List.map_id]
theorem init_u {xs : List Rw} (hz : xs.length ≤ 100000) : H (m_Shift_init_u xs) fun s => Is s xs := by
  unfold m_Shift_init_u
  refine H.b (H.mapG id hz (fun x _ => H.p rfl) (H.b (H.p (H.p ?_))))
  show sortS ky (xs.map id) = _
  rw [List.map_id]
theorem Is.perm {s : C_Shift} {xs ys : List Rw} (h : Is s xs) (p : xs.Perm ys) : Is s ys := Eq.trans h (sort_perm p)
theorem Is.rows {s : C_Shift} {xs : List Rw} (h : Is s xs) : s.f_rows.Perm xs := by
  have h : s.f_rows = _ := h
  rw [h]; exact sortS_perm xs
theorem Is.len {s : C_Shift} {xs : List Rw} (h : Is s xs) : s.f_rows.length = xs.length := h.rows.length_eq
/-- what is shown of a shift -/
theorem shown_ok {s : C_Shift} {xs : List Rw} (h : Is s xs) (hz : xs.length ≤ 100000) : H (m__law_shown s xs) (· = true) := by
  unfold m__law_shown
  have hl := h.len
  refine H.b (H.w (Q := (· = false)) (H.ite (fun e => by cases e) fun _ => H.bt true (same_rows h (by omega)) (H.p rfl)) fun a ha => ?_)
  subst ha
  refine H.ite (fun e => by cases e) fun _ => ?_
  unfold m_Shift_never
  refine H.bt (s.f_rows.any low) (H.b (H.mapG low (by omega) (fun x _ => H.p rfl) (H.p ?_))) ?_
  · rw [List.any_map]; rfl
  · refine H.b (H.comp low id hz (fun x _ => H.p rfl) (fun x _ _ => H.p rfl) (H.b (H.w (same_b ?_) fun a ha => H.p ha)))
    rw [List.map_id]
    rw [Bool.eq_iff_iff, List.any_eq_true, decide_eq_true_eq]
    have hp := h.rows
    constructor
    · rintro ⟨r, h1, h2⟩
      have : r ∈ xs.filter low := List.mem_filter.2 ⟨hp.mem_iff.1 h1, h2⟩
      have := List.length_pos_of_mem this
      omega
    · intro h1
      obtain ⟨r, hr⟩ := List.exists_mem_of_length_pos (l := xs.filter low) (by omega)
      obtain ⟨h2, h3⟩ := List.mem_filter.1 hr
      exact ⟨r, hp.mem_iff.2 h2, h3⟩
/-! one after the other -/
/-- labels told once -/
def Nd (xs : List Rw) : Prop := (xs.map (·.1)).Nodup
theorem Nd.perm {xs ys : List Rw} (h : Nd xs) (p : xs.Perm ys) : Nd ys := (p.map _).nodup_iff.1 h
def D1 (xs : List Rw) : List (Tx × Rw) := xs.map fun r => (r.1, r)
theorem d1_keys (xs : List Rw) : (D1 xs).map (·.1) = xs.map (·.1) := by unfold D1; rw [List.map_map]; rfl
theorem d1_get {xs : List Rw} (h : Nd xs) {r : Rw} (hr : r ∈ xs) : dget (D1 xs) r.1 = some r := dget_of_mem (by rw [d1_keys]; exact h) (List.mem_map.2 ⟨r, hr, rfl⟩)
theorem d1_perm {xs ys : List Rw} (h : Nd xs) (p : xs.Perm ys) (c : Tx) : dget (D1 xs) c = dget (D1 ys) c := by
  have h2 := h.perm p
  cases e : dget (D1 ys) c with
  | some r => exact (dget_mem (by rw [d1_keys]; exact h)).2 ((p.map _).mem_iff.2 (dget_mem' e))
  | none =>
    rw [dget_none, d1_keys] at e ⊢
    exact fun z => e ((p.map _).mem_iff.1 z)
def jn2 (r q : Rw) : Rw := (r.1, max r.2.1 (q.2.1 - r.2.2.2), min r.2.2.1 (q.2.2.1 - r.2.2.2), r.2.2.2 + q.2.2.2)
def jn (ys : List Rw) (r : Rw) : Rw := match dget (D1 ys) r.1 with
  | some q => jn2 r q
  | none => r
def plus (xs ys : List Rw) : List Rw := xs.map (jn ys) ++ ys.filter fun r => !inL xs r.1
theorem plus_perm {xs xs' ys ys' : List Rw} (h : Nd ys) (p : xs.Perm xs') (q : ys.Perm ys') : (plus xs ys).Perm (plus xs' ys') := by
  unfold plus
  have e : jn ys = jn ys' := funext fun r => by unfold jn; rw [d1_perm h q]
  have e2 : (fun r : Rw => !inL xs r.1) = fun r => !inL xs' r.1 := funext fun r => by
    have := (p.map (·.1)).mem_iff (a := r.1)
    unfold inL
    simp only [this]
  rw [e, e2]
  exact (p.map _).append (q.filter _)
theorem plus_len (xs ys : List Rw) : (plus xs ys).length ≤ xs.length + ys.length := by
  unfold plus
  have := List.length_filter_le (fun r : Rw => !inL xs r.1) ys
  simp only [List.length_append, List.length_map]
  omega
theorem put_d1 {xs : List Rw} (h : Nd xs) : putAll [] ((xs.filter fun _ => true).map fun r => (r.1, r)) = D1 xs := by
  have e : (xs.filter fun _ => true) = xs := List.filter_eq_self.2 fun _ _ => rfl
  rw [e]
  exact putAll_nodup (by rw [List.map_map]; exact h)
theorem turn_ok {xs ys : List Rw} (hx : Nd xs) (hy : Nd ys) (lx : xs.length ≤ 1000) (ly : ys.length ≤ 1000) : H (m__rows_in_turn xs ys) (· = plus xs ys) := by
  unfold m__rows_in_turn
  refine H.b (H.dcomp (fun _ => true) (fun r : Rw => r.1) id (by omega) (fun x _ => H.p rfl) (fun x _ _ => H.p rfl) (fun x _ _ => H.p rfl) (H.lt (H.b (H.dcomp (fun _ => true) (fun r : Rw => r.1) id (by omega) (fun x _ => H.p rfl) (fun x _ _ => H.p rfl) (fun x _ _ => H.p rfl) (H.lt ?_)))))
  rw [show (fun x : Rw => (x.1, id x)) = fun x => (x.1, x) from rfl, put_d1 hx, put_d1 hy, d1_keys, d1_keys]
  refine H.b (H.comp (fun c => !inL xs c) (fun c => (dget (D1 ys) c).getD default) (by simp; omega) (fun c _ => H.p ?_) (fun c hc _ => H.a (dget_isSome (by rw [d1_keys]; exact hc)) (H.p rfl)) (H.lt ?_))
  · have := dhas_false (d := D1 xs) (k := c)
    rw [d1_keys] at this
    by_cases z : c ∈ xs.map (·.1)
    · rw [(dhas_iff (d := D1 xs)).2 (by rw [d1_keys]; exact z), inL_t.2 z]
    · rw [this.2 z, inL_f.2 z]
  · refine H.b (H.mapG (fun c => jn ys ((dget (D1 xs) c).getD default)) (by simp; omega) (fun c hc => ?_) (H.lt (H.a ?_ (H.p ?_))))
    · obtain ⟨r, hr, rfl⟩ := List.mem_map.1 hc
      have e1 := d1_get hx hr
      refine H.b (H.w (Q := (· = jn ys r)) (H.ite (fun e => ?_) fun e => ?_) fun v hv => H.p ?_)
      · have hm := (dhas_iff (d := D1 ys)).1 e
        obtain ⟨q, hq⟩ := dget_some_of hm
        refine H.a (by rw [e1]; rfl) (H.a (by rw [hq]; rfl) (H.b ?_))
        unfold m__joined_row
        refine H.lt (H.lt (H.p (H.p ?_)))
        unfold jn
        rw [e1, hq]; rfl
      · refine H.a (by rw [e1]; rfl) (H.p ?_)
        have hm := dhas_false.1 e
        unfold jn
        rw [dget_none.2 hm, e1]; rfl
      · rw [hv, e1]; rfl
    · simp only [List.length_map]
      exact Nat.le_trans (Nat.add_le_add_left (List.length_filter_le _ _) _) (by simp only [List.length_map]; omega)
    · unfold plus
      have e1 : (xs.map (·.1)).map (fun c => jn ys ((dget (D1 xs) c).getD default)) = xs.map (jn ys) := by
        rw [List.map_map]
        exact List.map_congr_left fun r hr => by show jn ys ((dget (D1 xs) r.1).getD default) = _; rw [d1_get hx hr]; rfl
      have e2 : ((ys.map (·.1)).filter fun c => !inL xs c).map (fun c => (dget (D1 ys) c).getD default) = ys.filter fun r => !inL xs r.1 := by
        rw [List.filter_map, List.map_map]
        conv => rhs; rw [← List.map_id (ys.filter _)]
        refine List.map_congr_left fun r hr => ?_
        show (dget (D1 ys) r.1).getD default = r
        rw [d1_get hy (List.mem_filter.1 hr).1]; rfl
      rw [e1, e2]
theorem add_ok {s t : C_Shift} {xs ys : List Rw} (hs : Is s xs) (ht : Is t ys) (hx : Nd xs) (hy : Nd ys) (lx : xs.length ≤ 1000) (ly : ys.length ≤ 1000) : H (m_Shift_add_ s t) fun u => Is u (plus xs ys) := by
  unfold m_Shift_add_
  have px := hs.rows
  have py := ht.rows
  refine H.ite (fun e => by cases e) fun _ => H.bt _ (turn_ok (hx.perm px.symm) (hy.perm py.symm) (by rw [px.length_eq]; exact lx) (by rw [py.length_eq]; exact ly)) ?_
  have hl := plus_len s.f_rows t.f_rows
  rw [px.length_eq, py.length_eq] at hl
  exact H.b ((init_l (by omega)).w fun u hu => H.p (hu.perm (plus_perm (hy.perm py.symm) px py)))
/-- the law's own -/
theorem lplus_ok {xs ys : List Rw} (hy : Nd ys) (lx : xs.length ≤ 1000) (ly : ys.length ≤ 1000) : H (m__law_plus xs ys) (· = plus xs ys) := by
  unfold m__law_plus
  refine H.lt (H.b (H.fold (fun k s => s = (xs.take k).map (jn ys)) (by simp) (fun k x s hx hs => ?_) fun s hs => ?_))
  · have hk : k < xs.length := (List.getElem?_eq_some_iff.mp hx).1
    have hsl : s.length ≤ 1000 := by rw [hs]; simp; omega
    have fin : ∀ v, v = s ++ [jn ys x] → v = (xs.take (k + 1)).map (jn ys) := fun v hv => by
      rw [hv, hs, List.take_add_one, hx]
      simp
    refine H.b (H.comp (isL x.1) id (by omega) (fun r _ => H.p rfl) (fun r _ _ => H.p rfl) (H.lt ?_))
    rw [List.map_id]
    refine H.b (H.w (Q := (· = s ++ [jn ys x])) (H.ite (fun e => ?_) fun e => ?_) fun v hv => H.p (fin v hv))
    · have e : (ys.filter (isL x.1)) = [] := List.eq_nil_of_length_eq_zero (by simp at e; simpa using e)
      refine H.b (H.c (by omega) (H.p ?_))
      have : dget (D1 ys) x.1 = none := by
        rw [dget_none, d1_keys]
        intro z
        obtain ⟨r, h1, h2⟩ := List.mem_map.1 z
        have : r ∈ ys.filter (isL x.1) := List.mem_filter.2 ⟨h1, by unfold isL; simpa using h2⟩
        rw [e] at this
        exact absurd this (by simp)
      unfold jn
      rw [this]
    · have hp : 0 < (ys.filter (isL x.1)).length := by
        simp only [decide_eq_false_iff_not] at e
        omega
      have hin : InR (ys.filter (isL x.1)).length 0 := inR_of (by decide) (by omega)
      have hm : ix (ys.filter (isL x.1)) 0 ∈ ys.filter (isL x.1) := by
        rw [show (0 : Int) = ((0 : Nat) : Int) from rfl, ix_get hp]; exact List.getElem_mem hp
      generalize ix (ys.filter (isL x.1)) 0 = q at hm
      obtain ⟨h1, h2⟩ := List.mem_filter.1 hm
      have h2 : q.1 = x.1 := by unfold isL at h2; simpa using h2
      refine H.a hin (H.lt (H.a hin (H.lt (H.a hin (H.b (H.c (by omega) (H.p ?_)))))))
      have := d1_get hy h1
      rw [h2] at this
      unfold jn
      rw [this]; rfl
  · rw [List.take_length] at hs
    subst hs
    refine H.b (H.mapG (fun r : Rw => r.1) (by omega) (fun r _ => H.p rfl) (H.lt (H.b (H.comp (fun r => !inL xs r.1) id (by omega) (fun r _ => H.p (by unfold inL; rfl)) (fun r _ _ => H.p rfl) (H.a ?_ (H.p ?_))))))
    · simp only [List.map_id, List.length_map]
      exact Nat.le_trans (Nat.add_le_add_left (List.length_filter_le _ _) _) (by omega)
    · rw [List.map_id]; rfl
/-! many times -/
def rep1 (n : Int) (r : Rw) : Rw := (r.1, r.2.1 - min 0 ((n - 1) * r.2.2.2), r.2.2.1 - max 0 ((n - 1) * r.2.2.2), n * r.2.2.2)
def times (xs : List Rw) (n : Int) : List Rw := if n = 0 then [] else xs.map (rep1 n)
def Bd (xs : List Rw) : Prop := ∀ r ∈ xs, -(10 ^ 50) < r.2.2.2 ∧ r.2.2.2 < 10 ^ 50
theorem cm {n a : Int} (hn : 0 ≤ n ∧ n < 10 ^ 41) (ha : -(10 ^ 50) < a ∧ a < 10 ^ 50) : CMulW n a ∧ CMulW (n - 1) a := by
  have h1 : (10 : Nat) ^ 51 < 2 ^ 500 := by decide
  have h2 : ((10 : Nat) ^ 51 : Int) = 10 ^ 51 := by decide
  have h3 : (10 : Int) ^ 50 < 10 ^ 51 := by decide
  have h4 : (10 : Int) ^ 41 < 10 ^ 51 := by decide
  have q : a.natAbs < 2 ^ 500 := Nat.lt_trans (show a.natAbs < 10 ^ 51 by omega) h1
  exact ⟨cmul_of (Nat.lt_trans (show n.natAbs < 10 ^ 51 by omega) h1) q, cmul_of (Nat.lt_trans (show (n - 1).natAbs < 10 ^ 51 by omega) h1) q⟩
theorem mul_ok {s : C_Shift} {xs : List Rw} {n : Int} (hs : Is s xs) (hb : Bd xs) (hn : 0 ≤ n ∧ n < 10 ^ 41) (lx : xs.length ≤ 1000) : H (m_Shift_mul_ s n) fun u => Is u (times xs n) := by
  unfold m_Shift_mul_
  refine H.ite (fun e => by cases e) fun _ => H.ite (fun e => ?_) fun e => ?_
  · have e : n = 0 := by simpa using e
    refine H.b ((init_l (xs := []) (by simp)).w fun u hu => H.p ?_)
    show Is u (times xs n)
    unfold times
    rw [if_pos e]; exact hu
  · have e : n ≠ 0 := by simpa using e
    have px := hs.rows
    refine H.b (H.mapG (rep1 n) (by rw [px.length_eq]; omega) (fun r hr => ?_) ?_)
    · obtain ⟨c1, c2⟩ := cm hn (hb r (px.mem_iff.1 hr))
      unfold m__repeated_row
      exact H.b (H.lt (H.a c2 (H.lt (H.a c1 (H.p (H.p rfl))))))
    · refine H.b ((init_l (by simp [px.length_eq]; omega)).w fun u hu => H.p ?_)
      show Is u (times xs n)
      unfold times
      rw [if_neg e]
      exact hu.perm (px.map _)
theorem ltimes_ok {xs : List Rw} {n : Int} (hb : Bd xs) (hn : 0 ≤ n ∧ n < 10 ^ 41) (lx : xs.length ≤ 1000) : H (m__law_times xs n) (· = times xs n) := by
  unfold m__law_times times
  refine H.ite (fun e => H.p ?_) fun e => ?_
  · rw [if_pos (by simpa using e)]
  · have e : n ≠ 0 := by simpa using e
    refine H.lt (H.b (H.fold (fun k s => s = (xs.take k).map (rep1 n)) (by simp) (fun k x s hx hs => ?_) fun s hs => H.p ?_))
    · have hk : k < xs.length := (List.getElem?_eq_some_iff.mp hx).1
      obtain ⟨c1, c2⟩ := cm hn (hb x (List.mem_of_getElem? hx))
      refine H.a c2 (H.lt (H.a c1 (H.b (H.c (by rw [hs]; simp; omega) (H.p ?_)))))
      rw [hs, List.take_add_one, hx]
      simp; rfl
    · rw [List.take_length] at hs
      rw [if_neg e]; exact hs
theorem times_len (xs : List Rw) (n : Int) : (times xs n).length ≤ xs.length := by unfold times; split <;> simp
/-! back -/
def back (xs : List Rw) : List Rw := xs.map fun r => (r.1, r.2.1 + r.2.2.2, r.2.2.1 + r.2.2.2, -r.2.2.2)
theorem inv_ok {s : C_Shift} {xs : List Rw} (hs : Is s xs) (lx : xs.length ≤ 1000) : H (m_Shift_invert_ s) fun u => Is u (back xs) := by
  unfold m_Shift_invert_
  have px := hs.rows
  refine H.b (H.mapG (fun r : Rw => (r.1, r.2.1 + r.2.2.2, r.2.2.1 + r.2.2.2, -r.2.2.2)) (by rw [px.length_eq]; omega) (fun r _ => H.p rfl) (H.b ((init_l (by simp [px.length_eq]; omega)).w fun u hu => H.p (hu.perm (px.map _)))))
theorem lback_ok {xs : List Rw} (lx : xs.length ≤ 1000) : H (m__law_back xs) (· = back xs) := by
  unfold m__law_back back
  refine H.b (H.mapG (fun r : Rw => (r.1, r.2.1 + r.2.2.2, r.2.2.1 + r.2.2.2, -r.2.2.2)) (by omega) (fun r _ => H.p ?_) (H.p rfl))
  rw [Int.zero_sub]
/-! equal -/
theorem eq_ok {s t : C_Shift} {xs ys : List Rw} (hs : Is s xs) (ht : Is t ys) : H (m_Shift_eq__c s t) fun b => b = true ↔ xs.Perm ys := by
  unfold m_Shift_eq__c
  refine H.p ?_
  have hs : s.f_rows = _ := hs
  have ht : t.f_rows = _ := ht
  rw [hs, ht, Bool.true_and, decide_eq_true_eq]
  exact sort_iff
end K01

/-! R3: the drawn rows, their neighbours, the law. -/
namespace K01
open PySem L2 Y
structure Rws (xs : List Rw) : Prop where
  nd : Nd xs
  bd : Bd xs
  zz : ∀ r ∈ xs, r.1 ≠ zz
  len : xs.length ≤ 70
theorem nd_get {α : Type} {xs : List α} (h : xs.Nodup) {i j : Nat} {a : α} (hi : xs[i]? = some a) (hj : xs[j]? = some a) : i = j := by
  obtain ⟨hi1, hi2⟩ := List.getElem?_eq_some_iff.1 hi
  obtain ⟨hj1, hj2⟩ := List.getElem?_eq_some_iff.1 hj
  have key := List.pairwise_iff_getElem.1 h
  rcases Nat.lt_trichotomy i j with z | z | z
  · exact absurd (hi2.trans hj2.symm) (key i j hi1 hj1 z)
  · exact z
  · exact absurd (hj2.trans hi2.symm) (key j i hj1 hi1 z)
theorem rangeZ_nd (n : Int) : (rangeZ 0 n).Nodup := by
  unfold rangeZ
  refine List.pairwise_map.2 (List.nodup_range.imp fun {a b} h => ?_)
  omega
theorem ix_at {α : Type} [Inhabited α] {xs : List α} {k : Int} (h0 : 0 ≤ k) (h1 : k < xs.length) : xs[k.toNat]? = some (ix xs k) := by
  rw [ix_pos h0, List.getD_eq_getElem?_getD, List.getElem?_eq_getElem (by omega)]
  rfl
/-- the rows after i keys -/
structure Dr (p : List Tx) (ks : List (Int × Int)) (i : Nat) (s : List Rw) : Prop where
  len : s.length ≤ i
  nd : Nd s
  bd : Bd s
  fr : ∀ r ∈ s, ∃ j q, j < i ∧ ks[j]? = some q ∧ r.1 = ix p q.2
theorem Dr.up {p : List Tx} {ks : List (Int × Int)} {i : Nat} {s : List Rw} (h : Dr p ks i s) : Dr p ks (i + 1) s :=
  ⟨by have := h.len; omega, h.nd, h.bd, fun r hr => by
    obtain ⟨j, q, h1, h2, h3⟩ := h.fr r hr
    exact ⟨j, q, by omega, h2, h3⟩⟩
theorem Dr.add {p : List Tx} {ks : List (Int × Int)} {i : Nat} {s : List Rw} (h : Dr p ks i s) (hp : p.Nodup) (hk : (ks.map (·.2)).Nodup) (hb : ∀ q ∈ ks, 0 ≤ q.2 ∧ q.2 < p.length) {q : Int × Int} (hq : ks[i]? = some q) {a b c : Int} (hc : -(10 ^ 50) < c ∧ c < 10 ^ 50) : Dr p ks (i + 1) (s ++ [(ix p q.2, a, b, c)]) := by
  have hb0 := hb q (List.mem_of_getElem? hq)
  refine ⟨by have := h.len; simp; omega, ?_, fun r hr => ?_, fun r hr => ?_⟩
  · unfold Nd
    rw [List.map_append]
    refine List.nodup_append.2 ⟨h.nd, by simp, fun l hl m hm => ?_⟩
    simp at hm
    subst hm
    rintro rfl
    obtain ⟨r, hr, e⟩ := List.mem_map.1 hl
    obtain ⟨j, q', h1, h2, h3⟩ := h.fr r hr
    have hb1 := hb q' (List.mem_of_getElem? h2)
    have e1 := ix_at hb0.1 hb0.2
    have e2 := ix_at hb1.1 hb1.2
    rw [← h3, e] at e2
    have e3 := nd_get hp e1 e2
    have e4 : q.2 = q'.2 := by omega
    have f1 : (ks.map (·.2))[i]? = some q.2 := by rw [List.getElem?_map, hq]; rfl
    have f2 : (ks.map (·.2))[j]? = some q.2 := by rw [List.getElem?_map, h2, e4]; rfl
    have := nd_get hk f1 f2
    omega
  · rcases List.mem_append.1 hr with hr | hr
    · exact h.bd r hr
    · rw [List.mem_singleton] at hr; subst hr; exact hc
  · rcases List.mem_append.1 hr with hr | hr
    · exact h.up.fr r hr
    · rw [List.mem_singleton] at hr; subst hr; exact ⟨i, q, by omega, hq, rfl⟩
theorem rows_ok {r : List Int} {p : List Tx} {m : Int} (h : Row r 216) (hp : Pool p 70) : H (m__law_rows r p m) Rws := by
  obtain ⟨i0, a0, b0⟩ := h.at (k := 0) (by decide) (by decide)
  have hl := hp.len
  unfold m__law_rows
  refine H.lt (H.a i0 (H.b (H.w (Q := fun _ => True) (H.ite (fun _ => H.b (H.p (H.p trivial))) fun _ => H.p trivial) fun m' _ => ?_)))
  refine H.a (inI_small (by omega) (by omega)) (H.b (H.mapG (fun x => (ix r (1 + x) / 3, x)) (by rw [rangeZ_len]; omega) (fun x hx => ?_) ?_))
  · have hx := rangeZ_mem hx
    obtain ⟨i, a, b⟩ := h.at (k := 1 + x) (by omega) (by omega)
    exact H.a i (H.p rfl)
  · have pm : ((sortS (scI scI1) ((rangeZ 0 (p.length : Int)).map fun x => (ix r (1 + x) / 3, x))).map (·.2)).Perm (rangeZ 0 (p.length : Int)) := by
      refine ((sortS_perm _).map _).trans ?_
      rw [List.map_map]
      rw [show ((fun q : Int × Int => q.2) ∘ fun x => (ix r (1 + x) / 3, x)) = id from rfl, List.map_id]
    generalize sortS (scI scI1) ((rangeZ 0 (p.length : Int)).map fun x => (ix r (1 + x) / 3, x)) = ks at pm
    have hk : (ks.map (·.2)).Nodup := pm.nodup_iff.2 (rangeZ_nd _)
    have hb : ∀ q ∈ ks, 0 ≤ q.2 ∧ q.2 < p.length := fun q hq => rangeZ_mem (pm.mem_iff.1 (List.mem_map.2 ⟨q, hq, rfl⟩))
    have kl : ks.length ≤ 70 := by
      have := pm.length_eq
      rw [List.length_map, rangeZ_len] at this
      omega
    refine H.b (H.fold (fun i s => Dr p ks i s) ⟨by simp, by simp [Nd], by simp [Bd], by simp⟩ (fun i x s hx hs => ?_) fun s hs => H.p ?_)
    · have hi : i < ks.length := (List.getElem?_eq_some_iff.mp hx).1
      have hb0 := hb x (List.mem_of_getElem? hx)
      obtain ⟨i1, a1, b1⟩ := h.at (k := 1 + x.2) (by omega) (by omega)
      have sl := hs.len
      refine H.lt (H.lt (H.a i1 (H.b (H.w (Q := fun v => Dr p ks (i + 1) v) (H.ite (fun _ => ?_) fun _ => H.p hs.up) fun v hv => H.p hv))))
      have at0 : 0 ≤ 6 + 42 * (x.2 % 5) ∧ 6 + 42 * (x.2 % 5) + 42 ≤ 216 := by omega
      generalize 6 + 42 * (x.2 % 5) = t at at0
      refine H.b ((number_ok (h.cut (k := 14) (by omega) rfl (by omega))).w fun lo hlo => H.lt (H.b ((number_ok (h.cut (k := 14) (by omega) (by omega) (by omega))).w fun hi hhi => H.lt (H.b ((number_ok (h.cut (k := 14) (by omega) (by omega) (by omega))).w fun am ham => H.lt (H.a i0 ?_))))))
      have h3 : (10 : Int) ^ 40 < 10 ^ 50 := by decide
      have hc : -(10 ^ 50) < am ∧ am < 10 ^ 50 := by obtain ⟨u, v⟩ := ham; omega
      have ir : InR p.length x.2 := inR_of hb0.1 (by omega)
      exact H.b (H.w (Q := fun v => Dr p ks (i + 1) v) (H.ite (fun _ => H.a ir (H.b (H.c (by omega) (H.p (hs.add hp.nd hk hb hx hc))))) fun _ => H.a ir (H.b (H.c (by omega) (H.p (hs.add hp.nd hk hb hx hc))))) fun v hv => H.p hv)
    · have sl := hs.len
      refine ⟨hs.nd, hs.bd, fun r hr => ?_, by omega⟩
      obtain ⟨j, q, h1, h2, h3⟩ := hs.fr r hr
      have hb1 := hb q (List.mem_of_getElem? h2)
      have e2 := ix_at hb1.1 hb1.2
      rw [h3]
      exact (hp.gd _ (List.mem_of_getElem? e2)).2
/-! neighbours -/
def Nr (xs n : List Rw) : Prop := ¬ n.Perm xs ∧ n.length ≤ 1000
theorem nr_len {xs n : List Rw} (h : n.length ≠ xs.length) (hz : n.length ≤ 1000) : Nr xs n := ⟨fun p => h p.length_eq, hz⟩
theorem nr_put {A B : List Rw} {q r : Rw} (h : r ≠ q) (hz : A.length + B.length ≤ 900) : Nr (A ++ q :: B) (A ++ [r] ++ B) := by
  refine ⟨fun p => h ?_, by simp; omega⟩
  rw [show A ++ q :: B = A ++ [q] ++ B by simp] at p
  have p := (List.perm_append_left_iff A).1 ((List.perm_append_right_iff B).1 p)
  exact List.singleton_perm_singleton.1 p
theorem near_ok {xs : List Rw} (h : Rws xs) : H (m__law_near xs) fun ns => ns.length ≤ 100000 ∧ ∀ n ∈ ns, Nr xs n := by
  have hl := h.len
  unfold m__law_near
  refine H.a (by simp; omega) (H.lt (H.a (inI_small (by omega) (by omega)) (H.b (H.comp (fun x => decide (x < 5) || decide (x = (xs.length : Int) - 1)) id (by rw [rangeZ_len]; omega) (fun x _ => H.p rfl) (fun x _ _ => H.p rfl) ?_))))
  rw [List.map_id]
  have hf : ∀ x ∈ (rangeZ 0 (xs.length : Int)).filter (fun x => decide (x < 5) || decide (x = (xs.length : Int) - 1)), 0 ≤ x ∧ x < xs.length := fun x hx => rangeZ_mem (List.mem_filter.1 hx).1
  have hfl := List.length_filter_le (fun x : Int => decide (x < 5) || decide (x = (xs.length : Int) - 1)) (rangeZ 0 (xs.length : Int))
  rw [rangeZ_len] at hfl
  generalize (rangeZ 0 (xs.length : Int)).filter (fun x => decide (x < 5) || decide (x = (xs.length : Int) - 1)) = fs at hf hfl
  refine H.b (H.fold (fun i ns => ns.length ≤ 1 + 5 * i ∧ ∀ n ∈ ns, Nr xs n) ⟨by simp, fun n hn => ?_⟩ (fun i x ns hx hns => ?_) fun ns hns => H.p ⟨by omega, hns.2⟩)
  · rw [List.mem_singleton] at hn
    subst hn
    exact nr_len (by simp) (by simp; omega)
  · have hi : i < fs.length := (List.getElem?_eq_some_iff.mp hx).1
    have hx0 := hf x (List.mem_of_getElem? hx)
    refine H.a (inR_of hx0.1 hx0.2) (H.lt ?_)
    have eA : cutD xs none (some x) = xs.take x.toNat := by
      have := cut_to xs x.toNat
      rwa [show ((x.toNat : Nat) : Int) = x by omega] at this
    have eB : cutD xs (some (x + 1)) none = xs.drop (x.toNat + 1) := by
      have := cut_from xs (x.toNat + 1)
      rwa [show ((x.toNat + 1 : Nat) : Int) = x + 1 by omega] at this
    have eq : xs = xs.take x.toNat ++ ix xs x :: xs.drop (x.toNat + 1) := by
      have e1 := ix_at hx0.1 hx0.2
      obtain ⟨u, v⟩ := List.getElem?_eq_some_iff.1 e1
      rw [← v, List.getElem_cons_drop, List.take_append_drop]
    have hz := h.zz (ix xs x) (List.mem_of_getElem? (ix_at hx0.1 hx0.2))
    rw [eA, eB]
    generalize ix xs x = q at eq hz
    generalize xs.take x.toNat = A at eq
    generalize xs.drop (x.toNat + 1) = B at eq
    have el : xs.length = A.length + B.length + 1 := by rw [eq]; simp; omega
    obtain ⟨n1, n2⟩ := hns
    have put : ∀ {ns : List (List Rw)} {n : List Rw}, (∀ m ∈ ns, Nr xs m) → Nr xs n → ∀ m ∈ ns ++ [n], Nr xs m := fun h1 h2 m hm => by
      rcases List.mem_append.1 hm with hm | hm
      · exact h1 m hm
      · rw [List.mem_singleton] at hm; subst hm; exact h2
    have nr : ∀ {r : Rw}, r ≠ q → Nr xs (A ++ [r] ++ B) := fun hr => by rw [eq]; exact nr_put hr (by omega)
    have m1 := put n2 (n := A ++ B) (nr_len (by rw [el]; simp) (by simp; omega))
    refine H.a (by omega) (H.b (H.c (by omega) (H.a (by simp; omega) (H.a (by simp; omega) (H.b (H.c (by simp; omega) ?_))))))
    have m2 := put m1 (nr (r := (zz, q.2.1, q.2.2.1, q.2.2.2)) fun e => hz (by rw [← e]))
    refine H.a (by simp; omega) (H.a (by simp; omega) (H.b (H.c (by simp; omega) ?_)))
    have m3 := put m2 (nr (r := (q.1, q.2.1 + 1, q.2.2.1, q.2.2.2)) fun e => by have := congrArg (fun r : Rw => r.2.1) e; simp at this; omega)
    refine H.a (by simp; omega) (H.a (by simp; omega) (H.b (H.c (by simp; omega) ?_)))
    have m4 := put m3 (nr (r := (q.1, q.2.1, q.2.2.1 + 1, q.2.2.2)) fun e => by have := congrArg (fun r : Rw => r.2.2.1) e; simp at this; omega)
    refine H.a (by simp; omega) (H.a (by simp; omega) (H.b (H.c (by simp; omega) (H.p ⟨by simp; omega, ?_⟩))))
    exact put m4 (nr (r := (q.1, q.2.1, q.2.2.1, q.2.2.2 + 1)) fun e => by have := congrArg (fun r : Rw => r.2.2.2) e; simp at this; omega)
theorem eq_t {s t : C_Shift} {xs ys : List Rw} (hs : Is s xs) (ht : Is t ys) (p : xs.Perm ys) : H (m_Shift_eq__c s t) (· = true) := (eq_ok hs ht).w fun b hb => hb.2 p
theorem eq_f {s t : C_Shift} {xs ys : List Rw} (hs : Is s xs) (ht : Is t ys) (p : ¬ xs.Perm ys) : H (m_Shift_eq__c s t) (· = false) := (eq_ok hs ht).w fun b hb => Bool.eq_false_iff.2 fun e => p (hb.1 e)
theorem compared_ok {s : C_Shift} {xs : List Rw} (hs : Is s xs) (h : Rws xs) : H (m__law_compared s xs) (· = true) := by
  have hl := h.len
  unfold m__law_compared
  refine H.b ((init_l (by simp; omega)).w fun t ht => H.bt true (eq_t hs ht (List.reverse_perm xs).symm) (H.bt true (same_b rfl) ?_))
  refine H.bt false (H.ite (fun e => by cases e) fun _ => H.bt true (eq_t hs hs (List.Perm.refl _)) (H.bt true (same_b rfl) (H.p rfl))) (H.ite (fun e => by cases e) fun _ => ?_)
  refine H.b ((near_ok h).w fun ns hns => H.on (H.loop (fun _ _ => True) trivial (fun i x u hx _ => ?_) fun u _ => ?_))
  · have hx := hns.2 x (List.mem_of_getElem? hx)
    have hz := hx.2
    refine H.b ((init_l (by omega)).w fun t ht => H.bt false (eq_f hs ht fun p => hx.1 p.symm) (H.bt true (same_b rfl) ?_))
    refine H.bt false (H.ite (fun e => by cases e) fun _ => H.b ((init_l (by omega)).w fun t ht => H.bt false (eq_f ht hs hx.1) (H.bt true (same_b rfl) (H.p rfl)))) (H.ite (fun e => by cases e) fun _ => H.p trivial)
  · refine H.on (H.loop (fun _ _ => True) trivial (fun i x u hx _ => ?_) fun u _ => H.p rfl)
    unfold m_Shift_eq__p
    exact H.bt false (H.p rfl) (H.bt true (same_b rfl) (H.ite (fun e => by cases e) fun _ => H.p trivial))
theorem law_ok (s : List Int) : H (m_law s) (· = true) := by
  unfold m_law
  refine H.b ((cell_ok s (by decide)).w fun c0 _ => H.b ((row_ok c0 (m := 4) (by decide) (by decide)).w fun r0 h0 => H.b ((pool_ok h0).w fun p hp => H.lt ?_)))
  refine H.b ((cell_ok s (by decide)).w fun c1 _ => H.b ((row_ok c1 (m := 216) (by decide) (by decide)).w fun r1 h1 => H.b ((rows_ok h1 hp).w fun A hA => H.lt ?_)))
  refine H.b ((cell_ok s (by decide)).w fun c2 _ => H.b ((row_ok c2 (m := 216) (by decide) (by decide)).w fun r2 h2 => H.b ((rows_ok h2 hp).w fun B hB => H.lt ?_)))
  refine H.b ((cell_ok s (by decide)).w fun c3 _ => H.b ((row_ok c3 (m := 216) (by decide) (by decide)).w fun r3 h3 => H.b ((rows_ok h3 hp).w fun C hC => H.lt ?_)))
  refine H.b ((cell_ok s (by decide)).w fun c4 _ => H.b ((row_ok c4 (m := 9) (by decide) (by decide)).w fun r4 h4 => H.lt (H.lt ?_)))
  have lA := hA.len
  have lB := hB.len
  have lC := hC.len
  refine H.b (H.w (Q := fun o => Is o A) (H.b ((init_l (by omega)).w fun o ho => H.p ho)) fun o ho => H.lt ?_)
  refine H.bt true (H.bt true (same_rowsL rfl (by omega)) (H.p rfl)) (H.ite (fun e => by cases e) fun _ => H.b (H.c (by omega) ?_))
  refine H.b ((init_u (by omega)).w fun t ht => H.lt ?_)
  refine H.bt true (shown_ok ho (by omega)) (H.bt false (H.ite (fun e => by cases e) fun _ => H.bt true (shown_ok ht (by omega)) (H.p rfl)) (H.ite (fun e => by cases e) fun _ => ?_))
  have z1 := plus_len A B
  have z2 := plus_len B A
  have z3 := plus_len A A
  refine H.b ((add_ok ho ht hA.nd hB.nd (by omega) (by omega)).w fun u hu => H.bt _ (lplus_ok hB.nd (by omega) (by omega)) (H.bt true (shown_ok hu (by omega)) ?_))
  refine H.bt false (H.ite (fun e => by cases e) fun _ => H.b ((add_ok ht ho hB.nd hA.nd (by omega) (by omega)).w fun u hu => H.bt _ (lplus_ok hA.nd (by omega) (by omega)) (H.bt true (shown_ok hu (by omega)) (H.p rfl)))) (H.ite (fun e => by cases e) fun _ => ?_)
  refine H.b ((add_ok ho ho hA.nd hA.nd (by omega) (by omega)).w fun u hu => H.bt _ (lplus_ok hA.nd (by omega) (by omega)) (H.bt true (shown_ok hu (by omega)) ?_))
  refine H.bt false (H.ite (fun e => by cases e) fun _ => H.b ((inv_ok ho (by omega)).w fun u hu => H.bt _ (lback_ok (by omega)) (H.bt true (shown_ok hu (by simp [back]; omega)) (H.p rfl)))) (H.ite (fun e => by cases e) fun _ => ?_)
  obtain ⟨i8, a8, b8⟩ := h4.at (k := 8) (by decide) (by decide)
  refine H.a i8 (H.on (H.loop (fun _ _ => True) trivial (fun i x v hx _ => ?_) fun v _ => ?_))
  · have hx0 : 0 ≤ x ∧ x < 10 ^ 41 := by
      have hm := List.mem_of_getElem? hx
      simp only [List.mem_cons, List.not_mem_nil, or_false] at hm
      rcases hm with rfl | rfl | rfl | rfl <;> omega
    have z := times_len A x
    refine H.b ((mul_ok ho hA.bd hx0 (by omega)).w fun u hu => H.bt _ (ltimes_ok hA.bd hx0 (by omega)) (H.bt true (shown_ok hu (by omega)) (H.ite (fun e => by cases e) fun _ => H.p trivial)))
  · refine H.b ((count_ok h4).w fun n hn => H.lt ?_)
    have hn0 : 0 ≤ n ∧ n < 10 ^ 41 := by
      have : (10 : Int) ^ 40 < 10 ^ 41 := by decide
      omega
    have z := times_len C n
    refine H.b ((init_l (by omega)).w fun u hu => H.b ((mul_ok hu hC.bd hn0 (by omega)).w fun u hu => H.bt _ (ltimes_ok hC.bd hn0 (by omega)) (H.bt true (shown_ok hu (by omega)) (H.ite (fun e => by cases e) fun _ => ?_))))
    refine H.b ((eq_ok ho ht).w fun b hb => H.bt true (same_b ?_) ?_)
    · rw [Bool.eq_iff_iff, decide_eq_true_eq, hb]
      exact sort_iff.symm
    · refine H.bt false (H.ite (fun e => by cases e) fun _ => H.bt true (compared_ok ho hA) (H.p rfl)) (H.ite (fun e => by cases e) fun _ => ?_)
      exact H.bt true (shown_ok ho (by omega)) (H.bt true (H.ite (fun _ => H.bt true (shown_ok ht (by omega)) (H.p rfl)) fun e => by cases e) (H.p rfl))
end K01

namespace K01
open PySem PySem.Spec PyProof.Rows L2 Y NdefX
theorem all_mk {l : PySem.W.OpenLaw} {w : World} {K : PySem.W.Frag} {h : Heap} {mg : Str → Option Value} {fa : Addr} {f0 f1 f2 f3 f4 f5 f6 f7 f8 f9 f10 f11 f12 f13 f14 f15 f16 f17 f18 f19 f20 f21 f22 f23 : Addr} (X : K.In h) (G : h.Ns mainGlobals mg) (hfa : mg "law" = some (.ref fa))
    {od0 an0 od1 an1 od2 an2 od3 an3 od4 an4 od5 an5 od6 an6 od7 an7 od8 an8 od9 an9 od10 an10 od11 an11 od12 an12 od13 an13 od14 an14 od15 an15 od16 an16 od17 an17 od18 an18 od19 an19 od20 an20 od21 an21 od22 an22 od23 an23 : Option Addr} {sl0 sl1 sl2 sl3 sl4 sl5 sl6 sl7 sl8 sl9 sl10 sl11 sl12 sl13 sl14 sl15 sl16 sl17 sl18 sl19 sl20 sl21 sl22 sl23 : Array (Option Value)} {oc0 kV0 dc0 pm0 cd0 ct0 oc1 kV1 dc1 pm1 cd1 ct1 oc2 kV2 dc2 pm2 cd2 ct2 oc3 kV3 dc3 pm3 cd3 ct3 oc4 kV4 dc4 pm4 cd4 ct4 oc5 kV5 dc5 pm5 cd5 ct5 oc6 kV6 dc6 pm6 cd6 ct6 oc7 kV7 dc7 pm7 cd7 ct7 oc8 kV8 dc8 pm8 cd8 ct8 oc9 kV9 dc9 pm9 cd9 ct9 oc10 kV10 dc10 pm10 cd10 ct10 oc11 kV11 dc11 pm11 cd11 ct11 oc12 kV12 dc12 pm12 cd12 ct12 oc13 kV13 dc13 pm13 cd13 ct13 oc14 kV14 dc14 pm14 cd14 ct14 oc15 kV15 dc15 pm15 cd15 ct15 oc16 kV16 dc16 pm16 cd16 ct16 oc17 kV17 dc17 pm17 cd17 ct17 oc18 kV18 dc18 pm18 cd18 ct18 oc19 kV19 dc19 pm19 cd19 ct19 oc20 kV20 dc20 pm20 cd20 ct20 oc21 kV21 dc21 pm21 cd21 ct21 oc22 kV22 dc22 pm22 cd22 ct22 oc23 kV23 dc23 pm23 cd23 ct23 : Value}
    {A_Shift : Addr}
    {p1 : Addr} {pr1 : List Value}
    {fo_mul ro_mul : Option Value}
    (g_Shift : PySem.W.nsIn K mainGlobals "Shift" = some (some (.ref A_Shift)))
    (a0 : PySem.W.findIn K (.ref A_Shift) "__init__" = some (some (.ref f0)))
    (fn0 : PySem.W.isFn K (.ref f0) = true)
    (l0 : K.lookup f0 = some ⟨oc0, od0, .func (PySem.W.fnOf "__init__" "Shift.__init__" (defArgs s_Shift_init_l) (defBody s_Shift_init_l) (defScope s_Shift_init_l) .none kV0 dc0 pm0 an0 cd0 ct0), sl0⟩)
    (c0 : PySem.W.codeIn K cd0 "Shift.__init__" = true)
    (k0 : PySem.W.keepIn K (.ref f0) = true)
    (a1 : PySem.W.findIn K (.ref A_Shift) "never" = some (some (.ref p1)))
    (pg1 : PySem.W.specialIn K (.ref p1) "__get__" = some (some (.builtin "property.__get__")))
    (pt1 : PySem.W.takesIn K (.ref p1) = some true)
    (pq1 : PySem.W.recIn K p1 "property" = some (.ref f1 :: pr1))
    (l1 : K.lookup f1 = some ⟨oc1, od1, .func (PySem.W.fnOf "never" "Shift.never" (defArgs s_Shift_never) (defBody s_Shift_never) (defScope s_Shift_never) .none kV1 dc1 pm1 an1 cd1 ct1), sl1⟩)
    (c1 : PySem.W.codeIn K cd1 "Shift.never" = true)
    (k1 : PySem.W.keepIn K (.ref f1) = true)
    (a2 : PySem.W.nsIn K mainGlobals "_joined_row" = some (some (.ref f2)))
    (l2 : K.lookup f2 = some ⟨oc2, od2, .func (PySem.W.fnOf "_joined_row" "_joined_row" (defArgs s__joined_row) (defBody s__joined_row) (defScope s__joined_row) .none kV2 dc2 pm2 an2 cd2 ct2), sl2⟩)
    (c2 : PySem.W.codeIn K cd2 "_joined_row" = true)
    (k2 : PySem.W.keepIn K (.ref f2) = true)
    (a3 : PySem.W.nsIn K mainGlobals "_rows_in_turn" = some (some (.ref f3)))
    (l3 : K.lookup f3 = some ⟨oc3, od3, .func (PySem.W.fnOf "_rows_in_turn" "_rows_in_turn" (defArgs s__rows_in_turn) (defBody s__rows_in_turn) (defScope s__rows_in_turn) .none kV3 dc3 pm3 an3 cd3 ct3), sl3⟩)
    (c3 : PySem.W.codeIn K cd3 "_rows_in_turn" = true)
    (k3 : PySem.W.keepIn K (.ref f3) = true)
    (a4 : PySem.W.nsIn K mainGlobals "_repeated_row" = some (some (.ref f4)))
    (l4 : K.lookup f4 = some ⟨oc4, od4, .func (PySem.W.fnOf "_repeated_row" "_repeated_row" (defArgs s__repeated_row) (defBody s__repeated_row) (defScope s__repeated_row) .none kV4 dc4 pm4 an4 cd4 ct4), sl4⟩)
    (c4 : PySem.W.codeIn K cd4 "_repeated_row" = true)
    (k4 : PySem.W.keepIn K (.ref f4) = true)
    (a5 : PySem.W.findIn K (.ref A_Shift) "__add__" = some (some (.ref f5)))
    (fn5 : PySem.W.isFn K (.ref f5) = true)
    (l5 : K.lookup f5 = some ⟨oc5, od5, .func (PySem.W.fnOf "__add__" "Shift.__add__" (defArgs s_Shift_add_) (defBody s_Shift_add_) (defScope s_Shift_add_) .none kV5 dc5 pm5 an5 cd5 ct5), sl5⟩)
    (c5 : PySem.W.codeIn K cd5 "Shift.__add__" = true)
    (k5 : PySem.W.keepIn K (.ref f5) = true)
    (a6 : PySem.W.findIn K (.ref A_Shift) "__invert__" = some (some (.ref f6)))
    (fn6 : PySem.W.isFn K (.ref f6) = true)
    (l6 : K.lookup f6 = some ⟨oc6, od6, .func (PySem.W.fnOf "__invert__" "Shift.__invert__" (defArgs s_Shift_invert_) (defBody s_Shift_invert_) (defScope s_Shift_invert_) .none kV6 dc6 pm6 an6 cd6 ct6), sl6⟩)
    (c6 : PySem.W.codeIn K cd6 "Shift.__invert__" = true)
    (k6 : PySem.W.keepIn K (.ref f6) = true)
    (a7 : PySem.W.findIn K (.ref A_Shift) "__mul__" = some (some (.ref f7)))
    (fn7 : PySem.W.isFn K (.ref f7) = true)
    (l7 : K.lookup f7 = some ⟨oc7, od7, .func (PySem.W.fnOf "__mul__" "Shift.__mul__" (defArgs s_Shift_mul_) (defBody s_Shift_mul_) (defScope s_Shift_mul_) .none kV7 dc7 pm7 an7 cd7 ct7), sl7⟩)
    (c7 : PySem.W.codeIn K cd7 "Shift.__mul__" = true)
    (k7 : PySem.W.keepIn K (.ref f7) = true)
    (a8 : PySem.W.findIn K (.ref A_Shift) "__eq__" = some (some (.ref f8)))
    (fn8 : PySem.W.isFn K (.ref f8) = true)
    (l8 : K.lookup f8 = some ⟨oc8, od8, .func (PySem.W.fnOf "__eq__" "Shift.__eq__" (defArgs s_Shift_eq__c) (defBody s_Shift_eq__c) (defScope s_Shift_eq__c) .none kV8 dc8 pm8 an8 cd8 ct8), sl8⟩)
    (c8 : PySem.W.codeIn K cd8 "Shift.__eq__" = true)
    (k8 : PySem.W.keepIn K (.ref f8) = true)
    (a9 : PySem.W.nsIn K mainGlobals "_law_cell" = some (some (.ref f9)))
    (l9 : K.lookup f9 = some ⟨oc9, od9, .func (PySem.W.fnOf "_law_cell" "_law_cell" (defArgs s__law_cell) (defBody s__law_cell) (defScope s__law_cell) .none kV9 dc9 pm9 an9 cd9 ct9), sl9⟩)
    (c9 : PySem.W.codeIn K cd9 "_law_cell" = true)
    (k9 : PySem.W.keepIn K (.ref f9) = true)
    (a10 : PySem.W.nsIn K mainGlobals "_law_row" = some (some (.ref f10)))
    (l10 : K.lookup f10 = some ⟨oc10, od10, .func (PySem.W.fnOf "_law_row" "_law_row" (defArgs s__law_row) (defBody s__law_row) (defScope s__law_row) .none kV10 dc10 pm10 an10 cd10 ct10), sl10⟩)
    (c10 : PySem.W.codeIn K cd10 "_law_row" = true)
    (k10 : PySem.W.keepIn K (.ref f10) = true)
    (a11 : PySem.W.nsIn K mainGlobals "_law_word" = some (some (.ref f11)))
    (l11 : K.lookup f11 = some ⟨oc11, od11, .func (PySem.W.fnOf "_law_word" "_law_word" (defArgs s__law_word) (defBody s__law_word) (defScope s__law_word) .none kV11 dc11 pm11 an11 cd11 ct11), sl11⟩)
    (c11 : PySem.W.codeIn K cd11 "_law_word" = true)
    (k11 : PySem.W.keepIn K (.ref f11) = true)
    (a12 : PySem.W.nsIn K mainGlobals "_law_number" = some (some (.ref f12)))
    (l12 : K.lookup f12 = some ⟨oc12, od12, .func (PySem.W.fnOf "_law_number" "_law_number" (defArgs s__law_number) (defBody s__law_number) (defScope s__law_number) .none kV12 dc12 pm12 an12 cd12 ct12), sl12⟩)
    (c12 : PySem.W.codeIn K cd12 "_law_number" = true)
    (k12 : PySem.W.keepIn K (.ref f12) = true)
    (a13 : PySem.W.nsIn K mainGlobals "_law_count" = some (some (.ref f13)))
    (l13 : K.lookup f13 = some ⟨oc13, od13, .func (PySem.W.fnOf "_law_count" "_law_count" (defArgs s__law_count) (defBody s__law_count) (defScope s__law_count) .none kV13 dc13 pm13 an13 cd13 ct13), sl13⟩)
    (c13 : PySem.W.codeIn K cd13 "_law_count" = true)
    (k13 : PySem.W.keepIn K (.ref f13) = true)
    (a14 : PySem.W.nsIn K mainGlobals "_law_pool" = some (some (.ref f14)))
    (l14 : K.lookup f14 = some ⟨oc14, od14, .func (PySem.W.fnOf "_law_pool" "_law_pool" (defArgs s__law_pool) (defBody s__law_pool) (defScope s__law_pool) .none kV14 dc14 pm14 an14 cd14 ct14), sl14⟩)
    (c14 : PySem.W.codeIn K cd14 "_law_pool" = true)
    (k14 : PySem.W.keepIn K (.ref f14) = true)
    (a15 : PySem.W.nsIn K mainGlobals "_law_rows" = some (some (.ref f15)))
    (l15 : K.lookup f15 = some ⟨oc15, od15, .func (PySem.W.fnOf "_law_rows" "_law_rows" (defArgs s__law_rows) (defBody s__law_rows) (defScope s__law_rows) .none kV15 dc15 pm15 an15 cd15 ct15), sl15⟩)
    (c15 : PySem.W.codeIn K cd15 "_law_rows" = true)
    (k15 : PySem.W.keepIn K (.ref f15) = true)
    (a16 : PySem.W.nsIn K mainGlobals "_law_plus" = some (some (.ref f16)))
    (l16 : K.lookup f16 = some ⟨oc16, od16, .func (PySem.W.fnOf "_law_plus" "_law_plus" (defArgs s__law_plus) (defBody s__law_plus) (defScope s__law_plus) .none kV16 dc16 pm16 an16 cd16 ct16), sl16⟩)
    (c16 : PySem.W.codeIn K cd16 "_law_plus" = true)
    (k16 : PySem.W.keepIn K (.ref f16) = true)
    (a17 : PySem.W.nsIn K mainGlobals "_law_times" = some (some (.ref f17)))
    (l17 : K.lookup f17 = some ⟨oc17, od17, .func (PySem.W.fnOf "_law_times" "_law_times" (defArgs s__law_times) (defBody s__law_times) (defScope s__law_times) .none kV17 dc17 pm17 an17 cd17 ct17), sl17⟩)
    (c17 : PySem.W.codeIn K cd17 "_law_times" = true)
    (k17 : PySem.W.keepIn K (.ref f17) = true)
    (a18 : PySem.W.nsIn K mainGlobals "_law_back" = some (some (.ref f18)))
    (l18 : K.lookup f18 = some ⟨oc18, od18, .func (PySem.W.fnOf "_law_back" "_law_back" (defArgs s__law_back) (defBody s__law_back) (defScope s__law_back) .none kV18 dc18 pm18 an18 cd18 ct18), sl18⟩)
    (c18 : PySem.W.codeIn K cd18 "_law_back" = true)
    (k18 : PySem.W.keepIn K (.ref f18) = true)
    (a19 : PySem.W.nsIn K mainGlobals "_law_near" = some (some (.ref f19)))
    (l19 : K.lookup f19 = some ⟨oc19, od19, .func (PySem.W.fnOf "_law_near" "_law_near" (defArgs s__law_near) (defBody s__law_near) (defScope s__law_near) .none kV19 dc19 pm19 an19 cd19 ct19), sl19⟩)
    (c19 : PySem.W.codeIn K cd19 "_law_near" = true)
    (k19 : PySem.W.keepIn K (.ref f19) = true)
    (a20 : PySem.W.nsIn K mainGlobals "_law_same" = some (some (.ref f20)))
    (l20 : K.lookup f20 = some ⟨oc20, od20, .func (PySem.W.fnOf "_law_same" "_law_same" (defArgs s__law_same_n) (defBody s__law_same_n) (defScope s__law_same_n) .none kV20 dc20 pm20 an20 cd20 ct20), sl20⟩)
    (c20 : PySem.W.codeIn K cd20 "_law_same" = true)
    (k20 : PySem.W.keepIn K (.ref f20) = true)
    (a21 : PySem.W.nsIn K mainGlobals "_law_shown" = some (some (.ref f21)))
    (l21 : K.lookup f21 = some ⟨oc21, od21, .func (PySem.W.fnOf "_law_shown" "_law_shown" (defArgs s__law_shown) (defBody s__law_shown) (defScope s__law_shown) .none kV21 dc21 pm21 an21 cd21 ct21), sl21⟩)
    (c21 : PySem.W.codeIn K cd21 "_law_shown" = true)
    (k21 : PySem.W.keepIn K (.ref f21) = true)
    (a22 : PySem.W.nsIn K mainGlobals "_law_compared" = some (some (.ref f22)))
    (l22 : K.lookup f22 = some ⟨oc22, od22, .func (PySem.W.fnOf "_law_compared" "_law_compared" (defArgs s__law_compared) (defBody s__law_compared) (defScope s__law_compared) .none kV22 dc22 pm22 an22 cd22 ct22), sl22⟩)
    (c22 : PySem.W.codeIn K cd22 "_law_compared" = true)
    (k22 : PySem.W.keepIn K (.ref f22) = true)
    (a23 : PySem.W.nsIn K mainGlobals "law" = some (some (.ref f23)))
    (l23 : K.lookup f23 = some ⟨oc23, od23, .func (PySem.W.fnOf "law" "law" (defArgs s_law) (defBody s_law) (defScope s_law) .none kV23 dc23 pm23 an23 cd23 ct23), sl23⟩)
    (c23 : PySem.W.codeIn K cd23 "law" = true)
    (k23 : PySem.W.keepIn K (.ref f23) = true)
    (n_any : PySem.W.nsIn K mainGlobals "any" = some none)
    (n_bool : PySem.W.nsIn K mainGlobals "bool" = some none)
    (n_int : PySem.W.nsIn K mainGlobals "int" = some none)
    (n_isinstance : PySem.W.nsIn K mainGlobals "isinstance" = some none)
    (n_len : PySem.W.nsIn K mainGlobals "len" = some none)
    (n_list : PySem.W.nsIn K mainGlobals "list" = some none)
    (n_max : PySem.W.nsIn K mainGlobals "max" = some none)
    (n_min : PySem.W.nsIn K mainGlobals "min" = some none)
    (n_range : PySem.W.nsIn K mainGlobals "range" = some none)
    (n_sorted : PySem.W.nsIn K mainGlobals "sorted" = some none)
    (n_str : PySem.W.nsIn K mainGlobals "str" = some none)
    (n_tuple : PySem.W.nsIn K mainGlobals "tuple" = some none)
    (pg_Shift : PySem.W.plainGet K A_Shift Str.empty = true)
    (hd_Shift : PySem.W.hasDictIn K A_Shift = true)
    (po_Shift : PySem.W.plainOver K A_Shift = true)
    (sa_Shift : PySem.W.findIn K (.ref A_Shift) "__setattr__" = some (some (.builtin "object.__setattr__")))
    (na_Shift_rows : PySem.W.findIn K (.ref A_Shift) "rows" = some none)
    (mk_Shift : PySem.W.makesIn K A_Shift = true)
    (kp_Shift : PySem.W.keepIn K (.ref A_Shift) = true)
    (sf_Shift : PySem.W.selfFirst K A_Shift = true)
    (ri_Shift_mul : PySem.W.findIn K (.ref A_Shift) "__rmul__" = some none)
    (io_mul : PySem.W.findIn K (.type "int") "__mul__" = some fo_mul)
    (ir_mul : PySem.W.findIn K (.type "int") "__rmul__" = some ro_mul)
    (s0_Shift : PySem.W.subIn K (.type "NoneType") (.ref A_Shift) = some false)
    (s1_Shift : PySem.W.subIn K (.type "bool") (.ref A_Shift) = some false)
    (s2_Shift : PySem.W.subIn K (.type "int") (.ref A_Shift) = some false)
    (s3_Shift : PySem.W.subIn K (.type "str") (.ref A_Shift) = some false)
    (s4_Shift : PySem.W.subIn K (.type "list") (.ref A_Shift) = some false)
    (s5_Shift : PySem.W.subIn K (.type "tuple") (.ref A_Shift) = some false)
    (gc_Shift : PySem.W.findIn K (.ref A_Shift) "__class__" = some (some (.builtin "object.__class__")))
    (mo_Shift : PySem.W.mroIn K A_Shift (.type "object") = some true)
    (ty_Shift : PySem.W.typeIn K (.ref A_Shift) = some (.type "type"))
    (spc : PySem.W.specialIn K (.builtin "object.__class__") "__get__" = some (some (.builtin "getset_descriptor.__get__")))
    (tak : PySem.W.takesIn K (.builtin "object.__class__") = some true)
    : ∃ fd : FuncData, (∀ (s : Shared) (v : Value), BindsTo s fd ⟨[v], []⟩ [("script", v)]) ∧ ∀ base : Heap, K.In base → base.Ns mainGlobals mg → FnOk l.prog w K mg base CX0 12 fa fd ["script"] (spX K (R1 m_law (eL D.int) (oF D.bl))) := by
  have e := hfa.symm.trans (PySem.W.mg_of X G a23)
  cases e
  have T : Txt mg := ⟨PySem.W.mg_none_of X G n_any, PySem.W.mg_none_of X G n_bool, PySem.W.mg_none_of X G n_int, PySem.W.mg_none_of X G n_isinstance, PySem.W.mg_none_of X G n_len, PySem.W.mg_none_of X G n_list, PySem.W.mg_none_of X G n_max, PySem.W.mg_none_of X G n_min, PySem.W.mg_none_of X G n_range, PySem.W.mg_none_of X G n_sorted, PySem.W.mg_none_of X G n_str, PySem.W.mg_none_of X G n_tuple⟩
  refine ⟨PySem.W.fnOf "law" "law" (defArgs s_law) (defBody s_law) (defScope s_law) .none kV23 dc23 pm23 an23 cd23 ct23, fun s v => .of_eq rfl, fun base _ _ => ?_⟩
  have CT : ClT l.prog w K mg base A_Shift := ⟨PySem.W.mg_of X G g_Shift, ⟨pg_Shift, hd_Shift, po_Shift, sa_Shift⟩, na_Shift_rows, ⟨⟨pg_Shift, hd_Shift, po_Shift, sa_Shift⟩, gc_Shift, spc, tak, mo_Shift, ty_Shift, s0_Shift, s1_Shift, s2_Shift, s3_Shift, s4_Shift, s5_Shift⟩⟩
  have F_Shift_init_l := ok_Shift_init_l (fun_mk (st := s_Shift_init_l) l0 c0 k0).g T CT
  have K_Shift_l : MakC l.prog w K mg base "Shift" A_Shift 1 ["self", "rows"] (spI K A_Shift (RI1 m_Shift_init_l (eL (eT4 stx D.int D.int D.int)) ns_Shift (ob_Shift A_Shift))) := ⟨_, _, PySem.W.mg_of X G g_Shift, ⟨mk_Shift, a0, fn0, kp_Shift⟩, F_Shift_init_l, ((fun_mk (st := s_Shift_init_l) l0 c0 k0).binds (fun _ _ _ _ _ _ us hl => match us, hl with | [_, _], _ => rfl))⟩
  have F_Shift_init_u := ok_Shift_init_u (fun_mk (st := s_Shift_init_u) l0 c0 k0).g T CT
  have KN_Shift_u_0_rows : MakN l.prog w K mg base "Shift" A_Shift 1 ["self", "rows"] 0 ["rows"] (fun vs zs => vs ++ zs) (spI K A_Shift (RI1 m_Shift_init_u (eU (eT4 stx D.int D.int D.int)) ns_Shift (ob_Shift A_Shift))) := ⟨_, _, _, PySem.W.mg_of X G g_Shift, ⟨mk_Shift, a0, fn0, kp_Shift⟩, F_Shift_init_u, kbn_all (fun_mk (st := s_Shift_init_u) l0 c0 k0) (fun _ _ _ _ _ _ us ws h1 h2 => match us, h1, ws, h2 with | [_], _, [_], _ => rfl)⟩
  have F_Shift_never := ok_Shift_never (fun_mk (st := s_Shift_never) l1 c1 k1).g T CT
  have P_Shift_never : PrpC l.prog w K mg base A_Shift "never" 1 (spX K (R1 m_Shift_never (e_Shift A_Shift) (oF D.bl))) := ⟨_, _, _, ⟨pg_Shift, hd_Shift, po_Shift, sa_Shift⟩, ⟨a1, pg1, pt1, _, pq1⟩, F_Shift_never, ((fun_mk (st := s_Shift_never) l1 c1 k1).binds (fun _ _ _ _ _ _ us hl => match us, hl with | [_], _ => rfl))⟩
  have F__joined_row := ok__joined_row (fun_mk (st := s__joined_row) l2 c2 k2).g T CT
  have C__joined_row : Cal l.prog w K mg base "_joined_row" 1 ["first", "second"] (spX K (R2 m__joined_row (eT4 stx D.int D.int D.int) (eT4 stx D.int D.int D.int) (oF (eT4 stx D.int D.int D.int)))) := Cal.mk' (fun_mk (st := s__joined_row) l2 c2 k2) (PySem.W.mg_of X G a2) (F__joined_row) (fun _ _ _ _ _ _ us hl => match us, hl with | [_, _], _ => rfl) (fun _ _ _ _ _ _ us hl => match us, hl with | [_, _], _ => rfl)
  have F__rows_in_turn := ok__rows_in_turn (fun_mk (st := s__rows_in_turn) l3 c3 k3).g T CT C__joined_row
  have C__rows_in_turn : Cal l.prog w K mg base "_rows_in_turn" 2 ["first", "second"] (spX K (R2 m__rows_in_turn (eU (eT4 stx D.int D.int D.int)) (eU (eT4 stx D.int D.int D.int)) (oL (oF (eT4 stx D.int D.int D.int))))) := Cal.mk' (fun_mk (st := s__rows_in_turn) l3 c3 k3) (PySem.W.mg_of X G a3) (F__rows_in_turn) (fun _ _ _ _ _ _ us hl => match us, hl with | [_, _], _ => rfl) (fun _ _ _ _ _ _ us hl => match us, hl with | [_, _], _ => rfl)
  have F__repeated_row := ok__repeated_row (fun_mk (st := s__repeated_row) l4 c4 k4).g T CT
  have C__repeated_row : Cal l.prog w K mg base "_repeated_row" 1 ["row", "times"] (spX K (R2 m__repeated_row (eT4 stx D.int D.int D.int) D.int (oF (eT4 stx D.int D.int D.int)))) := Cal.mk' (fun_mk (st := s__repeated_row) l4 c4 k4) (PySem.W.mg_of X G a4) (F__repeated_row) (fun _ _ _ _ _ _ us hl => match us, hl with | [_, _], _ => rfl) (fun _ _ _ _ _ _ us hl => match us, hl with | [_, _], _ => rfl)
  have F_Shift_add_ := ok_Shift_add_ (fun_mk (st := s_Shift_add_) l5 c5 k5).g T CT K_Shift_l C__rows_in_turn
  have B_Shift_add_ : OprC l.prog w K mg base A_Shift (PySem.dunder Operator.Add.info.2) 3 ["self", "other"] (spX K (R2 m_Shift_add_ (e_Shift A_Shift) (e_Shift A_Shift) (oF (e_Shift A_Shift)))) := ⟨_, _, ⟨(by rw [show PySem.dunder Operator.Add.info.2 = ("__add__" : Str) from by decide]; exact a5), fn5, sf_Shift⟩, F_Shift_add_, ((fun_mk (st := s_Shift_add_) l5 c5 k5).binds (fun _ _ _ _ _ _ us hl => match us, hl with | [_, _], _ => rfl))⟩
  have F_Shift_invert_ := ok_Shift_invert_ (fun_mk (st := s_Shift_invert_) l6 c6 k6).g T CT K_Shift_l
  have U_Shift_invert_ : OprC l.prog w K mg base A_Shift "__invert__" 3 ["self"] (spX K (R1 m_Shift_invert_ (e_Shift A_Shift) (oF (e_Shift A_Shift)))) := ⟨_, _, ⟨a6, fn6, sf_Shift⟩, F_Shift_invert_, ((fun_mk (st := s_Shift_invert_) l6 c6 k6).binds (fun _ _ _ _ _ _ us hl => match us, hl with | [_], _ => rfl))⟩
  have F_Shift_mul_ := ok_Shift_mul_ (fun_mk (st := s_Shift_mul_) l7 c7 k7).g T CT K_Shift_l C__repeated_row
  have BI_Shift_mul_ : OprI l.prog w K mg base A_Shift Operator.Mult 3 ["self", "other"] (spX K (R2 m_Shift_mul_ (e_Shift A_Shift) D.int (oF (e_Shift A_Shift)))) := ⟨⟨_, _, ⟨(by rw [show PySem.dunder Operator.Mult.info.2 = ("__mul__" : Str) from by decide]; exact a7), fn7, sf_Shift⟩, F_Shift_mul_, ((fun_mk (st := s_Shift_mul_) l7 c7 k7).binds (fun _ _ _ _ _ _ us hl => match us, hl with | [_, _], _ => rfl))⟩, _, _, (by rw [show PySem.dunderR Operator.Mult.info.2 = ("__rmul__" : Str) from by decide]; exact ri_Shift_mul), (by rw [show PySem.dunder Operator.Mult.info.2 = ("__mul__" : Str) from by decide]; exact io_mul), (by rw [show PySem.dunderR Operator.Mult.info.2 = ("__rmul__" : Str) from by decide]; exact ir_mul), s2_Shift⟩
  have F_Shift_eq__c := ok_Shift_eq__c (fun_mk (st := s_Shift_eq__c) l8 c8 k8).g T CT
  have Q_Shift_eq__c : OprC l.prog w K mg base A_Shift "__eq__" 1 ["self", "other"] (spX K (R2 m_Shift_eq__c (e_Shift A_Shift) (e_Shift A_Shift) (oF D.bl))) := ⟨_, _, ⟨a8, fn8, sf_Shift⟩, F_Shift_eq__c, ((fun_mk (st := s_Shift_eq__c) l8 c8 k8).binds (fun _ _ _ _ _ _ us hl => match us, hl with | [_, _], _ => rfl))⟩
  have F_Shift_eq__p := ok_Shift_eq__p (fun_mk (st := s_Shift_eq__p) l8 c8 k8).g T CT
  have Q_Shift_eq__p : OprC l.prog w K mg base A_Shift "__eq__" 1 ["self", "other"] (spX K (R2 m_Shift_eq__p (e_Shift A_Shift) ePD (oF D.bl))) := ⟨_, _, ⟨a8, fn8, sf_Shift⟩, F_Shift_eq__p, ((fun_mk (st := s_Shift_eq__p) l8 c8 k8).binds (fun _ _ _ _ _ _ us hl => match us, hl with | [_, _], _ => rfl))⟩
  have F__law_cell := ok__law_cell (fun_mk (st := s__law_cell) l9 c9 k9).g T CT
  have C__law_cell : Cal l.prog w K mg base "_law_cell" 1 ["script", "k"] (spX K (R2 m__law_cell (eL D.int) D.int (oF D.int))) := Cal.mk' (fun_mk (st := s__law_cell) l9 c9 k9) (PySem.W.mg_of X G a9) (F__law_cell) (fun _ _ _ _ _ _ us hl => match us, hl with | [_, _], _ => rfl) (fun _ _ _ _ _ _ us hl => match us, hl with | [_, _], _ => rfl)
  have F__law_row := ok__law_row (fun_mk (st := s__law_row) l10 c10 k10).g T CT
  have C__law_row : Cal l.prog w K mg base "_law_row" 1 ["cell", "many"] (spX K (R2 m__law_row D.int D.int (oL (oF D.int)))) := Cal.mk' (fun_mk (st := s__law_row) l10 c10 k10) (PySem.W.mg_of X G a10) (F__law_row) (fun _ _ _ _ _ _ us hl => match us, hl with | [_, _], _ => rfl) (fun _ _ _ _ _ _ us hl => match us, hl with | [_, _], _ => rfl)
  have F__law_word := ok__law_word (fun_mk (st := s__law_word) l11 c11 k11).g T CT
  have C__law_word : Cal l.prog w K mg base "_law_word" 1 ["number"] (spX K (R1 m__law_word D.int (oF stx))) := Cal.mk' (fun_mk (st := s__law_word) l11 c11 k11) (PySem.W.mg_of X G a11) (F__law_word) (fun _ _ _ _ _ _ us hl => match us, hl with | [_], _ => rfl) (fun _ _ _ _ _ _ us hl => match us, hl with | [_], _ => rfl)
  have F__law_number := ok__law_number (fun_mk (st := s__law_number) l12 c12 k12).g T CT
  have C__law_number : Cal l.prog w K mg base "_law_number" 1 ["numbers", "most"] (spX K (R2 m__law_number (eL D.int) D.int (oF D.int))) := Cal.mk' (fun_mk (st := s__law_number) l12 c12 k12) (PySem.W.mg_of X G a12) (F__law_number) (fun _ _ _ _ _ _ us hl => match us, hl with | [_, _], _ => rfl) (fun _ _ _ _ _ _ us hl => match us, hl with | [_, _], _ => rfl)
  have F__law_count := ok__law_count (fun_mk (st := s__law_count) l13 c13 k13).g T CT
  have C__law_count : Cal l.prog w K mg base "_law_count" 1 ["numbers"] (spX K (R1 m__law_count (eL D.int) (oF D.int))) := Cal.mk' (fun_mk (st := s__law_count) l13 c13 k13) (PySem.W.mg_of X G a13) (F__law_count) (fun _ _ _ _ _ _ us hl => match us, hl with | [_], _ => rfl) (fun _ _ _ _ _ _ us hl => match us, hl with | [_], _ => rfl)
  have F__law_pool := ok__law_pool (fun_mk (st := s__law_pool) l14 c14 k14).g T CT C__law_word
  have C__law_pool : Cal l.prog w K mg base "_law_pool" 2 ["row"] (spX K (R1 m__law_pool (eL D.int) (oL (oF stx)))) := Cal.mk' (fun_mk (st := s__law_pool) l14 c14 k14) (PySem.W.mg_of X G a14) (F__law_pool) (fun _ _ _ _ _ _ us hl => match us, hl with | [_], _ => rfl) (fun _ _ _ _ _ _ us hl => match us, hl with | [_], _ => rfl)
  have F__law_rows := ok__law_rows (fun_mk (st := s__law_rows) l15 c15 k15).g T CT C__law_number
  have C__law_rows : Cal l.prog w K mg base "_law_rows" 2 ["row", "pool", "most"] (spX K (R3 m__law_rows (eL D.int) (eL stx) D.int (oL (oF (eT4 stx D.int D.int D.int))))) := Cal.mk' (fun_mk (st := s__law_rows) l15 c15 k15) (PySem.W.mg_of X G a15) (F__law_rows) (fun _ _ _ _ _ _ us hl => match us, hl with | [_, _, _], _ => rfl) (fun _ _ _ _ _ _ us hl => match us, hl with | [_, _, _], _ => rfl)
  have F__law_plus := ok__law_plus (fun_mk (st := s__law_plus) l16 c16 k16).g T CT
  have C__law_plus : Cal l.prog w K mg base "_law_plus" 1 ["first", "second"] (spX K (R2 m__law_plus (eL (eT4 stx D.int D.int D.int)) (eL (eT4 stx D.int D.int D.int)) (oL (oF (eT4 stx D.int D.int D.int))))) := Cal.mk' (fun_mk (st := s__law_plus) l16 c16 k16) (PySem.W.mg_of X G a16) (F__law_plus) (fun _ _ _ _ _ _ us hl => match us, hl with | [_, _], _ => rfl) (fun _ _ _ _ _ _ us hl => match us, hl with | [_, _], _ => rfl)
  have F__law_times := ok__law_times (fun_mk (st := s__law_times) l17 c17 k17).g T CT
  have C__law_times : Cal l.prog w K mg base "_law_times" 1 ["own_rows", "times"] (spX K (R2 m__law_times (eL (eT4 stx D.int D.int D.int)) D.int (oL (oF (eT4 stx D.int D.int D.int))))) := Cal.mk' (fun_mk (st := s__law_times) l17 c17 k17) (PySem.W.mg_of X G a17) (F__law_times) (fun _ _ _ _ _ _ us hl => match us, hl with | [_, _], _ => rfl) (fun _ _ _ _ _ _ us hl => match us, hl with | [_, _], _ => rfl)
  have F__law_back := ok__law_back (fun_mk (st := s__law_back) l18 c18 k18).g T CT
  have C__law_back : Cal l.prog w K mg base "_law_back" 1 ["own_rows"] (spX K (R1 m__law_back (eL (eT4 stx D.int D.int D.int)) (oL (oF (eT4 stx D.int D.int D.int))))) := Cal.mk' (fun_mk (st := s__law_back) l18 c18 k18) (PySem.W.mg_of X G a18) (F__law_back) (fun _ _ _ _ _ _ us hl => match us, hl with | [_], _ => rfl) (fun _ _ _ _ _ _ us hl => match us, hl with | [_], _ => rfl)
  have F__law_near := ok__law_near (fun_mk (st := s__law_near) l19 c19 k19).g T CT
  have C__law_near : Cal l.prog w K mg base "_law_near" 1 ["own_rows"] (spX K (R1 m__law_near (eL (eT4 stx D.int D.int D.int)) (oF (eL (eL (eT4 stx D.int D.int D.int)))))) := Cal.mk' (fun_mk (st := s__law_near) l19 c19 k19) (PySem.W.mg_of X G a19) (F__law_near) (fun _ _ _ _ _ _ us hl => match us, hl with | [_], _ => rfl) (fun _ _ _ _ _ _ us hl => match us, hl with | [_], _ => rfl)
  have CS : SameC l.prog w K mg base "_law_same" 10 := same_c (fun_mk (st := s__law_same_l) l20 c20 k20).g T CT (fun k sp ok => Cal.mk' (fun_mk (st := s__law_same_l) l20 c20 k20) (PySem.W.mg_of X G a20) ok (fun _ _ _ _ _ _ us hl => match us, hl with | [_, _], _ => rfl) (fun _ _ _ _ _ _ us hl => match us, hl with | [_, _], _ => rfl))
  have F__law_shown := ok__law_shown (fun_mk (st := s__law_shown) l21 c21 k21).g T CT CS P_Shift_never
  have C__law_shown : Cal l.prog w K mg base "_law_shown" 11 ["shift", "own_rows"] (spX K (R2 m__law_shown (e_Shift A_Shift) (eL (eT4 stx D.int D.int D.int)) (oF D.bl))) := Cal.mk' (fun_mk (st := s__law_shown) l21 c21 k21) (PySem.W.mg_of X G a21) (F__law_shown) (fun _ _ _ _ _ _ us hl => match us, hl with | [_, _], _ => rfl) (fun _ _ _ _ _ _ us hl => match us, hl with | [_, _], _ => rfl)
  have F__law_compared := ok__law_compared (fun_mk (st := s__law_compared) l22 c22 k22).g T CT CS Q_Shift_eq__c K_Shift_l C__law_near Q_Shift_eq__p
  have C__law_compared : Cal l.prog w K mg base "_law_compared" 11 ["shift", "own_rows"] (spX K (R2 m__law_compared (e_Shift A_Shift) (eL (eT4 stx D.int D.int D.int)) (oF D.bl))) := Cal.mk' (fun_mk (st := s__law_compared) l22 c22 k22) (PySem.W.mg_of X G a22) (F__law_compared) (fun _ _ _ _ _ _ us hl => match us, hl with | [_, _], _ => rfl) (fun _ _ _ _ _ _ us hl => match us, hl with | [_, _], _ => rfl)
  exact ok_law (fun_mk (st := s_law) l23 c23 k23).g T CT C__law_pool C__law_row C__law_cell C__law_rows K_Shift_l CS KN_Shift_u_0_rows C__law_shown C__law_plus B_Shift_add_ C__law_back U_Shift_invert_ C__law_times BI_Shift_mul_ C__law_count Q_Shift_eq__c C__law_compared
end K01
open PySem PySem.W PyProof.Rows
set_option maxRecDepth 100000 in
set_option maxHeartbeats 0 in
theorem PySem.Challenge.cw_playhall_k01_shift_operators_holds : PySem.Challenge.rw_playhall_k01_shift_operators.Holds := by
  w_on; o_law; k_head; (case hw => w_witness2)
  k_fill
  refine L2.walk_of (l := PySem.Challenge.rw_playhall_k01_shift_operators) (n := 63) (k := 12) (x := "script") (CX := fun _ => L2.CX0) (sp := fun w => Y.spX _ (Y.R1 K01.m_law (Y.eL Y.D.int) (Y.oF Y.D.bl))) rfl (by decide) rfl ⟨rfl, by decide, by decide⟩ (fun w h Y => PySem.W.kIn_of Y) ?F (fun _ _ a ns hl _ hS => Y.law_start hS ⟨ns, rfl, (K01.law_ok ns).ok, by show Y.O.fr (Y.D.bl true) = Y.O.fr (Y.D.bl (K01.m_law ns).val); rw [(K01.law_ok ns).val]⟩) (fun _ _ _ _ _ h => h)
  case F =>
    intro w mg fa h KX G hmg
    refine' K01.all_mk KX G hmg ?g_Shift ?a0 ?fn0 ?l0 ?c0 ?k0 ?a1 ?pg1 ?pt1 ?pq1 ?l1 ?c1 ?k1 ?a2 ?l2 ?c2 ?k2 ?a3 ?l3 ?c3 ?k3 ?a4 ?l4 ?c4 ?k4 ?a5 ?fn5 ?l5 ?c5 ?k5 ?a6 ?fn6 ?l6 ?c6 ?k6 ?a7 ?fn7 ?l7 ?c7 ?k7 ?a8 ?fn8 ?l8 ?c8 ?k8 ?a9 ?l9 ?c9 ?k9 ?a10 ?l10 ?c10 ?k10 ?a11 ?l11 ?c11 ?k11 ?a12 ?l12 ?c12 ?k12 ?a13 ?l13 ?c13 ?k13 ?a14 ?l14 ?c14 ?k14 ?a15 ?l15 ?c15 ?k15 ?a16 ?l16 ?c16 ?k16 ?a17 ?l17 ?c17 ?k17 ?a18 ?l18 ?c18 ?k18 ?a19 ?l19 ?c19 ?k19 ?a20 ?l20 ?c20 ?k20 ?a21 ?l21 ?c21 ?k21 ?a22 ?l22 ?c22 ?k22 ?a23 ?l23 ?c23 ?k23 ?n_any ?n_bool ?n_int ?n_isinstance ?n_len ?n_list ?n_max ?n_min ?n_range ?n_sorted ?n_str ?n_tuple ?pg_Shift ?hd_Shift ?po_Shift ?sa_Shift ?na_Shift_rows ?mk_Shift ?kp_Shift ?sf_Shift ?ri_Shift_mul ?io_mul ?ir_mul ?s0_Shift ?s1_Shift ?s2_Shift ?s3_Shift ?s4_Shift ?s5_Shift ?gc_Shift ?mo_Shift ?ty_Shift ?spc ?tak
    (case g_Shift => k_is); (case a0 => k_is); (case fn0 => k_is); (case l0 => k_is); (case c0 => k_is); (case k0 => k_is); (case a1 => k_is); (case pg1 => k_is); (case pt1 => k_is); (case pq1 => k_is); (case l1 => k_is); (case c1 => k_is); (case k1 => k_is); (case a2 => k_is); (case l2 => k_is); (case c2 => k_is); (case k2 => k_is); (case a3 => k_is); (case l3 => k_is); (case c3 => k_is); (case k3 => k_is); (case a4 => k_is); (case l4 => k_is); (case c4 => k_is); (case k4 => k_is); (case a5 => k_is); (case fn5 => k_is); (case l5 => k_is); (case c5 => k_is); (case k5 => k_is); (case a6 => k_is); (case fn6 => k_is); (case l6 => k_is); (case c6 => k_is); (case k6 => k_is); (case a7 => k_is); (case fn7 => k_is); (case l7 => k_is); (case c7 => k_is); (case k7 => k_is); (case a8 => k_is); (case fn8 => k_is); (case l8 => k_is); (case c8 => k_is); (case k8 => k_is); (case a9 => k_is); (case l9 => k_is); (case c9 => k_is); (case k9 => k_is); (case a10 => k_is); (case l10 => k_is); (case c10 => k_is); (case k10 => k_is); (case a11 => k_is); (case l11 => k_is); (case c11 => k_is); (case k11 => k_is); (case a12 => k_is); (case l12 => k_is); (case c12 => k_is); (case k12 => k_is); (case a13 => k_is); (case l13 => k_is); (case c13 => k_is); (case k13 => k_is); (case a14 => k_is); (case l14 => k_is); (case c14 => k_is); (case k14 => k_is); (case a15 => k_is); (case l15 => k_is); (case c15 => k_is); (case k15 => k_is); (case a16 => k_is); (case l16 => k_is); (case c16 => k_is); (case k16 => k_is); (case a17 => k_is); (case l17 => k_is); (case c17 => k_is); (case k17 => k_is); (case a18 => k_is); (case l18 => k_is); (case c18 => k_is); (case k18 => k_is); (case a19 => k_is); (case l19 => k_is); (case c19 => k_is); (case k19 => k_is); (case a20 => k_is); (case l20 => k_is); (case c20 => k_is); (case k20 => k_is); (case a21 => k_is); (case l21 => k_is); (case c21 => k_is); (case k21 => k_is); (case a22 => k_is); (case l22 => k_is); (case c22 => k_is); (case k22 => k_is); (case a23 => k_is); (case l23 => k_is); (case c23 => k_is); (case k23 => k_is); (case n_any => k_is); (case n_bool => k_is); (case n_int => k_is); (case n_isinstance => k_is); (case n_len => k_is); (case n_list => k_is); (case n_max => k_is); (case n_min => k_is); (case n_range => k_is); (case n_sorted => k_is); (case n_str => k_is); (case n_tuple => k_is); (case pg_Shift => k_is); (case hd_Shift => k_is); (case po_Shift => k_is); (case sa_Shift => k_is); (case na_Shift_rows => k_is); (case mk_Shift => k_is); (case kp_Shift => k_is); (case sf_Shift => k_is); (case ri_Shift_mul => k_is); (case io_mul => k_is); (case ir_mul => k_is); (case s0_Shift => k_is); (case s1_Shift => k_is); (case s2_Shift => k_is); (case s3_Shift => k_is); (case s4_Shift => k_is); (case s5_Shift => k_is); (case gc_Shift => k_is); (case mo_Shift => k_is); (case ty_Shift => k_is); (case spc => k_is); (case tak => k_is)
