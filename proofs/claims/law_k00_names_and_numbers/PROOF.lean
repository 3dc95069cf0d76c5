import PyProof.Rows.All
import Wide.All
import OpenK.AllK
import Wide.FinOn
import HandS.ForMost
import HandS.Flow
import HandS.Evl
import HandS.Walk
import HandS.IsInst
import HandS.Codes
import HandS.Conv
import HandS.Defaults
import HandS.NoneIn
import HandS.StrMore
import PySem.Challenge.RW_playhall_k00_names_and_numbers
set_option Elab.async false
set_option linter.all false
set_option maxRecDepth 100000
set_option maxHeartbeats 4000000
namespace Z
open PySem L2
/-! ### data -/
inductive D where
  | non | bl (b : Bool) | int (i : Int) | str (s : Str) | lst (xs : List D) | tup (xs : List D)
  | ins (C : Addr) (ns : List Str) (xs : List D) | dic (ks : List Key) (xs : List D) | v (x : V)
mutual
def Rep (K : PySem.W.Frag) (H : Hp) : D → V → Prop
  | .non, x => x = .non
  | .bl b, x => x = .bl b
  | .int i, x => x = .int i
  | .str s, x => x = .str s
  | .v y, x => x = y
  | .lst ds, x => ∃ a vs, x = .ref a ∧ SqL K H a vs ∧ Reps K H ds vs
  | .tup ds, x => ∃ a vs, x = .ref a ∧ SqT K H a vs ∧ Reps K H ds vs
  | .ins C ns ds, x => ∃ a dx vs, x = .ref a ∧ H a = some (.ins C dx (ns.zip vs)) ∧ ns.length = ds.length ∧ Reps K H ds vs
  | .dic ks ds, x => ∃ a vs, x = .ref a ∧ Rd H a (.dK (ks.zip vs)) ∧ ks.length = ds.length ∧ Reps K H ds vs
def Reps (K : PySem.W.Frag) (H : Hp) : List D → List V → Prop
  | [], vs => vs = []
  | d :: ds, vs => ∃ x ws, vs = x :: ws ∧ Rep K H d x ∧ Reps K H ds ws
end
section
variable {K : PySem.W.Frag} {H H' : Hp}
theorem rd_mono {a : Addr} {u : HO} (e : Same H H') (h : Rd H a u) : Rd H' a u := by
  rcases h with h | ⟨o, h⟩
  · exact .inl (e _ _ h)
  · exact .inr ⟨o, e _ _ h⟩
theorem sqt_mono {a : Addr} {xs : List V} (e : Same H H') (h : SqT K H a xs) : SqT K H' a xs := by
  rcases h with h | h
  · exact .inl (rd_mono e h)
  · exact .inr h
mutual
theorem Rep.mono (e : Same H H') : ∀ {d : D} {x : V}, Rep K H d x → Rep K H' d x
  | .non, _, h => by simpa [Rep] using h
  | .bl _, _, h => by simpa [Rep] using h
  | .int _, _, h => by simpa [Rep] using h
  | .str _, _, h => by simpa [Rep] using h
  | .v _, _, h => by simpa [Rep] using h
  | .lst ds, _, h => by
    unfold Rep at h ⊢
    obtain ⟨a, vs, h1, h2, h3⟩ := h
    exact ⟨a, vs, h1, e.seq h2, Reps.mono e h3⟩
  | .tup ds, _, h => by
    unfold Rep at h ⊢
    obtain ⟨a, vs, h1, h2, h3⟩ := h
    exact ⟨a, vs, h1, sqt_mono e h2, Reps.mono e h3⟩
  | .ins C ns ds, _, h => by
    unfold Rep at h ⊢
    obtain ⟨a, dx, vs, h1, h2, h4, h3⟩ := h
    exact ⟨a, dx, vs, h1, e _ _ h2, h4, Reps.mono e h3⟩
  | .dic ks ds, _, h => by
    unfold Rep at h ⊢
    obtain ⟨a, vs, h1, h2, h4, h3⟩ := h
    exact ⟨a, vs, h1, rd_mono e h2, h4, Reps.mono e h3⟩
theorem Reps.mono (e : Same H H') : ∀ {ds : List D} {vs : List V}, Reps K H ds vs → Reps K H' ds vs
  | [], _, h => by simpa [Reps] using h
  | d :: ds, _, h => by
    unfold Reps at h ⊢
    obtain ⟨x, ws, h1, h2, h3⟩ := h
    exact ⟨x, ws, h1, Rep.mono e h2, Reps.mono e h3⟩
end
theorem Reps.len : ∀ {ds : List D} {vs : List V}, Reps K H ds vs → vs.length = ds.length
  | [], _, h => by unfold Reps at h; subst h; rfl
  | d :: ds, _, h => by
    unfold Reps at h
    obtain ⟨x, ws, rfl, h2, h3⟩ := h
    simp [Reps.len h3]
theorem Reps.nil : Reps K H [] [] := by unfold Reps; rfl
theorem Reps.cons {d : D} {ds : List D} {x : V} {vs : List V} (h : Rep K H d x) (t : Reps K H ds vs) : Reps K H (d :: ds) (x :: vs) := by
  unfold Reps; exact ⟨x, vs, rfl, h, t⟩
theorem Reps.append : ∀ {ds es : List D} {vs ws : List V}, Reps K H ds vs → Reps K H es ws → Reps K H (ds ++ es) (vs ++ ws)
  | [], _, _, _, h, g => by unfold Reps at h; subst h; exact g
  | d :: ds, _, _, _, h, g => by
    unfold Reps at h
    obtain ⟨x, us, rfl, h2, h3⟩ := h
    exact Reps.cons h2 (Reps.append h3 g)
theorem Reps.get : ∀ {ds : List D} {vs : List V} {i : Nat} {d : D}, Reps K H ds vs → ds[i]? = some d → ∃ x, vs[i]? = some x ∧ Rep K H d x
  | [], _, _, _, _, e => by simp at e
  | d :: ds, _, 0, d', h, e => by
    unfold Reps at h
    obtain ⟨x, us, rfl, h2, h3⟩ := h
    simp at e; subst e
    exact ⟨x, rfl, h2⟩
  | d :: ds, _, i + 1, d', h, e => by
    unfold Reps at h
    obtain ⟨x, us, rfl, h2, h3⟩ := h
    simp at e
    obtain ⟨y, h4, h5⟩ := Reps.get h3 e
    exact ⟨y, by simpa using h4, h5⟩
theorem Reps.take : ∀ {ds : List D} {vs : List V} (n : Nat), Reps K H ds vs → Reps K H (ds.take n) (vs.take n)
  | [], _, n, h => by unfold Reps at h; subst h; simp; exact Reps.nil
  | d :: ds, _, 0, h => by simp; exact Reps.nil
  | d :: ds, _, n + 1, h => by
    unfold Reps at h
    obtain ⟨x, us, rfl, h2, h3⟩ := h
    exact Reps.cons h2 (Reps.take n h3)
theorem Reps.drop : ∀ {ds : List D} {vs : List V} (n : Nat), Reps K H ds vs → Reps K H (ds.drop n) (vs.drop n)
  | [], _, n, h => by unfold Reps at h; subst h; simp; exact Reps.nil
  | d :: ds, _, 0, h => h
  | d :: ds, _, n + 1, h => by
    unfold Reps at h
    obtain ⟨x, us, rfl, h2, h3⟩ := h
    exact Reps.drop n h3
theorem Reps.set {x : V} {d : D} (hx : Rep K H d x) : ∀ {ds : List D} {vs : List V} (n : Nat), Reps K H ds vs → Reps K H (ds.set n d) (vs.set n x)
  | [], _, n, h => by unfold Reps at h; subst h; simp; exact Reps.nil
  | e :: ds, _, 0, h => by
    unfold Reps at h
    obtain ⟨y, us, rfl, h2, h3⟩ := h
    exact Reps.cons hx h3
  | e :: ds, _, n + 1, h => by
    unfold Reps at h
    obtain ⟨y, us, rfl, h2, h3⟩ := h
    exact Reps.cons h2 (Reps.set hx n h3)
theorem Reps.rev : ∀ {ds : List D} {vs : List V}, Reps K H ds vs → Reps K H ds.reverse vs.reverse
  | [], _, h => by unfold Reps at h; subst h; exact Reps.nil
  | e :: ds, _, h => by
    unfold Reps at h
    obtain ⟨y, us, rfl, h2, h3⟩ := h
    rw [List.reverse_cons, List.reverse_cons]
    exact Reps.append (Reps.rev h3) (Reps.cons h2 Reps.nil)
/-- scalars: lists of V from lists of D -/
theorem Reps.ints : ∀ {ns : List Int} {vs : List V}, Reps K H (ns.map D.int) vs → vs = ns.map V.int
  | [], _, h => by simpa [Reps] using h
  | n :: ns, _, h => by
    unfold Reps at h
    obtain ⟨x, us, rfl, h2, h3⟩ := h
    unfold Rep at h2; subst h2
    simp [Reps.ints h3]
theorem Reps.strs : ∀ {ns : List Str} {vs : List V}, Reps K H (ns.map D.str) vs → vs = ns.map V.str
  | [], _, h => by simpa [Reps] using h
  | n :: ns, _, h => by
    unfold Reps at h
    obtain ⟨x, us, rfl, h2, h3⟩ := h
    unfold Rep at h2; subst h2
    simp [Reps.strs h3]
theorem Reps.bls : ∀ {ns : List Bool} {vs : List V}, Reps K H (ns.map D.bl) vs → vs = ns.map V.bl
  | [], _, h => by simpa [Reps] using h
  | n :: ns, _, h => by
    unfold Reps at h
    obtain ⟨x, us, rfl, h2, h3⟩ := h
    unfold Rep at h2; subst h2
    simp [Reps.bls h3]
theorem reps_ints (ns : List Int) : Reps K H (ns.map D.int) (ns.map V.int) := by
  induction ns with
  | nil => exact Reps.nil
  | cons n r ih => exact Reps.cons (by unfold Rep; rfl) ih
theorem reps_strs (ns : List Str) : Reps K H (ns.map D.str) (ns.map V.str) := by
  induction ns with
  | nil => exact Reps.nil
  | cons n r ih => exact Reps.cons (by unfold Rep; rfl) ih
end
/-! ### growth: base B and full heap F, from (H0, H1) -/
structure Gr (H0 H1 B F : Hp) : Prop where
  b : Same H0 B
  f : Same B F
  s : Same H1 F
  n : ∀ a, B a ≠ none → H0 a = none → H1 a = none
theorem Gr.refl {B F : Hp} (h : Same B F) : Gr B F B F := ⟨Same.refl _, h, Same.refl _, fun _ h1 h2 => absurd h2 h1⟩
theorem Gr.trans {H0 H1 B F B' F' : Hp} (a : Gr H0 H1 B F) (c : Gr B F B' F') : Gr H0 H1 B' F' :=
  ⟨a.b.trans c.b, c.f, a.s.trans c.s, fun x h1 h2 => by
    by_cases h : B x = none
    · exact a.s.free (c.n x h1 h)
    · exact a.n x h h2⟩
/-- a base may be widened to what stood before -/
def uni (A B : Hp) : Hp := fun a => match A a with | some o => some o | none => B a
theorem Gr.widen {H0 H1 B F H0' : Hp} (g : Gr H0 H1 B F) (h : Same H0 H0') (h1 : Same H0' H1) : ∃ B', Gr H0' H1 B' F ∧ Same B B' := by
  refine ⟨uni H0' B, ⟨fun a o e => by unfold uni; rw [e], fun a o e => ?_, g.s, fun a e1 e2 => ?_⟩, fun a o e => ?_⟩
  · unfold uni at e
    cases q : H0' a with
    | none => rw [q] at e; exact g.f _ _ e
    | some u => rw [q] at e; cases e; exact g.s _ _ (h1 _ _ q)
  · unfold uni at e1
    rw [e2] at e1
    exact g.n a e1 (h.free e2)
  · unfold uni
    cases q : H0' a with
    | none => exact e
    | some u =>
      have q1 := g.s _ _ (h1 _ _ q)
      have q2 := g.f _ _ e
      rw [q1] at q2
      exact q2
theorem free_base {B F : Hp} (h : Same B F) {p : Addr} (e : F p = none) : B p = none := h.free e
theorem same_new {B : Hp} {p : Addr} {o : HO} (e : B p = none) : Same B (upd B p o) := fun a u h => by
  rw [upd_ne (ne_of_none h e)]; exact h
theorem same_upd2 {B F : Hp} {p : Addr} {o : HO} (h : Same B F) (e : B p = none) : Same (upd B p o) (upd F p o) := fun a u q => by
  by_cases z : a = p
  · subst z; rw [upd_same] at q ⊢; exact q
  · rw [upd_ne z] at q ⊢; exact h _ _ q
theorem same_out {B F : Hp} {p : Addr} {o : HO} (h : Same B F) (e : B p = none) : Same B (upd F p o) := fun a u q => by
  rw [upd_ne (ne_of_none q e)]; exact h _ _ q
theorem Gr.new {B F : Hp} {p : Addr} {o : HO} (h : Same B F) (e : F p = none) : Gr B F (upd B p o) (upd F p o) :=
  ⟨same_new (h.free e), same_upd2 h (h.free e), same_new e, fun a h1 h2 => by
    by_cases z : a = p
    · subst z; exact e
    · rw [upd_ne z] at h1; exact absurd h2 h1⟩
/-! ### slots -/
inductive Slot where
  | no | val (d : D) | own (ds : List D)
/-- the slots hold what they are said to hold -/
structure Vs (K : PySem.W.Frag) (B F : Hp) (σ : L2.St) (env : List Slot) : Prop where
  len : σ.length = env.length
  val : ∀ (i : Nat) (d : D), env[i]? = some (.val d) → ∃ x, σ[i]? = some (some x) ∧ Rep K B d x
  own : ∀ (i : Nat) (ds : List D), env[i]? = some (.own ds) → ∃ p vs, σ[i]? = some (some (.ref p)) ∧ B p = none ∧ F p = some (.lst vs) ∧ Reps K B ds vs
  dis : ∀ (i j : Nat) (ds es : List D) (p : Addr), i ≠ j → env[i]? = some (.own ds) → env[j]? = some (.own es) → σ[i]? = some (some (.ref p)) → σ[j]? = some (some (.ref p)) → False
theorem Gr.out {B F B' F' : Hp} (g : Gr B F B' F') {p : Addr} {o : HO} (h : B p = none) (e : F p = some o) : B' p = none := by
  cases q : B' p with
  | none => rfl
  | some u =>
    have := g.n p (by rw [q]; intro z; cases z) h
    rw [this] at e; cases e
theorem Vs.grow {K : PySem.W.Frag} {B F B' F' : Hp} {σ : L2.St} {env : List Slot} (h : Vs K B F σ env) (g : Gr B F B' F') : Vs K B' F' σ env :=
  ⟨h.len, fun i d q => let ⟨x, h1, h2⟩ := h.val i d q; ⟨x, h1, h2.mono g.b⟩, fun i ds q =>
    let ⟨p, vs, h1, h2, h3, h4⟩ := h.own i ds q
    ⟨p, vs, h1, g.out h2 h3, g.s _ _ h3, h4.mono g.b⟩, h.dis⟩
theorem get_set {α : Type} {l : List α} {j i : Nat} {a b : α} (h : (l.set j a)[i]? = some b) : (j = i ∧ a = b ∧ j < l.length) ∨ (j ≠ i ∧ l[i]? = some b) := by
  by_cases z : j = i
  · subst z
    by_cases hj : j < l.length
    · rw [List.getElem?_set_self hj] at h; cases h; exact .inl ⟨rfl, rfl, hj⟩
    · rw [List.getElem?_eq_none (by simp; omega)] at h; cases h
  · rw [List.getElem?_set_ne z] at h; exact .inr ⟨z, h⟩
theorem Vs.set {K : PySem.W.Frag} {B F : Hp} {σ : L2.St} {env : List Slot} (h : Vs K B F σ env) {j : Nat} {d : D} {x : V} (r : Rep K B d x) : Vs K B F (σ.set j (some x)) (env.set j (.val d)) := by
  refine ⟨by simp [h.len], fun i d' q => ?_, fun i ds q => ?_, fun i k ds es p n q1 q2 e1 e2 => ?_⟩
  · rcases get_set q with ⟨rfl, e, hj⟩ | ⟨n, q⟩
    · cases e; exact ⟨x, List.getElem?_set_self (by rw [h.len]; exact hj), r⟩
    · rw [List.getElem?_set_ne n]; exact h.val i d' q
  · rcases get_set q with ⟨rfl, e, hj⟩ | ⟨n, q⟩
    · cases e
    · rw [List.getElem?_set_ne n]; exact h.own i ds q
  · rcases get_set q1 with ⟨rfl, e, hj⟩ | ⟨n1, q1⟩
    · cases e
    · rcases get_set q2 with ⟨rfl, e, hj⟩ | ⟨n2, q2⟩
      · cases e
      · rw [List.getElem?_set_ne n1] at e1
        rw [List.getElem?_set_ne n2] at e2
        exact h.dis i k ds es p n q1 q2 e1 e2
/-! ### evaluation -/
def EvE (K : PySem.W.Frag) (te : TE) (env : List Slot) (d : D) : Prop := ∀ B F σ, Same B F → Vs K B F σ env → ∀ Q : VK, (∀ B' F' x, Gr B F B' F' → Rep K B' d x → Q x F') → te σ F Q
def EvA (K : PySem.W.Frag) (ta : TA) (env : List Slot) (ds : List D) : Prop := ∀ B F σ, Same B F → Vs K B F σ env → ∀ Q : List V → Hp → Prop, (∀ B' F' xs, Gr B F B' F' → Reps K B' ds xs → Q xs F') → ta σ F Q
def EvT (K : PySem.W.Frag) (tt : TT) (env : List Slot) (b : Bool) : Prop := ∀ B F σ, Same B F → Vs K B F σ env → ∀ Q : Bool → Hp → Prop, (∀ B' F', Gr B F B' F' → Q b F') → tt σ F Q
def EvO (K : PySem.W.Frag) (to : TO) (env : List Slot) (o : Option Int) : Prop := ∀ B F σ, Same B F → Vs K B F σ env → ∀ Q : Option Int → Hp → Prop, (∀ B' F', Gr B F B' F' → Q o F') → to σ F Q
section
variable {K : PySem.W.Frag} {env : List Slot} {ta tb te tc : TE} {d d1 d2 : D}
theorem EvE.is {d' : D} (h : EvE K te env d) (e : d = d') : EvE K te env d' := e ▸ h
theorem EvT.is {tt : TT} {b b' : Bool} (h : EvT K tt env b) (e : b = b') : EvT K tt env b' := e ▸ h
theorem ee_var {i : Nat} (h : env[i]? = some (.val d)) : EvE K (tVar i) env d := fun B F σ hs vs Q q => by
  obtain ⟨x, h1, h2⟩ := vs.val i d h
  exact ⟨x, h1, q B F x (Gr.refl hs) h2⟩
theorem ee_c {x : V} (h : ∀ H, Rep K H d x) : EvE K (tC x) env d := fun B F σ hs vs Q q => q B F x (Gr.refl hs) (h B)
theorem ee_int {i : Int} : EvE K (tC (.int i)) env (.int i) := ee_c fun _ => by unfold Rep; rfl
theorem ee_str {i : Str} : EvE K (tC (.str i)) env (.str i) := ee_c fun _ => by unfold Rep; rfl
theorem ee_bl {i : Bool} : EvE K (tC (.bl i)) env (.bl i) := ee_c fun _ => by unfold Rep; rfl
theorem ee_non : EvE K (tC .non) env .non := ee_c fun _ => by unfold Rep; rfl
theorem ee_v {x : V} : EvE K (tC x) env (.v x) := ee_c fun _ => by unfold Rep; rfl
theorem ea_nil : EvA K tNil env [] := fun B F σ hs vs Q q => q B F [] (Gr.refl hs) Reps.nil
theorem ea_cons {tr : TA} {ds : List D} (h : EvE K ta env d) (t : EvA K tr env ds) : EvA K (tCons ta tr) env (d :: ds) := fun B F σ hs vs Q q =>
  h B F σ hs vs _ fun B1 F1 x g1 r1 => t B1 F1 σ g1.f (vs.grow g1) _ fun B2 F2 xs g2 r2 => q B2 F2 _ (g1.trans g2) (Reps.cons (r1.mono g2.b) r2)
/-- a two-place operation by values -/
theorem ee_op {r : R2} (h1 : EvE K ta env d1) (h2 : EvE K tb env d2)
    (hr : ∀ B F x y, Same B F → Rep K B d1 x → Rep K B d2 y → ∀ Q : VK, (∀ B' F' z, Gr B F B' F' → Rep K B' d z → Q z F') → r x y F Q) : EvE K (tOp r ta tb) env d := fun B F σ hs vs Q q =>
  h1 B F σ hs vs _ fun B1 F1 x g1 r1 => h2 B1 F1 σ g1.f (vs.grow g1) _ fun B2 F2 y g2 r2 => hr B2 F2 x y g2.f (r1.mono g2.b) r2 _ fun B3 F3 z g3 r3 => q B3 F3 z ((g1.trans g2).trans g3) r3
theorem ee_un {r : V → Hp → VK → Prop} (h1 : EvE K ta env d1) (hr : ∀ B F x, Same B F → Rep K B d1 x → ∀ Q : VK, (∀ B' F' z, Gr B F B' F' → Rep K B' d z → Q z F') → r x F Q) : EvE K (tUn r ta) env d := fun B F σ hs vs Q q =>
  h1 B F σ hs vs _ fun B1 F1 x g1 r1 => hr B1 F1 x g1.f r1 _ fun B2 F2 y g2 r2 => q B2 F2 y (g1.trans g2) r2
theorem ee_I0 {g : Int → Int → V} {i j : Int} {d : D} (h1 : EvE K ta env (.int i)) (h2 : EvE K tb env (.int j)) (hd : ∀ H, Rep K H d (g i j)) : EvE K (tOp (rI0 g) ta tb) env d :=
  ee_op h1 h2 fun B F x y hs r1 r2 Q q => by
    unfold Rep at r1 r2; subst r1 r2
    exact ⟨i, j, rfl, rfl, q B F _ (Gr.refl hs) (hd B)⟩
theorem ee_I {C : Int → Int → Prop} {g : Int → Int → V} {i j : Int} {d : D} (h1 : EvE K ta env (.int i)) (h2 : EvE K tb env (.int j)) (hc : C i j) (hd : ∀ H, Rep K H d (g i j)) : EvE K (tOp (rI C g) ta tb) env d :=
  ee_op h1 h2 fun B F x y hs r1 r2 Q q => by
    unfold Rep at r1 r2; subst r1 r2
    exact ⟨i, j, rfl, rfl, hc, q B F _ (Gr.refl hs) (hd B)⟩
theorem rp_int {i : Int} (H : Hp) : Rep K H (.int i) (.int i) := by unfold Rep; rfl
theorem rp_str {i : Str} (H : Hp) : Rep K H (.str i) (.str i) := by unfold Rep; rfl
theorem rp_bl {i : Bool} (H : Hp) : Rep K H (.bl i) (.bl i) := by unfold Rep; rfl
theorem rp_non (H : Hp) : Rep K H .non .non := by unfold Rep; rfl
variable {i j : Int}
theorem ee_add (h1 : EvE K ta env (.int i)) (h2 : EvE K tb env (.int j)) : EvE K (tOp (rI0 fun i j => .int (i + j)) ta tb) env (.int (i + j)) := ee_I0 h1 h2 rp_int
theorem ee_sub (h1 : EvE K ta env (.int i)) (h2 : EvE K tb env (.int j)) : EvE K (tOp (rI0 fun i j => .int (i - j)) ta tb) env (.int (i - j)) := ee_I0 h1 h2 rp_int
theorem ee_mul (h1 : EvE K ta env (.int i)) (h2 : EvE K tb env (.int j)) (hc : CMul i j) : EvE K (tOp (rI CMul fun i j => .int (i * j)) ta tb) env (.int (i * j)) := ee_I h1 h2 hc rp_int
theorem ee_div (h1 : EvE K ta env (.int i)) (h2 : EvE K tb env (.int j)) (hc : CDiv i j) : EvE K (tOp (rI CDiv fun i j => .int (i / j)) ta tb) env (.int (i / j)) := ee_I h1 h2 hc rp_int
theorem ee_mod (h1 : EvE K ta env (.int i)) (h2 : EvE K tb env (.int j)) (hc : 0 < j) : EvE K (tOp (rI (fun _ j => 0 < j) fun i j => .int (i % j)) ta tb) env (.int (i % j)) := ee_I h1 h2 hc rp_int
theorem ee_pow (h1 : EvE K ta env (.int i)) (h2 : EvE K tb env (.int j)) (hc : CPow i j) : EvE K (tOp (rI CPow fun i j => .int (i ^ j.toNat)) ta tb) env (.int (i ^ j.toNat)) := ee_I h1 h2 hc rp_int
theorem ee_powR {r : Int} (h1 : EvE K ta env (.int i)) (h2 : EvE K tb env (.int j)) (hc : CPow i j) (hr : i ^ j.toNat = r) : EvE K (tOp (rI CPow fun i j => .int (i ^ j.toNat)) ta tb) env (.int r) := hr ▸ ee_pow h1 h2 hc
theorem ee_neg (h1 : EvE K ta env (.int i)) : EvE K (tUn (rU fun i => .int (-i)) ta) env (.int (-i)) := ee_un h1 fun B F x hs r1 Q q => by
    unfold Rep at r1; subst r1
    exact ⟨i, rfl, q B F _ (Gr.refl hs) (rp_int B)⟩
theorem ee_lt (h1 : EvE K ta env (.int i)) (h2 : EvE K tb env (.int j)) : EvE K (tOp (rI0 fun i j => .bl (decide (i < j))) ta tb) env (.bl (decide (i < j))) := ee_I0 h1 h2 rp_bl
theorem ee_le (h1 : EvE K ta env (.int i)) (h2 : EvE K tb env (.int j)) : EvE K (tOp (rI0 fun i j => .bl (decide (i ≤ j))) ta tb) env (.bl (decide (i ≤ j))) := ee_I0 h1 h2 rp_bl
theorem ee_gt (h1 : EvE K ta env (.int i)) (h2 : EvE K tb env (.int j)) : EvE K (tOp (rI0 fun i j => .bl (decide (j < i))) ta tb) env (.bl (decide (j < i))) := ee_I0 h1 h2 rp_bl
theorem ee_ge (h1 : EvE K ta env (.int i)) (h2 : EvE K tb env (.int j)) : EvE K (tOp (rI0 fun i j => .bl (decide (j ≤ i))) ta tb) env (.bl (decide (j ≤ i))) := ee_I0 h1 h2 rp_bl
/-- scalars of data -/
def sV : D → Option V
  | .non => some .non | .bl b => some (.bl b) | .int i => some (.int i) | .str s => some (.str s) | _ => none
theorem Rep.sc {H : Hp} {x v : V} (h : Rep K H d x) (e : sV d = some v) : x = v := by
  cases d <;> unfold sV at e <;> (try cases e) <;> (unfold Rep at h; exact h)
theorem ee_eq {v w : V} (h1 : EvE K ta env d1) (h2 : EvE K tb env d2) (e1 : sV d1 = some v) (e2 : sV d2 = some w) (hs : scal v w = true) {b : Bool} (hb : decide (v = w) = b) : EvE K (tOp rEq ta tb) env (.bl b) :=
  ee_op h1 h2 fun B F x y hf r1 r2 Q q => by
    have := r1.sc e1; have := r2.sc e2; subst x y
    exact ⟨hs, by rw [hb]; exact q B F _ (Gr.refl hf) (rp_bl B)⟩
theorem ee_ne {v w : V} (h1 : EvE K ta env d1) (h2 : EvE K tb env d2) (e1 : sV d1 = some v) (e2 : sV d2 = some w) (hs : scal v w = true) {b : Bool} (hb : (!decide (v = w)) = b) : EvE K (tOp rNe ta tb) env (.bl b) :=
  ee_op h1 h2 fun B F x y hf r1 r2 Q q => by
    have := r1.sc e1; have := r2.sc e2; subst x y
    exact ⟨hs, by rw [hb]; exact q B F _ (Gr.refl hf) (rp_bl B)⟩
theorem dec_int {a b : Int} : decide (V.int a = V.int b) = decide (a = b) := by
  by_cases h : a = b
  · simp [h]
  · simp [h]
theorem dec_str {a b : Str} : decide (V.str a = V.str b) = decide (a = b) := by
  by_cases h : a = b
  · simp [h]
  · simp [h]
theorem dec_bl {a b : Bool} : decide (V.bl a = V.bl b) = decide (a = b) := by
  by_cases h : a = b
  · simp [h]
  · simp [h]
theorem ee_eqI (h1 : EvE K ta env (.int i)) (h2 : EvE K tb env (.int j)) : EvE K (tOp rEq ta tb) env (.bl (decide (i = j))) := ee_eq h1 h2 rfl rfl rfl dec_int
theorem ee_eqS {s t : Str} (h1 : EvE K ta env (.str s)) (h2 : EvE K tb env (.str t)) : EvE K (tOp rEq ta tb) env (.bl (decide (s = t))) := ee_eq h1 h2 rfl rfl rfl dec_str
theorem ee_eqB {s t : Bool} (h1 : EvE K ta env (.bl s)) (h2 : EvE K tb env (.bl t)) : EvE K (tOp rEq ta tb) env (.bl (decide (s = t))) := ee_eq h1 h2 rfl rfl rfl dec_bl
theorem ee_neI (h1 : EvE K ta env (.int i)) (h2 : EvE K tb env (.int j)) : EvE K (tOp rNe ta tb) env (.bl (!decide (i = j))) := ee_ne h1 h2 rfl rfl rfl (by rw [dec_int])
theorem ee_neS {s t : Str} (h1 : EvE K ta env (.str s)) (h2 : EvE K tb env (.str t)) : EvE K (tOp rNe ta tb) env (.bl (!decide (s = t))) := ee_ne h1 h2 rfl rfl rfl (by rw [dec_str])
theorem ee_catS {s t : Str} (h1 : EvE K ta env (.str s)) (h2 : EvE K tb env (.str t)) (hz : s.length + t.length ≤ sizeLine) : EvE K (tOp (fun x y H Q => ∃ i j, x = .str i ∧ y = .str j ∧ i.length + j.length ≤ sizeLine ∧ Q (.str (i ++ j)) H) ta tb) env (.str (s ++ t)) :=
  ee_op h1 h2 fun B F x y hf r1 r2 Q q => by
    unfold Rep at r1 r2; subst r1 r2
    exact ⟨s, t, rfl, rfl, hz, q B F _ (Gr.refl hf) (rp_str B)⟩
theorem ee_inS {c : Nat} {s : Str} (h1 : EvE K ta env (.str ⟨#[c]⟩)) (h2 : EvE K tb env (.str s)) : EvE K (tOp (fun x y H Q => ∃ (c : Nat) (z : Str), x = .str ⟨#[c]⟩ ∧ y = .str z ∧ Q (.bl (decide (c ∈ z.cps.toList))) H) ta tb) env (.bl (decide (c ∈ s.cps.toList))) :=
  ee_op h1 h2 fun B F x y hf r1 r2 Q q => by
    unfold Rep at r1 r2; subst r1 r2
    exact ⟨c, s, rfl, rfl, q B F _ (Gr.refl hf) (rp_bl B)⟩
theorem ee_ninS {c : Nat} {s : Str} (h1 : EvE K ta env (.str ⟨#[c]⟩)) (h2 : EvE K tb env (.str s)) : EvE K (tOp (fun x y H Q => ∃ (c : Nat) (z : Str), x = .str ⟨#[c]⟩ ∧ y = .str z ∧ Q (.bl (!decide (c ∈ z.cps.toList))) H) ta tb) env (.bl (!decide (c ∈ s.cps.toList))) :=
  ee_op h1 h2 fun B F x y hf r1 r2 Q q => by
    unfold Rep at r1 r2; subst r1 r2
    exact ⟨c, s, rfl, rfl, q B F _ (Gr.refl hf) (rp_bl B)⟩
/-! tests -/
theorem et_B {b : Bool} (h : EvE K te env (.bl b)) : EvT K (tB te) env b := fun B F σ hs vs Q q => h B F σ hs vs _ fun B1 F1 x g r => by
  unfold Rep at r; exact ⟨b, r, q B1 F1 g⟩
theorem et_test {b : Bool} (h : EvE K te env (.bl b)) : EvT K (tTest te) env b := fun B F σ hs vs Q q => h B F σ hs vs _ fun B1 F1 x g r => by
  unfold Rep at r; exact ⟨b, r, q B1 F1 g⟩
theorem et_not {t : TT} {b : Bool} (h : EvT K t env b) : EvT K (tNot t) env (!b) := fun B F σ hs vs Q q => h B F σ hs vs _ fun B1 F1 g => q B1 F1 g
theorem et_and {t u : TT} {a b : Bool} (h : EvT K t env a) (h2 : a = true → EvT K u env b) : EvT K (tAnd t u) env (a && b) := fun B F σ hs vs Q q => h B F σ hs vs _ fun B1 F1 g => by
  cases a with
  | true => exact h2 rfl B1 F1 σ g.f (vs.grow g) _ fun B2 F2 g2 => q B2 F2 (g.trans g2)
  | false => exact q B1 F1 g
theorem et_or {t u : TT} {a b : Bool} (h : EvT K t env a) (h2 : a = false → EvT K u env b) : EvT K (tOr t u) env (a || b) := fun B F σ hs vs Q q => h B F σ hs vs _ fun B1 F1 g => by
  cases a with
  | true => exact q B1 F1 g
  | false => exact h2 rfl B1 F1 σ g.f (vs.grow g) _ fun B2 F2 g2 => q B2 F2 (g.trans g2)
theorem ee_andV {a b : Bool} (h : EvE K ta env (.bl a)) (h2 : a = true → EvE K tb env (.bl b)) : EvE K (tAndV ta tb) env (.bl (a && b)) := fun B F σ hs vs Q q => h B F σ hs vs _ fun B1 F1 x g r => by
  unfold Rep at r
  refine ⟨a, r, ?_⟩
  cases a with
  | true => exact h2 rfl B1 F1 σ g.f (vs.grow g) _ fun B2 F2 x g2 r2 => q B2 F2 x (g.trans g2) r2
  | false => exact q B1 F1 _ g (rp_bl B1)
theorem ee_orV {a b : Bool} (h : EvE K ta env (.bl a)) (h2 : a = false → EvE K tb env (.bl b)) : EvE K (tOrV ta tb) env (.bl (a || b)) := fun B F σ hs vs Q q => h B F σ hs vs _ fun B1 F1 x g r => by
  unfold Rep at r
  refine ⟨a, r, ?_⟩
  cases a with
  | false => exact h2 rfl B1 F1 σ g.f (vs.grow g) _ fun B2 F2 x g2 r2 => q B2 F2 x (g.trans g2) r2
  | true => exact q B1 F1 _ g (rp_bl B1)
theorem ee_notV {a : Bool} (h : EvE K ta env (.bl a)) : EvE K (tNotV ta) env (.bl (!a)) := fun B F σ hs vs Q q => h B F σ hs vs _ fun B1 F1 x g r => by
  unfold Rep at r
  exact ⟨a, r, q B1 F1 _ g (rp_bl B1)⟩
theorem ee_if {t : TT} {b : Bool} (h : EvT K t env b) (h1 : b = true → EvE K ta env d1) (h2 : b = false → EvE K tb env d2) : EvE K (tIf t ta tb) env (if b = true then d1 else d2) := fun B F σ hs vs Q q => h B F σ hs vs _ fun B1 F1 g => by
  cases b with
  | true => exact h1 rfl B1 F1 σ g.f (vs.grow g) _ fun B2 F2 x g2 r2 => q B2 F2 x (g.trans g2) (by simpa using r2)
  | false => exact h2 rfl B1 F1 σ g.f (vs.grow g) _ fun B2 F2 x g2 r2 => q B2 F2 x (g.trans g2) (by simpa using r2)
/-- both ways give d -/
theorem ee_ifE {t : TT} {b : Bool} (h : EvT K t env b) (h1 : b = true → EvE K ta env d) (h2 : b = false → EvE K tb env d) : EvE K (tIf t ta tb) env d := fun B F σ hs vs Q q => h B F σ hs vs _ fun B1 F1 g => by
  cases b with
  | true => exact h1 rfl B1 F1 σ g.f (vs.grow g) _ fun B2 F2 x g2 r2 => q B2 F2 x (g.trans g2) r2
  | false => exact h2 rfl B1 F1 σ g.f (vs.grow g) _ fun B2 F2 x g2 r2 => q B2 F2 x (g.trans g2) r2
/-- a < b <= c of ints (any two comparisons of ints) -/
theorem ee_chain {r r' : R2} {a b : Bool} (h1 : EvE K ta env d) (h2 : EvE K tb env d1)
    (hr : ∀ B F x y, Same B F → Rep K B d x → Rep K B d1 y → ∀ Q : VK, (∀ B' F' z, Gr B F B' F' → Rep K B' (.bl a) z → Q z F') → r x y F Q)
    (h3 : a = true → EvE K tc env d2) (hr' : a = true → ∀ B F x y, Same B F → Rep K B d1 x → Rep K B d2 y → ∀ Q : VK, (∀ B' F' z, Gr B F B' F' → Rep K B' (.bl b) z → Q z F') → r' x y F Q) : EvE K (tChain r r' ta tb tc) env (.bl (a && b)) := fun B F σ hs vs Q q =>
  h1 B F σ hs vs _ fun B1 F1 x g1 r1 => h2 B1 F1 σ g1.f (vs.grow g1) _ fun B2 F2 y g2 r2 => hr B2 F2 x y g2.f (r1.mono g2.b) r2 _ fun B3 F3 z g3 r3 => by
    unfold Rep at r3
    refine ⟨a, r3, ?_⟩
    have g := (g1.trans g2).trans g3
    cases a with
    | true =>
      exact h3 rfl B3 F3 σ g.f (vs.grow g) _ fun B4 F4 w g4 r4 => hr' rfl B4 F4 y w g4.f (r2.mono (g3.trans g4).b) r4 _ fun B5 F5 z5 g5 r5 => q B5 F5 z5 ((g.trans g4).trans g5) r5
    | false => exact q B3 F3 _ g (rp_bl B3)
theorem cmp_I0 {g : Int → Int → V} {i j : Int} {b : Bool} (hd : g i j = .bl b) : ∀ B F x y, Same B F → Rep K B (.int i) x → Rep K B (.int j) y → ∀ Q : VK, (∀ B' F' z, Gr B F B' F' → Rep K B' (.bl b) z → Q z F') → rI0 g x y F Q := fun B F x y hf r1 r2 Q q => by
    unfold Rep at r1 r2; subst r1 r2
    exact ⟨i, j, rfl, rfl, q B F _ (Gr.refl hf) (by rw [hd]; exact rp_bl B)⟩
/-! displays -/
theorem rep_new_lst {B : Hp} {p : Addr} {ds : List D} {vs : List V} (e : B p = none) (h : Reps K B ds vs) : Rep K (upd B p (.lst vs)) (.lst ds) (.ref p) := by
  unfold Rep
  exact ⟨p, vs, rfl, .inl (.inl upd_same), h.mono (same_new e)⟩
theorem rep_new_tup {B : Hp} {p : Addr} {ds : List D} {vs : List V} (e : B p = none) (h : Reps K B ds vs) : Rep K (upd B p (.tup vs)) (.tup ds) (.ref p) := by
  unfold Rep
  exact ⟨p, vs, rfl, .inl (.inl upd_same), h.mono (same_new e)⟩
theorem ee_tup {t : TA} {ds : List D} (h : EvA K t env ds) (hz : ds.length ≤ 1000) : EvE K (tTup t) env (.tup ds) := fun B F σ hs vs Q q => h B F σ hs vs _ fun B1 F1 xs g r =>
  ⟨by rw [r.len]; exact Nat.le_of_lt (small1000 hz), fun p hp => q _ _ _ (g.trans (Gr.new g.f hp)) (rep_new_tup (g.f.free hp) r)⟩
theorem ee_lst {t : TA} {ds : List D} (h : EvA K t env ds) (hz : ds.length ≤ 1000) : EvE K (tLst t) env (.lst ds) := fun B F σ hs vs Q q => h B F σ hs vs _ fun B1 F1 xs g r =>
  ⟨by rw [r.len]; exact Nat.le_of_lt (small1000 hz), fun p hp => q _ _ _ (g.trans (Gr.new g.f hp)) (rep_new_lst (g.f.free hp) r)⟩
/-! calls of built-ins by values -/
theorem ee_cb {r : List V → Hp → VK → Prop} {t : TA} {ds : List D} (h : EvA K t env ds) (hr : ∀ B F xs, Same B F → Reps K B ds xs → ∀ Q : VK, (∀ B' F' z, Gr B F B' F' → Rep K B' d z → Q z F') → r xs F Q) : EvE K (tCB r t) env d := fun B F σ hs vs Q q =>
  h B F σ hs vs _ fun B1 F1 xs g1 r1 => hr B1 F1 xs g1.f r1 _ fun B2 F2 y g2 r2 => q B2 F2 y (g1.trans g2) r2
theorem reps1 {H : Hp} {xs : List V} (h : Reps K H [d] xs) : ∃ x, xs = [x] ∧ Rep K H d x := by
  unfold Reps at h
  obtain ⟨x, ws, rfl, h2, h3⟩ := h
  unfold Reps at h3; subst h3
  exact ⟨x, rfl, h2⟩
theorem reps2 {H : Hp} {xs : List V} (h : Reps K H [d, d1] xs) : ∃ x y, xs = [x, y] ∧ Rep K H d x ∧ Rep K H d1 y := by
  unfold Reps at h
  obtain ⟨x, ws, rfl, h2, h3⟩ := h
  obtain ⟨y, rfl, h4⟩ := reps1 h3
  exact ⟨x, y, rfl, h2, h4⟩
abbrev rLen1 (K : PySem.W.Frag) : List V → Hp → VK → Prop := fun xs H Q => ∃ x n, xs = [x] ∧ LenV K x H n ∧ Q (.int n) H
theorem ee_lenL {ds : List D} (h : EvE K te env (.lst ds)) : EvE K (tCB (rLen1 K) (tCons te tNil)) env (.int ds.length) := ee_cb (ea_cons h ea_nil) fun B F xs hs r Q q => by
  obtain ⟨x, rfl, r1⟩ := reps1 r
  unfold Rep at r1
  obtain ⟨a, vs, rfl, h1, h2⟩ := r1
  refine ⟨_, vs.length, rfl, .inl ⟨vs, hs.seq h1, rfl⟩, q B F _ (Gr.refl hs) ?_⟩
  rw [h2.len]; exact rp_int B
theorem ee_lenT {ds : List D} (h : EvE K te env (.tup ds)) : EvE K (tCB (rLen1 K) (tCons te tNil)) env (.int ds.length) := ee_cb (ea_cons h ea_nil) fun B F xs hs r Q q => by
  obtain ⟨x, rfl, r1⟩ := reps1 r
  unfold Rep at r1
  obtain ⟨a, vs, rfl, h1, h2⟩ := r1
  refine ⟨_, vs.length, rfl, .inr ⟨vs, sqt_mono hs h1, rfl⟩, q B F _ (Gr.refl hs) ?_⟩
  rw [h2.len]; exact rp_int B
theorem ee_lenS {s : Str} (h : EvE K te env (.str s)) (hz : s.length ≤ sizeLine) : EvE K (tCB (rLen1 K) (tCons te tNil)) env (.int s.length) := ee_cb (ea_cons h ea_nil) fun B F xs hs r Q q => by
  obtain ⟨x, rfl, r1⟩ := reps1 r
  unfold Rep at r1; subst r1
  exact ⟨_, s.length, rfl, ⟨hz, rfl⟩, q B F _ (Gr.refl hs) (rp_int B)⟩
abbrev rInt1 : List V → Hp → VK → Prop := fun xs H Q => (∃ i, xs = [.int i] ∧ Q (.int i) H) ∨ ∃ k, xs = [.bl k] ∧ Q (.int (if k then 1 else 0)) H
theorem ee_intI (h : EvE K te env (.int i)) : EvE K (tCB rInt1 (tCons te tNil)) env (.int i) := ee_cb (ea_cons h ea_nil) fun B F xs hs r Q q => by
  obtain ⟨x, rfl, r1⟩ := reps1 r
  unfold Rep at r1; subst r1
  exact .inl ⟨i, rfl, q B F _ (Gr.refl hs) (rp_int B)⟩
theorem ee_intB {b : Bool} (h : EvE K te env (.bl b)) : EvE K (tCB rInt1 (tCons te tNil)) env (.int (if b then 1 else 0)) := ee_cb (ea_cons h ea_nil) fun B F xs hs r Q q => by
  obtain ⟨x, rfl, r1⟩ := reps1 r
  unfold Rep at r1; subst r1
  exact .inr ⟨b, rfl, q B F _ (Gr.refl hs) (rp_int B)⟩
theorem ee_max2 (h1 : EvE K ta env (.int i)) (h2 : EvE K tb env (.int j)) : EvE K (tCB (fun xs H Q => ∃ i j, xs = [.int i, .int j] ∧ Q (.int (if j > i then j else i)) H) (tCons ta (tCons tb tNil))) env (.int (max i j)) := ee_cb (ea_cons h1 (ea_cons h2 ea_nil)) fun B F xs hs r Q q => by
  obtain ⟨x, y, rfl, r1, r2⟩ := reps2 r
  unfold Rep at r1 r2; subst r1 r2
  refine ⟨i, j, rfl, q B F _ (Gr.refl hs) ?_⟩
  have : (if j > i then j else i) = max i j := by split <;> omega
  rw [this]; exact rp_int B
theorem ee_min2 (h1 : EvE K ta env (.int i)) (h2 : EvE K tb env (.int j)) : EvE K (tCB (fun xs H Q => ∃ i j, xs = [.int i, .int j] ∧ Q (.int (if j < i then j else i)) H) (tCons ta (tCons tb tNil))) env (.int (min i j)) := ee_cb (ea_cons h1 (ea_cons h2 ea_nil)) fun B F xs hs r Q q => by
  obtain ⟨x, y, rfl, r1, r2⟩ := reps2 r
  unfold Rep at r1 r2; subst r1 r2
  refine ⟨i, j, rfl, q B F _ (Gr.refl hs) ?_⟩
  have : (if j < i then j else i) = min i j := by split <;> omega
  rw [this]; exact rp_int B
theorem ee_all {bs : List Bool} (h : EvE K te env (.lst (bs.map .bl))) : EvE K (tCB (rAll K) (tCons te tNil)) env (.bl (bs.all id)) := ee_cb (ea_cons h ea_nil) fun B F xs hs r Q q => by
  obtain ⟨x, rfl, r1⟩ := reps1 r
  unfold Rep at r1
  obtain ⟨a, vs, rfl, h1, h2⟩ := r1
  have := h2.bls; subst this
  exact ⟨a, bs, rfl, hs.seq h1, q B F _ (Gr.refl hs) (rp_bl B)⟩
theorem ee_any {bs : List Bool} (h : EvE K te env (.lst (bs.map .bl))) : EvE K (tCB (rAny K) (tCons te tNil)) env (.bl (bs.any id)) := ee_cb (ea_cons h ea_nil) fun B F xs hs r Q q => by
  obtain ⟨x, rfl, r1⟩ := reps1 r
  unfold Rep at r1
  obtain ⟨a, vs, rfl, h1, h2⟩ := r1
  have := h2.bls; subst this
  exact ⟨a, bs, rfl, hs.seq h1, q B F _ (Gr.refl hs) (rp_bl B)⟩
theorem ee_sum {ns : List Int} (h : EvE K te env (.lst (ns.map .int))) : EvE K (tCB (rSum K) (tCons te tNil)) env (.int ns.sum) := ee_cb (ea_cons h ea_nil) fun B F xs hs r Q q => by
  obtain ⟨x, rfl, r1⟩ := reps1 r
  unfold Rep at r1
  obtain ⟨a, vs, rfl, h1, h2⟩ := r1
  have := h2.ints; subst this
  exact ⟨a, ns, rfl, hs.seq h1, q B F _ (Gr.refl hs) (rp_int B)⟩
abbrev rListOf (K : PySem.W.Frag) : List V → Hp → VK → Prop := fun xs H Q => ∃ p ys, xs = [.ref p] ∧ (SqL K H p ys ∨ SqT K H p ys) ∧ ∀ l, H l = none → Q (.ref l) (upd H l (.lst ys))
theorem ee_listL {ds : List D} (h : EvE K te env (.lst ds)) : EvE K (tCB (rListOf K) (tCons te tNil)) env (.lst ds) := ee_cb (ea_cons h ea_nil) fun B F xs hs r Q q => by
  obtain ⟨x, rfl, r1⟩ := reps1 r
  unfold Rep at r1
  obtain ⟨a, vs, rfl, h1, h2⟩ := r1
  exact ⟨a, vs, rfl, .inl (hs.seq h1), fun l hl => q _ _ _ (Gr.new hs hl) (rep_new_lst (hs.free hl) h2)⟩
theorem ee_listT {ds : List D} (h : EvE K te env (.tup ds)) : EvE K (tCB (rListOf K) (tCons te tNil)) env (.lst ds) := ee_cb (ea_cons h ea_nil) fun B F xs hs r Q q => by
  obtain ⟨x, rfl, r1⟩ := reps1 r
  unfold Rep at r1
  obtain ⟨a, vs, rfl, h1, h2⟩ := r1
  exact ⟨a, vs, rfl, .inr (sqt_mono hs h1), fun l hl => q _ _ _ (Gr.new hs hl) (rep_new_lst (hs.free hl) h2)⟩
abbrev rTupOf (K : PySem.W.Frag) : List V → Hp → VK → Prop := fun xs H Q => ∃ p ys, xs = [.ref p] ∧ ((SqL K H p ys ∧ ∀ l, H l = none → Q (.ref l) (upd H l (.tup ys))) ∨ (SqT K H p ys ∧ Q (.ref p) H))
theorem ee_tupL {ds : List D} (h : EvE K te env (.lst ds)) : EvE K (tCB (rTupOf K) (tCons te tNil)) env (.tup ds) := ee_cb (ea_cons h ea_nil) fun B F xs hs r Q q => by
  obtain ⟨x, rfl, r1⟩ := reps1 r
  unfold Rep at r1
  obtain ⟨a, vs, rfl, h1, h2⟩ := r1
  exact ⟨a, vs, rfl, .inl ⟨hs.seq h1, fun l hl => q _ _ _ (Gr.new hs hl) (rep_new_tup (hs.free hl) h2)⟩⟩
theorem ee_tupT {ds : List D} (h : EvE K te env (.tup ds)) : EvE K (tCB (rTupOf K) (tCons te tNil)) env (.tup ds) := ee_cb (ea_cons h ea_nil) fun B F xs hs r Q q => by
  obtain ⟨x, rfl, r1⟩ := reps1 r
  unfold Rep at r1
  obtain ⟨a, vs, rfl, h1, h2⟩ := r1
  refine ⟨a, vs, rfl, .inr ⟨sqt_mono hs h1, q B F _ (Gr.refl hs) ?_⟩⟩
  unfold Rep
  exact ⟨a, vs, rfl, h1, h2⟩
/-! subscripts -/
theorem atI_len {α β : Type} {xs : List α} {ys : List β} (h : xs.length = ys.length) {k : Int} {y : β} (e : atI ys k = some y) : ∃ m : Nat, ys[m]? = some y ∧ ∀ x, xs[m]? = some x → atI xs k = some x := by
  unfold atI at e ⊢
  rw [h]
  cases q : ixN ys.length k with
  | none => rw [q] at e; cases e
  | some m =>
    rw [q] at e
    exact ⟨m, e, fun x hx => hx⟩
theorem ee_ixL {ds : List D} {k : Int} (h1 : EvE K ta env (.lst ds)) (h2 : EvE K tb env (.int k)) (ha : atI ds k = some d) : EvE K (tOp (rIxL K) ta tb) env d :=
  ee_op h1 h2 fun B F x y hf r1 r2 Q q => by
    unfold Rep at r1 r2; subst r2
    obtain ⟨a, vs, rfl, h1, h2⟩ := r1
    obtain ⟨m, e1, e2⟩ := atI_len (xs := vs) h2.len ha
    obtain ⟨z, e3, r3⟩ := h2.get e1
    exact ⟨a, vs, k, z, rfl, rfl, hf.seq h1, e2 z e3, q B F _ (Gr.refl hf) r3⟩
theorem ee_ixT {ds : List D} {k : Int} (h1 : EvE K ta env (.tup ds)) (h2 : EvE K tb env (.int k)) (ha : atI ds k = some d) : EvE K (tOp (rIxT K) ta tb) env d :=
  ee_op h1 h2 fun B F x y hf r1 r2 Q q => by
    unfold Rep at r1 r2; subst r2
    obtain ⟨a, vs, rfl, h1, h2⟩ := r1
    obtain ⟨m, e1, e2⟩ := atI_len (xs := vs) h2.len ha
    obtain ⟨z, e3, r3⟩ := h2.get e1
    exact ⟨a, vs, k, z, rfl, rfl, sqt_mono hf h1, e2 z e3, q B F _ (Gr.refl hf) r3⟩
theorem ee_ixS {s : Str} {k : Int} {c : Nat} (h1 : EvE K ta env (.str s)) (h2 : EvE K tb env (.int k)) (hz : s.length ≤ sizeLine) (ha : atI s.cps.toList k = some c) : EvE K (tOp rIxS ta tb) env (.str ⟨#[c]⟩) :=
  ee_op h1 h2 fun B F x y hf r1 r2 Q q => by
    unfold Rep at r1 r2; subst r1 r2
    exact ⟨s, k, c, rfl, rfl, hz, ha, q B F _ (Gr.refl hf) (rp_str B)⟩
theorem eo_none : EvO K tNoPart env none := fun B F σ hs vs Q q => q B F (Gr.refl hs)
theorem eo_some (h : EvE K te env (.int i)) : EvO K (tPart te) env (some i) := fun B F σ hs vs Q q => h B F σ hs vs _ fun B1 F1 x g r => by
  unfold Rep at r; exact ⟨i, r, q B1 F1 g⟩
/-- a slice, as of V -/
def cutD {α : Type} (xs : List α) (lo hi : Option Int) : List α := (xs.drop (HT.sIx xs.length 0 lo)).take (HT.sIx xs.length xs.length hi - HT.sIx xs.length 0 lo)
theorem cut_reps {H : Hp} {ds : List D} {vs : List V} (h : Reps K H ds vs) (lo hi : Option Int) : Reps K H (cutD ds lo hi) (cutV vs lo hi) := by
  unfold cutD cutV
  rw [h.len]
  exact (h.drop _).take _
theorem cutD_map {α β : Type} (f : α → β) (xs : List α) (lo hi : Option Int) : cutD (xs.map f) lo hi = (cutD xs lo hi).map f := by
  unfold cutD
  simp [List.map_take, List.map_drop]
theorem ee_slL {tl th : TO} {ds : List D} {lo hi : Option Int} (h : EvE K te env (.lst ds)) (h1 : EvO K tl env lo) (h2 : EvO K th env hi) : EvE K (tSl (rSlL K) te tl th) env (.lst (cutD ds lo hi)) := fun B F σ hs vs Q q =>
  h B F σ hs vs _ fun B1 F1 x g1 r1 => h1 B1 F1 σ g1.f (vs.grow g1) _ fun B2 F2 g2 => h2 B2 F2 σ g2.f (vs.grow (g1.trans g2)) _ fun B3 F3 g3 => by
    have r3 := r1.mono (g2.trans g3).b
    unfold Rep at r3
    obtain ⟨a, ws, rfl, e1, e2⟩ := r3
    exact ⟨a, ws, rfl, g3.f.seq e1, fun p hp => q _ _ _ (((g1.trans g2).trans g3).trans (Gr.new g3.f hp)) (rep_new_lst (g3.f.free hp) (cut_reps e2 lo hi))⟩
theorem ee_slS {tl th : TO} {s : Str} {lo hi : Option Int} (h : EvE K te env (.str s)) (h1 : EvO K tl env lo) (h2 : EvO K th env hi) (hz : s.length ≤ sizeLine) : EvE K (tSl rSlS te tl th) env (.str (cutS s lo hi)) := fun B F σ hs vs Q q =>
  h B F σ hs vs _ fun B1 F1 x g1 r1 => h1 B1 F1 σ g1.f (vs.grow g1) _ fun B2 F2 g2 => h2 B2 F2 σ g2.f (vs.grow (g1.trans g2)) _ fun B3 F3 g3 => by
    unfold Rep at r1; subst r1
    exact ⟨s, rfl, hz, q _ _ _ ((g1.trans g2).trans g3) (rp_str B3)⟩
/-! methods of texts -/
theorem ee_m1 {r : V → List V → Hp → VK → Prop} {s : Str} (h1 : EvE K ta env (.str s)) (h2 : EvE K tb env d1)
    (hr : ∀ B F y, Same B F → Rep K B d1 y → ∀ Q : VK, (∀ B' F' z, Gr B F B' F' → Rep K B' d z → Q z F') → r (.str s) [y] F Q) : EvE K (tM1 r ta tb) env d := fun B F σ hs vs Q q =>
  h1 B F σ hs vs _ fun B1 F1 x g1 r1 => by
    unfold Rep at r1; subst r1
    exact ⟨⟨s, rfl⟩, h2 B1 F1 σ g1.f (vs.grow g1) _ fun B2 F2 y g2 r2 => hr B2 F2 y g2.f r2 _ fun B3 F3 z g3 r3 => q B3 F3 z ((g1.trans g2).trans g3) r3⟩
theorem ee_split {s t : Str} (h1 : EvE K ta env (.str s)) (h2 : EvE K tb env (.str t)) (ht : (t.length == 0) = false) (hz : s.length + 2 ≤ sizeLine) :
    EvE K (tM1 (fun x xs H Q => ∃ a b, x = .str a ∧ xs = [.str b] ∧ (b.length == 0) = false ∧ a.length + 2 ≤ sizeLine ∧ rNewStrs (Txt.split a b) H Q) ta tb) env (.lst ((Txt.split s t).map .str)) :=
  ee_m1 h1 h2 fun B F y hs r Q q => by
    unfold Rep at r; subst r
    exact ⟨s, t, rfl, rfl, ht, hz, fun p hp => q _ _ _ (Gr.new hs hp) (rep_new_lst (hs.free hp) (reps_strs _))⟩
theorem ee_join {s : Str} {ys : List Str} (h1 : EvE K ta env (.str s)) (h2 : EvE K tb env (.lst (ys.map .str))) (hz : (ys.map (·.length)).sum + ys.length * s.length ≤ 16777216) :
    EvE K (tM1 (fun x xs H Q => ∃ a p, ∃ ys : List Str, x = .str a ∧ xs = [.ref p] ∧ (SqL K H p (ys.map V.str) ∨ SqT K H p (ys.map V.str)) ∧ (ys.map (·.length)).sum + ys.length * a.length ≤ 16777216 ∧ Q (.str (Txt.join a ys)) H) ta tb) env (.str (Txt.join s ys)) :=
  ee_m1 h1 h2 fun B F y hs r Q q => by
    unfold Rep at r
    obtain ⟨a, vs, rfl, e1, e2⟩ := r
    have := e2.strs; subst this
    exact ⟨s, a, ys, rfl, rfl, .inl (hs.seq e1), hz, q _ _ _ (Gr.refl hs) (rp_str B)⟩
theorem ee_startswith {s t : Str} (h1 : EvE K ta env (.str s)) (h2 : EvE K tb env (.str t)) : EvE K (tM1 (fun x xs H Q => ∃ a b, x = .str a ∧ xs = [.str b] ∧ Q (.bl (Txt.startswith a b)) H) ta tb) env (.bl (Txt.startswith s t)) :=
  ee_m1 h1 h2 fun B F y hs r Q q => by
    unfold Rep at r; subst r
    exact ⟨s, t, rfl, rfl, q _ _ _ (Gr.refl hs) (rp_bl B)⟩
end
end Z

namespace Z
open PySem PySem.Spec PyProof.Rows L2
/-! ### targets -/
def setsV (σ : L2.St) : List Nat → List V → L2.St
  | j :: js, x :: xs => setsV (σ.set j (some x)) js xs
  | _, _ => σ
def sets (env : List Slot) : List (Nat × D) → List Slot
  | [] => env
  | (j, d) :: us => sets (env.set j (.val d)) us
def EvG (K : PySem.W.Frag) (g : TG) (d : D) (us : List (Nat × D)) : Prop :=
  ∀ B F σ x, Same B F → Rep K B d x → ∀ Q : L2.St → Hp → Prop, (∀ xs : List V, Reps K B (us.map (·.2)) xs → Q (setsV σ (us.map (·.1)) xs) F) → g x σ F Q
def EvGs (K : PySem.W.Frag) (g : TGs) (ds : List D) (us : List (Nat × D)) : Prop :=
  ∀ B F σ xs, Same B F → Reps K B ds xs → ∀ Q : L2.St → Hp → Prop, (∀ ys : List V, Reps K B (us.map (·.2)) ys → Q (setsV σ (us.map (·.1)) ys) F) → g xs σ F Q
section
variable {K : PySem.W.Frag} {B F : Hp}
theorem Vs.sets {σ : L2.St} : ∀ {us : List (Nat × D)} {env : List Slot} {xs : List V} {σ : L2.St}, Vs K B F σ env → Reps K B (us.map (·.2)) xs → Vs K B F (setsV σ (us.map (·.1)) xs) (sets env us)
  | [], env, xs, σ, h, r => by
    simp only [List.map_nil] at r
    unfold Reps at r; subst r
    simpa [setsV, Z.sets] using h
  | (j, d) :: us, env, xs, σ, h, r => by
    simp only [List.map_cons] at r
    unfold Reps at r
    obtain ⟨x, ws, rfl, h2, h3⟩ := r
    show Vs K B F (setsV (σ.set j (some x)) (us.map (·.1)) ws) (Z.sets (env.set j (.val d)) us)
    exact Vs.sets (σ := σ) (h.set h2) h3
theorem eg_name {j : Nat} {d : D} : EvG K (gName j) d [(j, d)] := fun B F σ x hs r Q q => q [x] (Reps.cons r Reps.nil)
theorem egs_nil : EvGs K gNil [] [] := fun B F σ xs hs r Q q => by
  unfold Reps at r; subst r
  exact ⟨rfl, q [] Reps.nil⟩
theorem egs_cons {j : Nat} {d : D} {ds : List D} {us : List (Nat × D)} {t : TGs} (h : EvGs K t ds us) : EvGs K (gCons (gName j) t) (d :: ds) ((j, d) :: us) := fun B F σ xs hs r Q q => by
  unfold Reps at r
  obtain ⟨x, ws, rfl, h2, h3⟩ := r
  refine ⟨x, ws, rfl, h B F _ ws hs h3 Q fun ys hy => ?_⟩
  exact q (x :: ys) (Reps.cons h2 hy)
theorem eg_tup {n : Nat} {t : TGs} {ds : List D} {us : List (Nat × D)} (h : EvGs K t ds us) (hn : ds.length = n) : EvG K (gTup K n t) (.tup ds) us := fun B F σ x hs r Q q => by
  unfold Rep at r
  obtain ⟨a, vs, rfl, e1, e2⟩ := r
  exact ⟨a, vs, rfl, sqt_mono hs e1, by rw [e2.len, hn], h B F σ vs hs e2 Q q⟩
theorem eg_lst {n : Nat} {t : TGs} {ds : List D} {us : List (Nat × D)} (h : EvGs K t ds us) (hn : ds.length = n) : EvG K (gUnl K n t) (.lst ds) us := fun B F σ x hs r Q q => by
  unfold Rep at r
  obtain ⟨a, vs, rfl, e1, e2⟩ := r
  exact ⟨a, vs, rfl, hs.seq e1, by rw [e2.len, hn], h B F σ vs hs e2 Q q⟩
end
/-! ### what is walked -/
structure Wk (K : PySem.W.Frag) (J : It) (B : Hp) (ds : List D) : Prop where
  w : ∃ (G : Hp → Prop) (Y : Nat → Hp → V → Hp → Prop), Walk J ds.length G Y ∧ (∀ F, Same B F → G F) ∧
    ∀ i B1 F1 x F2, Same B B1 → Same B1 F1 → Y i F1 x F2 → ∃ B2 d, Gr B1 F1 B2 F2 ∧ ds[i]? = some d ∧ Rep K B2 d x
def EvI (K : PySem.W.Frag) (wi : TI) (env : List Slot) (ds : List D) : Prop := ∀ B F σ, Same B F → Vs K B F σ env → ∀ R : It → Hp → Prop, (∀ B' F' J, Gr B F B' F' → Wk K J B' ds → R J F') → wi σ F R
section
variable {K : PySem.W.Frag} {env : List Slot} {ta tb te tc : TE} {d d1 d2 : D}
theorem ei_list {ds : List D} (h : EvE K te env (.lst ds)) : EvI K (iList K te) env ds := fun B F σ hs vs R q => h B F σ hs vs _ fun B1 F1 x g r => by
  unfold Rep at r
  obtain ⟨a, ws, rfl, e1, e2⟩ := r
  refine ⟨a, rfl, ⟨ws, g.f.seq e1⟩, q B1 F1 _ g ⟨fun F => SqL K F a ws, YAt ws, ?_, fun F hF => hF.seq e1, fun i B2 F2 x F3 s1 s2 y => ?_⟩⟩
  · rw [← e2.len]; exact walk_list
  · obtain ⟨rfl, ey⟩ := y
    have hi : i < ds.length := by rw [← e2.len]; exact (List.getElem?_eq_some_iff.mp ey).1
    obtain ⟨z, e3, e4⟩ := e2.get (List.getElem?_eq_getElem hi)
    rw [ey] at e3; cases e3
    exact ⟨B2, ds[i], Gr.refl s2, List.getElem?_eq_getElem hi, e4.mono s1⟩
theorem ei_tup {ds : List D} (h : EvE K te env (.tup ds)) : EvI K (iTup K te) env ds := fun B F σ hs vs R q => h B F σ hs vs _ fun B1 F1 x g r => by
  unfold Rep at r
  obtain ⟨a, ws, rfl, e1, e2⟩ := r
  refine ⟨a, rfl, ⟨ws, sqt_mono g.f e1⟩, q B1 F1 _ g ⟨fun F => SqT K F a ws, YAt ws, ?_, fun F hF => sqt_mono hF e1, fun i B2 F2 x F3 s1 s2 y => ?_⟩⟩
  · rw [← e2.len]; exact walk_tup
  · obtain ⟨rfl, ey⟩ := y
    have hi : i < ds.length := by rw [← e2.len]; exact (List.getElem?_eq_some_iff.mp ey).1
    obtain ⟨z, e3, e4⟩ := e2.get (List.getElem?_eq_getElem hi)
    rw [ey] at e3; cases e3
    exact ⟨B2, ds[i], Gr.refl s2, List.getElem?_eq_getElem hi, e4.mono s1⟩
def rng (lo : Int) (n : Nat) : List D := (List.range n).map fun (i : Nat) => D.int (lo + (i : Int))
theorem rng_len (lo : Int) (n : Nat) : (rng lo n).length = n := by simp [rng]
theorem wk_range {lo : Int} {n : Nat} {B : Hp} : Wk K (Itr lo n) B (rng lo n) := by
  refine ⟨fun _ => True, fun i H x H' => i < n ∧ H' = H ∧ x = .int (lo + i), ?_, fun _ _ => True.intro, fun i B2 F2 x F3 s1 s2 y => ?_⟩
  · rw [rng_len]; exact walk_range.mono (fun _ h => h) fun i H x H' hi _ y => ⟨hi, y⟩
  · obtain ⟨hi, rfl, rfl⟩ := y
    exact ⟨B2, .int (lo + i), Gr.refl s2, by simp [rng, hi], rp_int B2⟩
theorem ei_rng1 {n : Int} (h : EvE K te env (.int n)) (hn : -(2 ^ 62) ≤ n ∧ n < 2 ^ 62) : EvI K (iRng1 (tCons te tNil)) env (rng 0 n.toNat) := fun B F σ hs vs R q => (ea_cons h ea_nil) B F σ hs vs _ fun B1 F1 xs g r => by
  obtain ⟨x, rfl, r1⟩ := reps1 r
  unfold Rep at r1; subst r1
  exact ⟨n, rfl, hn.1, hn.2, q B1 F1 _ g wk_range⟩
theorem ei_rng2 {m n : Int} (h : EvE K ta env (.int m)) (h2 : EvE K tb env (.int n)) (hm : -(2 ^ 62) ≤ m ∧ m < 2 ^ 62) (hn : -(2 ^ 62) ≤ n ∧ n < 2 ^ 62) : EvI K (iRng2 (tCons ta (tCons tb tNil))) env (rng m (n - m).toNat) := fun B F σ hs vs R q => (ea_cons h (ea_cons h2 ea_nil)) B F σ hs vs _ fun B1 F1 xs g r => by
  obtain ⟨x, y, rfl, r1, r2⟩ := reps2 r
  unfold Rep at r1 r2; subst r1 r2
  exact ⟨m, n, rfl, ⟨hm.1, hm.2, hn.1, hn.2⟩, q B1 F1 _ g wk_range⟩
def chs (s : Str) : List D := s.cps.toList.map fun c => D.str ⟨#[c]⟩
theorem ei_str {s : Str} (h : EvE K te env (.str s)) : EvI K (iStr te) env (chs s) := fun B F σ hs vs R q => h B F σ hs vs _ fun B1 F1 x g r => by
  unfold Rep at r; subst r
  refine ⟨s, rfl, q B1 F1 _ g ⟨fun _ => True, fun i H v H' => H' = H ∧ ∃ c, s.cps[i]? = some c ∧ v = .str ⟨#[c]⟩, ?_, fun _ _ => True.intro, fun i B2 F2 x F3 s1 s2 y => ?_⟩⟩
  · have : (chs s).length = s.cps.size := by simp [chs]
    rw [this]; exact walk_str
  · obtain ⟨rfl, c, e, rfl⟩ := y
    refine ⟨B2, .str ⟨#[c]⟩, Gr.refl s2, ?_, rp_str B2⟩
    simp [chs, e]
def enum (ds : List D) : List D := (List.range ds.length).map fun i => D.tup [.int (i : Nat), ds.getD i .non]
theorem ei_enum {ds : List D} (h : EvE K te env (.lst ds)) : EvI K (iEnum K (tCons te tNil)) env (enum ds) := fun B F σ hs vs R q => (ea_cons h ea_nil) B F σ hs vs _ fun B1 F1 xs g r => by
  obtain ⟨x, rfl, r1⟩ := reps1 r
  unfold Rep at r1
  obtain ⟨a, ws, rfl, e1, e2⟩ := r1
  refine ⟨a, ws, rfl, g.f.seq e1, q B1 F1 _ g ⟨fun F => SqL K F a ws, fun i H x H' => i < ds.length ∧ YPair (fun i => some (.int (i : Nat))) (fun i => ws[i]?) i H x H', ?_, fun F hF => hF.seq e1, fun i B2 F2 x F3 s1 s2 y => ?_⟩⟩
  · have : (enum ds).length = ws.length := by simp [enum, e2.len]
    rw [this]
    exact walk_enum.mono (fun _ h => h) fun i H x H' hi _ y => ⟨by rw [← e2.len]; exact hi, y⟩
  · obtain ⟨hi, T, x1, y1, rfl, hT, rfl, h1, h2⟩ := y
    cases h1
    have h2 : ws[i]? = some y1 := h2
    obtain ⟨z, e3, e4⟩ := e2.get (List.getElem?_eq_getElem hi)
    rw [h2] at e3; cases e3
    refine ⟨_, .tup [.int (i : Nat), ds[i]], Gr.new s2 hT, ?_, rep_new_tup (s2.free hT) (Reps.cons (rp_int _) (Reps.cons (e4.mono s1) Reps.nil))⟩
    simp [enum, hi, List.getD_eq_getElem?_getD]
/-! ### comprehensions -/
theorem sub_wipe {σ : L2.St} {vs : List Nat} : ∀ i : Nat, (wipe σ vs)[i]? = if i ∈ vs ∧ i < σ.length then some none else σ[i]? := by
  intro i
  induction vs with
  | nil => simp [wipe]
  | cons v vs ih =>
    unfold wipe
    by_cases h : v = i
    · subst h
      by_cases hl : v < σ.length
      · rw [List.getElem?_set_self (by rw [wipe_length]; exact hl)]
        simp [hl]
      · rw [List.getElem?_eq_none (by simp [wipe_length]; omega)]
        simp [hl]
    · rw [List.getElem?_set_ne h, ih]
      have : (i ∈ v :: vs ↔ i ∈ vs) := by simp [Ne.symm h]
      simp [this]
theorem wipe_setsV {vs : List Nat} : ∀ {js : List Nat} {xs : List V} {σ : L2.St}, (∀ j ∈ js, j ∈ vs) → wipe (setsV σ js xs) vs = wipe σ vs
  | [], _, σ, _ => by simp [setsV]
  | j :: js, [], σ, _ => by simp [setsV]
  | j :: js, x :: xs, σ, h => by
    show wipe (setsV (σ.set j (some x)) js xs) vs = wipe σ vs
    rw [wipe_setsV fun k hk => h k (List.mem_cons_of_mem _ hk)]
    apply List.ext_getElem?
    intro i
    rw [sub_wipe, sub_wipe]
    have hj := h j List.mem_cons_self
    by_cases z : j = i
    · subst z
      by_cases hl : j < σ.length
      · simp [hj, hl]
      · simp [hl]
    · simp [List.getElem?_set_ne z]
theorem wipe_wipe {vs : List Nat} {σ : L2.St} : wipe (wipe σ vs) vs = wipe σ vs := by
  apply List.ext_getElem?
  intro i
  rw [sub_wipe, sub_wipe, wipe_length]
  split <;> rfl
def wipeE (env : List Slot) : List Nat → List Slot
  | [] => env
  | v :: vs => (wipeE env vs).set v .no
theorem wipeE_len (env : List Slot) : ∀ vs, (wipeE env vs).length = env.length
  | [] => rfl
  | v :: vs => by unfold wipeE; rw [List.length_set, wipeE_len env vs]
theorem wipeE_get {env : List Slot} {s : Slot} (hs : s ≠ .no) : ∀ {vs : List Nat} {i : Nat}, (wipeE env vs)[i]? = some s → env[i]? = some s ∧ i ∉ vs
  | [], i, h => ⟨h, by simp⟩
  | v :: vs, i, h => by
    unfold wipeE at h
    rcases get_set h with ⟨_, e, _⟩ | ⟨n, h⟩
    · exact absurd e.symm hs
    · obtain ⟨h1, h2⟩ := wipeE_get hs h
      exact ⟨h1, by simp [Ne.symm n, h2]⟩
theorem Vs.wiped {B F : Hp} {σ : L2.St} {env : List Slot} {vs : List Nat} (h : Vs K B F σ env) : Vs K B F (wipe σ vs) (wipeE env vs) := by
  have key : ∀ {i : Nat} {x : V}, i ∉ vs → σ[i]? = some (some x) → (wipe σ vs)[i]? = some (some x) := fun {i x} hi e => by
    rw [sub_wipe]; simp [hi, e]
  have back : ∀ {i : Nat} {x : V}, (wipe σ vs)[i]? = some (some x) → σ[i]? = some (some x) := fun {i x} e => (wipe_some e).1
  refine ⟨by rw [wipe_length, wipeE_len, h.len], fun i d q => ?_, fun i ds q => ?_, fun i j ds es p n q1 q2 e1 e2 => ?_⟩
  · obtain ⟨q, ni⟩ := wipeE_get (by simp) q
    obtain ⟨x, h1, h2⟩ := h.val i d q
    exact ⟨x, key ni h1, h2⟩
  · obtain ⟨q, ni⟩ := wipeE_get (by simp) q
    obtain ⟨p, ws, h1, h2⟩ := h.own i ds q
    exact ⟨p, ws, key ni h1, h2⟩
  · obtain ⟨q1, _⟩ := wipeE_get (by simp) q1
    obtain ⟨q2, _⟩ := wipeE_get (by simp) q2
    exact h.dis i j ds es p n q1 q2 (back e1) (back e2)
/-- a NEW list, not in the base -/
def EvN (K : PySem.W.Frag) (te : TE) (env : List Slot) (ds : List D) : Prop := ∀ B F σ, Same B F → Vs K B F σ env → ∀ Q : VK, (∀ B' F' p vs, Gr B F B' F' → F p = none → B' p = none → F' p = some (.lst vs) → Reps K B' ds vs → Q (.ref p) F') → te σ F Q
theorem Gr.freeze {H0 H1 B F : Hp} {p : Addr} {o : HO} (g : Gr H0 H1 B F) (h1 : H1 p = none) (hb : B p = none) (hf : F p = some o) : Gr H0 H1 (upd B p o) F :=
  ⟨g.b.trans (same_new hb), fun a u q => by
    by_cases z : a = p
    · subst z; rw [upd_same] at q; cases q; exact hf
    · rw [upd_ne z] at q; exact g.f _ _ q, g.s, fun a q1 q2 => by
    by_cases z : a = p
    · subst z; exact h1
    · rw [upd_ne z] at q1; exact g.n a q1 q2⟩
theorem EvN.ee {ds : List D} (h : EvN K te env ds) : EvE K te env (.lst ds) := fun B F σ hs vs Q q => h B F σ hs vs Q fun B' F' p ws g hF hB hp r =>
  q _ _ _ (g.freeze hF hB hp) (rep_new_lst hB r)
theorem en_lst {t : TA} {ds : List D} (h : EvA K t env ds) (hz : ds.length ≤ 1000) : EvN K (tLst t) env ds := fun B F σ hs vs Q q => h B F σ hs vs _ fun B1 F1 xs g r =>
  ⟨by rw [r.len]; exact Nat.le_of_lt (small1000 hz), fun p hp => q B1 _ p xs ⟨g.b, same_out g.f (g.f.free hp), g.s.trans (same_new hp), g.n⟩ (g.s.free hp) (g.f.free hp) upd_same r⟩
theorem en_listL {ds : List D} (h : EvE K te env (.lst ds)) : EvN K (tCB (rListOf K) (tCons te tNil)) env ds := fun B F σ hs vs Q q => (ea_cons h ea_nil) B F σ hs vs _ fun B1 F1 xs g r => by
  obtain ⟨x, rfl, r1⟩ := reps1 r
  unfold Rep at r1
  obtain ⟨a, vs, rfl, h1, h2⟩ := r1
  exact ⟨a, vs, rfl, .inl (g.f.seq h1), fun p hp => q B1 _ p vs ⟨g.b, same_out g.f (g.f.free hp), g.s.trans (same_new hp), g.n⟩ (g.s.free hp) (g.f.free hp) upd_same h2⟩
theorem en_listT {ds : List D} (h : EvE K te env (.tup ds)) : EvN K (tCB (rListOf K) (tCons te tNil)) env ds := fun B F σ hs vs Q q => (ea_cons h ea_nil) B F σ hs vs _ fun B1 F1 xs g r => by
  obtain ⟨x, rfl, r1⟩ := reps1 r
  unfold Rep at r1
  obtain ⟨a, vs, rfl, h1, h2⟩ := r1
  exact ⟨a, vs, rfl, .inr (sqt_mono g.f h1), fun p hp => q B1 _ p vs ⟨g.b, same_out g.f (g.f.free hp), g.s.trans (same_new hp), g.n⟩ (g.s.free hp) (g.f.free hp) upd_same h2⟩
theorem en_slL {tl th : TO} {ds : List D} {lo hi : Option Int} (h : EvE K te env (.lst ds)) (h1 : EvO K tl env lo) (h2 : EvO K th env hi) : EvN K (tSl (rSlL K) te tl th) env (cutD ds lo hi) := fun B F σ hs vs Q q =>
  h B F σ hs vs _ fun B1 F1 x g1 r1 => h1 B1 F1 σ g1.f (vs.grow g1) _ fun B2 F2 g2 => h2 B2 F2 σ g2.f (vs.grow (g1.trans g2)) _ fun B3 F3 g3 => by
    have r3 := r1.mono (g2.trans g3).b
    have g := (g1.trans g2).trans g3
    unfold Rep at r3
    obtain ⟨a, ws, rfl, e1, e2⟩ := r3
    exact ⟨a, ws, rfl, g3.f.seq e1, fun p hp => q B3 _ p _ ⟨g.b, same_out g.f (g.f.free hp), g.s.trans (same_new hp), g.n⟩ (g.s.free hp) (g.f.free hp) upd_same (cut_reps e2 lo hi)⟩
/-- list comprehension over anything walked, by the turn -/
def picked (f : Nat → Bool) (v : Nat → D) : Nat → List D
  | 0 => []
  | n + 1 => picked f v n ++ (if f n = true then [v n] else [])
theorem picked_len (f : Nat → Bool) (v : Nat → D) : ∀ n, (picked f v n).length ≤ n
  | 0 => Nat.le_refl _
  | n + 1 => by
    unfold picked
    have := picked_len f v n
    rw [List.length_append]
    split <;> simp <;> omega
theorem en_lcI {wi : TI} {g : TG} {tt : TT} {vs : List Nat} {ds : List D} (us : Nat → List (Nat × D)) (f : Nat → Bool) (v : Nat → D) (hi : EvI K wi env ds) (hz : ds.length ≤ 1000)
    (hg : ∀ i d, ds[i]? = some d → EvG K g d (us i)) (hj : ∀ i, i < ds.length → ∀ j ∈ (us i).map (·.1), j ∈ vs)
    (ht : ∀ i, i < ds.length → EvT K tt (sets (wipeE env vs) (us i)) (f i)) (he : ∀ i, i < ds.length → f i = true → EvE K te (sets (wipeE env vs) (us i)) (v i)) : EvN K (tLc wi g tt te vs) env (picked f v ds.length) := fun B F σ hs vS Q q =>
  hi B F σ hs vS _ fun B1 F1 J g1 w L hL => by
    obtain ⟨G, Y, wk, hG, hY⟩ := w.w
    have bL := g1.f.free hL
    have vW : ∀ B' F', Gr B F B' F' → Vs K B' F' (wipe σ vs) (wipeE env vs) := fun B' F' g => (vS.grow g).wiped
    refine lc_it wk (fun i F' => ∃ B' ws, Gr B1 F1 B' F' ∧ B' L = none ∧ F' L = some (.lst ws) ∧ Reps K B' (picked f v i) ws) ?_ ?_ ?_ ?_
    · exact ⟨B1, [], ⟨Same.refl _, same_out g1.f bL, same_new hL, fun a h1 h2 => absurd h2 h1⟩, bL, upd_same, Reps.nil⟩
    · rintro i F' _ ⟨B', ws, g2, _⟩
      exact hG F' (g2.b.trans g2.f)
    · rintro i x F2 F3 hi ⟨B2, ws, g2, b2, e2, r2⟩ hy
      obtain ⟨B3, d, g3, ed, rx⟩ := hY i B2 F2 x F3 g2.b g2.f hy
      refine hg i d ed B3 F3 _ x g3.f rx _ fun xs rxs => ?_
      refine ⟨(wipe_setsV (hj i hi)).trans wipe_wipe, ?_⟩
      have vs3 := (vW B3 F3 ((g1.trans g2).trans g3)).sets (σ := σ) rxs
      refine ht i hi B3 F3 _ g3.f vs3 _ fun B4 F4 g4 => ?_
      have g24 := g3.trans g4
      cases hf : f i with
      | true =>
        show te _ F4 _
        refine he i hi hf B4 F4 _ g4.f (vs3.grow g4) _ fun B5 F5 y g5 r5 => ?_
        have g25 := g24.trans g5
        refine ⟨ws, g25.s _ _ e2, ?_, B5, ws ++ [y], ⟨(g2.trans g25).b, same_out g5.f (g25.out b2 e2), same_out ((g2.trans g25).s) hL, (g2.trans g25).n⟩, g25.out b2 e2, upd_same, ?_⟩
        · rw [r2.len]
          exact Nat.lt_of_le_of_lt (Nat.le_trans (picked_len f v i) (Nat.le_of_lt hi)) (small1000 hz)
        · unfold picked
          simp only [hf, if_pos]
          exact (r2.mono g25.b).append (Reps.cons r5 Reps.nil)
      | false =>
        show ∃ B' ws, _
        refine ⟨B4, ws, g2.trans g24, g24.out b2 e2, g24.s _ _ e2, ?_⟩
        unfold picked
        simp only [hf]
        simpa using r2.mono g24.b
    · rintro F2 ⟨B2, ws, g2, b2, e2, r2⟩
      exact q B2 F2 L ws (g1.trans g2) (g1.s.free hL) b2 e2 r2
theorem et_yes : EvT K tYes env true := fun B F σ hs vs Q q => q B F (Gr.refl hs)
theorem picked_take {α : Type} (xs : List α) (f : α → Bool) (w : α → D) : ∀ n, n ≤ xs.length → picked (fun i => (xs[i]?.map f).getD false) (fun i => (xs[i]?.map w).getD .non) n = ((xs.take n).filter f).map w
  | 0, _ => by simp [picked]
  | n + 1, hn => by
    have hl : n < xs.length := by omega
    unfold picked
    rw [picked_take xs f w n (by omega), List.take_add_one, List.filter_append, List.map_append, List.getElem?_eq_getElem hl]
    congr 1
    show (if f xs[n] = true then [w xs[n]] else []) = List.map w (List.filter f [xs[n]])
    by_cases h : f xs[n] = true <;> simp [h]
/-- the typed form -/
theorem en_lcF {α : Type} {wi : TI} {g : TG} {tt : TT} {vs : List Nat} {rep : α → D} {xs : List α} (us : α → List (Nat × D)) (f : α → Bool) (w : α → D) (hi : EvI K wi env (xs.map rep)) (hz : xs.length ≤ 1000)
    (hg : ∀ x ∈ xs, EvG K g (rep x) (us x)) (hj : ∀ x ∈ xs, ∀ j ∈ (us x).map (·.1), j ∈ vs)
    (ht : ∀ x ∈ xs, EvT K tt (sets (wipeE env vs) (us x)) (f x)) (he : ∀ x ∈ xs, f x = true → EvE K te (sets (wipeE env vs) (us x)) (w x)) : EvN K (tLc wi g tt te vs) env ((xs.filter f).map w) := by
  have key := en_lcI (K := K) (te := te) (tt := tt) (g := g) (vs := vs) (fun i => (xs[i]?.map us).getD []) (fun i => (xs[i]?.map f).getD false) (fun i => (xs[i]?.map w).getD .non) hi (by simpa using hz)
    (fun i d h => by
      rw [List.getElem?_map] at h
      cases e : xs[i]? with
      | none => rw [e] at h; cases h
      | some x => rw [e] at h; cases h; exact hg x (List.mem_of_getElem? e))
    (fun i h => by
      have h : i < xs.length := by simpa using h
      simp only [List.getElem?_eq_getElem h]
      exact hj _ (List.getElem_mem h))
    (fun i h => by
      have h : i < xs.length := by simpa using h
      simp only [List.getElem?_eq_getElem h]
      exact ht _ (List.getElem_mem h))
    (fun i h hf => by
      have h : i < xs.length := by simpa using h
      simp only [List.getElem?_eq_getElem h] at hf ⊢
      exact he _ (List.getElem_mem h) hf)
  rw [List.length_map, picked_take xs f w xs.length (Nat.le_refl _), List.take_length] at key
  exact key
theorem en_lcM {α : Type} {wi : TI} {g : TG} {vs : List Nat} {rep : α → D} {xs : List α} (us : α → List (Nat × D)) (w : α → D) (hi : EvI K wi env (xs.map rep)) (hz : xs.length ≤ 1000)
    (hg : ∀ x ∈ xs, EvG K g (rep x) (us x)) (hj : ∀ x ∈ xs, ∀ j ∈ (us x).map (·.1), j ∈ vs) (he : ∀ x ∈ xs, EvE K te (sets (wipeE env vs) (us x)) (w x)) : EvN K (tLc wi g tYes te vs) env (xs.map w) := by
  have := en_lcF (K := K) (te := te) (tt := tYes) (g := g) (vs := vs) us (fun _ => true) w hi hz hg hj (fun _ _ => et_yes) (fun x hx _ => he x hx)
  have e : List.filter (fun _ => true) xs = xs := by simp
  rw [e] at this
  exact this
/-- one name -/
theorem en_lc1 {α : Type} {wi : TI} {j : Nat} {vs : List Nat} {rep : α → D} {xs : List α} (w : α → D) (hi : EvI K wi env (xs.map rep)) (hj : j ∈ vs) (hz : xs.length ≤ 1000)
    (he : ∀ x ∈ xs, EvE K te ((wipeE env vs).set j (.val (rep x))) (w x)) : EvN K (tLc wi (gName j) tYes te vs) env (xs.map w) :=
  en_lcM (fun x => [(j, rep x)]) w hi hz (fun _ _ => eg_name) (fun x _ k hk => by simp at hk; subst hk; exact hj) he
theorem en_lc1F {α : Type} {wi : TI} {j : Nat} {tt : TT} {vs : List Nat} {rep : α → D} {xs : List α} (f : α → Bool) (w : α → D) (hi : EvI K wi env (xs.map rep)) (hj : j ∈ vs) (hz : xs.length ≤ 1000)
    (ht : ∀ x ∈ xs, EvT K tt ((wipeE env vs).set j (.val (rep x))) (f x)) (he : ∀ x ∈ xs, f x = true → EvE K te ((wipeE env vs).set j (.val (rep x))) (w x)) : EvN K (tLc wi (gName j) tt te vs) env ((xs.filter f).map w) :=
  en_lcF (fun x => [(j, rep x)]) f w hi hz (fun _ _ => eg_name) (fun x _ k hk => by simp at hk; subst hk; exact hj) ht he
end
/-! ### own slots read -/
section
variable {K : PySem.W.Frag} {env : List Slot} {ta tb te tc : TE} {d d1 d2 : D}
theorem Vs.freeze {B F : Hp} {σ : L2.St} {i : Nat} {ds : List D} (h : Vs K B F σ env) (e : env[i]? = some (.own ds)) {p : Addr} {vs : List V} (hp : σ[i]? = some (some (.ref p))) (hb : B p = none) (hf : F p = some (.lst vs)) (r : Reps K B ds vs) :
    Vs K (upd B p (.lst vs)) F σ (env.set i (.val (.lst ds))) := by
  have sb : Same B (upd B p (.lst vs)) := same_new hb
  refine ⟨by rw [List.length_set, h.len], fun j d q => ?_, fun j es q => ?_, fun j k es fs q n q1 q2 e1 e2 => ?_⟩
  · rcases get_set q with ⟨rfl, e', hj⟩ | ⟨n, q⟩
    · cases e'; exact ⟨_, hp, rep_new_lst hb r⟩
    · obtain ⟨x, h1, h2⟩ := h.val j d q; exact ⟨x, h1, h2.mono sb⟩
  · rcases get_set q with ⟨rfl, e', hj⟩ | ⟨n, q⟩
    · cases e'
    · obtain ⟨p', ws, h1, h2, h3, h4⟩ := h.own j es q
      refine ⟨p', ws, h1, ?_, h3, h4.mono sb⟩
      have : p' ≠ p := fun z => by subst z; exact h.dis i j ds es p' n e q hp h1
      rw [upd_ne this]; exact h2
  · rcases get_set q1 with ⟨rfl, e', hj⟩ | ⟨n1, q1⟩
    · cases e'
    · rcases get_set q2 with ⟨rfl, e', hj⟩ | ⟨n2, q2⟩
      · cases e'
      · exact h.dis j k es fs q n q1 q2 e1 e2
/-- a list of one's own, read for a scalar -/
theorem ee_peek (i : Nat) {ds : List D} {v : V} (e : env[i]? = some (.own ds)) (h : EvE K te (env.set i (.val (.lst ds))) d) (hv : sV d = some v) : EvE K te env d := fun B F σ hs vs Q q => by
  obtain ⟨p, ws, h1, h2, h3, h4⟩ := vs.own i ds e
  have sF : Same (upd B p (.lst ws)) F := fun a u z => by
    by_cases k : a = p
    · subst k; rw [upd_same] at z; cases z; exact h3
    · rw [upd_ne k] at z; exact hs _ _ z
  refine h _ F σ sF (vs.freeze e h1 h2 h3 h4) Q fun B' F' x g r => ?_
  refine q B F' x ⟨Same.refl _, hs.trans g.s, g.s, fun a z1 z2 => absurd z2 z1⟩ ?_
  have hx := r.sc hv
  subst hx
  cases d <;> unfold sV at hv <;> cases hv <;> (unfold Rep; rfl)
theorem et_peek (i : Nat) {tt : TT} {ds : List D} {b : Bool} (e : env[i]? = some (.own ds)) (h : EvT K tt (env.set i (.val (.lst ds))) b) : EvT K tt env b := fun B F σ hs vs Q q => by
  obtain ⟨p, ws, h1, h2, h3, h4⟩ := vs.own i ds e
  have sF : Same (upd B p (.lst ws)) F := fun a u z => by
    by_cases k : a = p
    · subst k; rw [upd_same] at z; cases z; exact h3
    · rw [upd_ne k] at z; exact hs _ _ z
  exact h _ F σ sF (vs.freeze e h1 h2 h3 h4) Q fun B' F' g => q B F' ⟨Same.refl _, hs.trans g.s, g.s, fun a z1 z2 => absurd z2 z1⟩
theorem ee_ixO (i : Nat) {ds : List D} {k : Int} (e : env[i]? = some (.own ds)) (h2 : EvE K tb env (.int k)) (ha : atI ds k = some d) : EvE K (tOp (rIxL K) (tVar i) tb) env d := fun B F σ hs vs Q q => by
  obtain ⟨p, ws, e1, e2, e3, e4⟩ := vs.own i ds e
  refine ⟨_, e1, h2 B F σ hs vs _ fun B1 F1 y g1 r1 => ?_⟩
  unfold Rep at r1; subst r1
  obtain ⟨m, z1, z2⟩ := atI_len (xs := ws) e4.len ha
  obtain ⟨z, z3, z4⟩ := e4.get z1
  exact ⟨p, ws, k, z, rfl, rfl, .inl (.inl (g1.s _ _ e3)), z2 z z3, q B1 F1 _ g1 (z4.mono g1.b)⟩
/-! ### calls -/
def spR (K : PySem.W.Frag) (R : List D → D → Prop) : Sp := fun vs F Q _ => ∃ B ds r, Same B F ∧ Reps K B ds vs ∧ R ds r ∧ ∀ B' F' x, Gr B F B' F' → Rep K B' r x → Q x F'
theorem ee_call {R : List D → D → Prop} {E : XK} {t : TA} {ds : List D} (h : EvA K t env ds) (hr : R ds d) : EvE K (tCall (spR K R) [] E t) env d := fun B F σ hs vs Q q => h B F σ hs vs _ fun B1 F1 xs g r => by
  refine ⟨B1, ds, d, g.f, by simpa using r, hr, fun B2 F2 x g2 r2 => q B2 F2 x (g.trans g2) r2⟩
end
/-! ### statements -/
structure State (K : PySem.W.Frag) (H0 H1 B F : Hp) (σ : L2.St) (env : List Slot) : Prop where
  gr : Gr H0 H1 B F
  vs : Vs K B F σ env
  fr : ∀ (i : Nat) (ds : List D) (p : Addr), env[i]? = some (.own ds) → σ[i]? = some (some (.ref p)) → H1 p = none
def Nx (K : PySem.W.Frag) (H0 H1 : Hp) (n : L2.St → Hp → Prop) (env : List Slot) : Prop := ∀ B F σ, State K H0 H1 B F σ env → n σ F
def Go (K : PySem.W.Frag) (H0 H1 : Hp) (t : TS) (E : Ends) (env : List Slot) : Prop := Nx K H0 H1 (t E) env
section
variable {K : PySem.W.Frag} {H0 H1 : Hp} {env : List Slot} {ta tb te tc : TE} {d d1 d2 : D} {E : Ends} {t u : TS}
theorem State.grow {B F B' F' : Hp} {σ : L2.St} (h : State K H0 H1 B F σ env) (g : Gr B F B' F') : State K H0 H1 B' F' σ env := ⟨h.gr.trans g, h.vs.grow g, h.fr⟩
theorem State.set {B F : Hp} {σ : L2.St} (h : State K H0 H1 B F σ env) {j : Nat} {x : V} (r : Rep K B d x) : State K H0 H1 B F (σ.set j (some x)) (env.set j (.val d)) :=
  ⟨h.gr, h.vs.set r, fun i ds p q e => by
    rcases get_set q with ⟨rfl, e', hj⟩ | ⟨n, q⟩
    · cases e'
    · rw [List.getElem?_set_ne n] at e; exact h.fr i ds p q e⟩
theorem State.sets : ∀ {us : List (Nat × D)} {env : List Slot} {xs : List V} {B F : Hp} {σ : L2.St}, State K H0 H1 B F σ env → Reps K B (us.map (·.2)) xs → State K H0 H1 B F (setsV σ (us.map (·.1)) xs) (Z.sets env us)
  | [], env, xs, B, F, σ, h, r => by
    simp only [List.map_nil] at r
    unfold Reps at r; subst r
    simpa [setsV, Z.sets] using h
  | (j, d) :: us, env, xs, B, F, σ, h, r => by
    simp only [List.map_cons] at r
    unfold Reps at r
    obtain ⟨x, ws, rfl, h2, h3⟩ := r
    show State K H0 H1 B F (setsV (σ.set j (some x)) (us.map (·.1)) ws) (Z.sets (env.set j (.val d)) us)
    exact State.sets (h.set h2) h3
theorem State.freeze {B F : Hp} {σ : L2.St} {i : Nat} {ds : List D} (h : State K H0 H1 B F σ env) (e : env[i]? = some (.own ds)) : ∃ B', State K H0 H1 B' F σ (env.set i (.val (.lst ds))) := by
  obtain ⟨p, ws, h1, h2, h3, h4⟩ := h.vs.own i ds e
  exact ⟨_, h.gr.freeze (h.fr i ds p e h1) h2 h3, h.vs.freeze e h1 h2 h3 h4, fun j es q z1 z2 => by
    rcases get_set z1 with ⟨rfl, e', hj⟩ | ⟨n, z1⟩
    · cases e'
    · exact h.fr j es q z1 z2⟩
/-- env' says less than env -/
def Sub (env env' : List Slot) : Prop := env.length = env'.length ∧ ∀ (i : Nat) (s : Slot), env'[i]? = some s → s = .no ∨ env[i]? = some s
theorem Sub.refl (env : List Slot) : Sub env env := ⟨rfl, fun _ _ h => .inr h⟩
theorem State.sub {B F : Hp} {σ : L2.St} {env' : List Slot} (h : State K H0 H1 B F σ env) (s : Sub env env') : State K H0 H1 B F σ env' := by
  have back : ∀ {i : Nat} {x : Slot}, x ≠ .no → env'[i]? = some x → env[i]? = some x := fun hx e => (s.2 _ _ e).resolve_left hx
  exact ⟨h.gr, ⟨h.vs.len.trans s.1, fun i d q => h.vs.val i d (back (by simp) q), fun i ds q => h.vs.own i ds (back (by simp) q), fun i j ds es p n q1 q2 => h.vs.dis i j ds es p n (back (by simp) q1) (back (by simp) q2)⟩,
    fun i ds p q => h.fr i ds p (back (by simp) q)⟩
theorem nx_sub {n : L2.St → Hp → Prop} {env' : List Slot} (s : Sub env env') (h : Nx K H0 H1 n env') : Nx K H0 H1 n env := fun B F σ st => h B F σ (st.sub s)
theorem nx_freeze {n : L2.St → Hp → Prop} (i : Nat) {ds : List D} (e : env[i]? = some (.own ds)) (h : Nx K H0 H1 n (env.set i (.val (.lst ds)))) : Nx K H0 H1 n env := fun B F σ st => by
  obtain ⟨B', st'⟩ := st.freeze e
  exact h B' F σ st'
theorem go_seq (h : Go K H0 H1 t { E with nx := u E } env) : Go K H0 H1 (tSeq t u) E env := h
theorem go_next (h : Nx K H0 H1 E.nx env) : Go K H0 H1 tNext E env := h
theorem go_break (h : Nx K H0 H1 E.bk env) : Go K H0 H1 tBreak E env := h
theorem go_cont (h : Nx K H0 H1 E.ct env) : Go K H0 H1 tCont E env := h
theorem go_asg {i : Nat} (h : EvE K te env d) (k : Nx K H0 H1 E.nx (env.set i (.val d))) : Go K H0 H1 (tAsg te (gName i)) E env := fun B F σ st =>
  h B F σ st.gr.f st.vs _ fun B' F' x g r => k B' F' _ ((st.grow g).set r)
theorem go_asgG {g : TG} {us : List (Nat × D)} (h : EvE K te env d) (hg : EvG K g d us) (k : Nx K H0 H1 E.nx (sets env us)) : Go K H0 H1 (tAsg te g) E env := fun B F σ st =>
  h B F σ st.gr.f st.vs _ fun B' F' x gg r => hg B' F' σ x gg.f r _ fun xs rx => k B' F' _ ((st.grow gg).sets rx)
theorem go_own {i : Nat} {ds : List D} (h : EvN K te env ds) (k : Nx K H0 H1 E.nx (env.set i (.own ds))) : Go K H0 H1 (tAsg te (gName i)) E env := fun B F σ st =>
  h B F σ st.gr.f st.vs _ fun B' F' p vs g hF hB hp r => k B' F' _ (by
    have st' := st.grow g
    have nx : ∀ (j : Nat) (es : List D), env[j]? = some (.own es) → σ[j]? ≠ some (some (.ref p)) := fun j es e z => by
      obtain ⟨q, ws, h1, h2, h3, h4⟩ := st.vs.own j es e
      rw [h1] at z; cases z
      rw [hF] at h3; cases h3
    refine ⟨st'.gr, ⟨by simp [st'.vs.len], fun j d q => ?_, fun j es q => ?_, fun j k es fs q n q1 q2 e1 e2 => ?_⟩, fun j es q z1 z2 => ?_⟩
    · rcases get_set q with ⟨rfl, e', hj⟩ | ⟨n, q⟩
      · cases e'
      · rw [List.getElem?_set_ne n]; exact st'.vs.val j d q
    · rcases get_set q with ⟨rfl, e', hj⟩ | ⟨n, q⟩
      · cases e'
        exact ⟨p, vs, List.getElem?_set_self (by rw [st'.vs.len]; exact hj), hB, hp, r⟩
      · rw [List.getElem?_set_ne n]; exact st'.vs.own j es q
    · rcases get_set q1 with ⟨rfl, e', hj⟩ | ⟨n1, q1⟩
      · rcases get_set q2 with ⟨rfl, e'', hk⟩ | ⟨n2, q2⟩
        · exact n rfl
        · rw [List.getElem?_set_self (by rw [st'.vs.len]; exact hj)] at e1
          cases e1
          rw [List.getElem?_set_ne n2] at e2
          exact nx k fs q2 e2
      · rw [List.getElem?_set_ne n1] at e1
        rcases get_set q2 with ⟨rfl, e'', hk⟩ | ⟨n2, q2⟩
        · rw [List.getElem?_set_self (by rw [st'.vs.len]; exact hk)] at e2
          cases e2
          exact nx j es q1 e1
        · rw [List.getElem?_set_ne n2] at e2
          exact st'.vs.dis j k es fs q n q1 q2 e1 e2
    · rcases get_set z1 with ⟨rfl, e', hj⟩ | ⟨n, z1⟩
      · rw [List.getElem?_set_self (by rw [st'.vs.len]; exact hj)] at z2
        cases z2
        exact st.gr.s.free hF
      · rw [List.getElem?_set_ne n] at z2; exact st'.fr j es q z1 z2)
/-- a list of one's own is written -/
theorem State.put {B F : Hp} {σ : L2.St} {i : Nat} {ds es : List D} {vs ws : List V} {p : Addr} (h : State K H0 H1 B F σ env) (e : env[i]? = some (.own ds)) (hp : σ[i]? = some (some (.ref p))) (hb : B p = none) (r : Reps K B es ws) :
    State K H0 H1 B (upd F p (.lst ws)) σ (env.set i (.own es)) := by
  have h1 := h.fr i ds p e hp
  have hi : i < env.length := (List.getElem?_eq_some_iff.mp e).1
  refine ⟨⟨h.gr.b, same_out h.gr.f hb, same_out h.gr.s h1, h.gr.n⟩, ⟨by rw [List.length_set, h.vs.len], fun j d q => ?_, fun j es' q => ?_, fun j k es' fs q n q1 q2 e1 e2 => ?_⟩, fun j es' q z1 z2 => ?_⟩
  · rcases get_set q with ⟨rfl, e', hj⟩ | ⟨n, q⟩
    · cases e'
    · exact h.vs.val j d q
  · rcases get_set q with ⟨rfl, e', hj⟩ | ⟨n, q⟩
    · cases e'
      exact ⟨p, ws, hp, hb, upd_same, r⟩
    · obtain ⟨q', us, g1, g2, g3, g4⟩ := h.vs.own j es' q
      refine ⟨q', us, g1, g2, ?_, g4⟩
      have : q' ≠ p := fun z => by subst z; exact h.vs.dis i j ds es' q' n e q hp g1
      rw [upd_ne this]; exact g3
  · have old : ∀ (m : Nat) (fs : List D), (env.set i (.own es))[m]? = some (.own fs) → ∃ gs, env[m]? = some (.own gs) := fun m fs z => by
      rcases get_set z with ⟨rfl, e', hj⟩ | ⟨n, z⟩
      · exact ⟨ds, e⟩
      · exact ⟨fs, z⟩
    obtain ⟨_, a1⟩ := old j es' q1
    obtain ⟨_, a2⟩ := old k fs q2
    exact h.vs.dis j k _ _ q n a1 a2 e1 e2
  · rcases get_set z1 with ⟨rfl, e', hj⟩ | ⟨n, z1⟩
    · rw [hp] at z2; cases z2; exact h1
    · exact h.fr j es' q z1 z2
theorem go_app {i : Nat} {ds : List D} (e : env[i]? = some (.own ds)) (h : EvE K te env d) (hz : ds.length ≤ 1000) (k : Nx K H0 H1 E.nx (env.set i (.own (ds ++ [d])))) :
    Go K H0 H1 (tDrop (tBM K "list" rAppend (tVar i) (tCons te tNil))) E env := fun B F σ st => by
  obtain ⟨p, ws, h1, h2, h3, h4⟩ := st.vs.own i ds e
  refine ⟨_, h1, .inl ⟨rfl, ws, .inl (.inl h3)⟩, h B F σ st.gr.f st.vs _ fun B1 F1 x g r => ?_⟩
  have st1 := st.grow g
  refine ⟨p, ws, x, rfl, rfl, g.s _ _ h3, ?_, ?_⟩
  · rw [h4.len]; exact small1000 hz
  · exact k B1 _ σ (st1.put (vs := ws) e h1 (g.out h2 h3) ((h4.mono g.b).append (Reps.cons r Reps.nil)))
theorem go_setL {i : Nat} {ds : List D} {k : Nat} {tk : TE} (e : env[i]? = some (.own ds)) (h : EvE K te env d) (hk : EvE K tk env (.int (k : Int))) (hb : k < ds.length) (q : Nx K H0 H1 E.nx (env.set i (.own (ds.set k d)))) :
    Go K H0 H1 (tAsg te (gSub (tVar i) tk rSetL)) E env := fun B F σ st => h B F σ st.gr.f st.vs _ fun B1 F1 x g r => by
  have st1 := st.grow g
  obtain ⟨p, ws, h1, h2, h3, h4⟩ := st1.vs.own i ds e
  refine ⟨_, h1, hk B1 F1 σ st1.gr.f st1.vs _ fun B2 F2 y g2 r2 => ?_⟩
  unfold Rep at r2; subst r2
  have st2 := st1.grow g2
  refine ⟨p, ws, (k : Int), k, rfl, rfl, g2.s _ _ h3, Evl.ixN_nat (by rw [h4.len]; exact hb), ?_⟩
  exact q B2 _ σ (st2.put (vs := ws) e h1 (g2.out h2 h3) (Reps.set (r.mono g2.b) k (h4.mono g2.b)))
theorem go_drop (h : EvE K te env d) (k : Nx K H0 H1 E.nx env) : Go K H0 H1 (tDrop te) E env := fun B F σ st => h B F σ st.gr.f st.vs _ fun B' F' x g r => k B' F' σ (st.grow g)
def Rt (K : PySem.W.Frag) (H0 H1 : Hp) (rt : VK) (d : D) : Prop := ∀ B F x, Gr H0 H1 B F → Rep K B d x → rt x F
theorem go_ret (h : EvE K te env d) (k : Rt K H0 H1 E.rt d) : Go K H0 H1 (tRet te) E env := fun B F σ st => h B F σ st.gr.f st.vs _ fun B' F' x g r => k B' F' x (st.gr.trans g) r
theorem Rt.is {rt : VK} {d' : D} (h : Rt K H0 H1 rt d) (e : d' = d) : Rt K H0 H1 rt d' := e ▸ h
theorem go_if {tt : TT} {b : Bool} (h : EvT K tt env b) (h1 : b = true → Go K H0 H1 t E env) (h2 : b = false → Go K H0 H1 u E env) : Go K H0 H1 (tIfS tt t u) E env := fun B F σ st => h B F σ st.gr.f st.vs _ fun B' F' g => by
  cases b with
  | true => exact h1 rfl B' F' σ (st.grow g)
  | false => exact h2 rfl B' F' σ (st.grow g)
/-- both ways meet in env' -/
theorem go_ifJ {tt : TT} {b : Bool} (env' : List Slot) (h : EvT K tt env b) (k : Nx K H0 H1 E.nx env') (h1 : Nx K H0 H1 E.nx env' → b = true → Go K H0 H1 t E env) (h2 : Nx K H0 H1 E.nx env' → b = false → Go K H0 H1 u E env) : Go K H0 H1 (tIfS tt t u) E env := go_if h (h1 k) (h2 k)
/-- if c: x = e -/
theorem go_ifAsg {tt : TT} {b : Bool} {i : Nat} {old : D} (h : EvT K tt env b) (ho : env[i]? = some (.val old)) (h1 : b = true → EvE K te env d) (k : Nx K H0 H1 E.nx (env.set i (.val (if b = true then d else old)))) : Go K H0 H1 (tIfS tt (tAsg te (gName i)) tNext) E env :=
  go_if h (fun hb => go_asg (h1 hb) (by simpa [hb] using k)) (fun hb => go_next (by
    have e : env.set i (.val old) = env := by
      apply List.ext_getElem?
      intro j
      by_cases z : i = j
      · subst z
        rw [List.getElem?_set_self (List.getElem?_eq_some_iff.mp ho).1, ho]
      · rw [List.getElem?_set_ne z]
    have e2 : (if b = true then d else old) = old := by simp [hb]
    rw [e2, e] at k
    exact k))
theorem Gr.rebase {H0 H1 B1 F1 B F : Hp} (g : Gr H0 H1 B1 F1) (h : Gr B1 H1 B F) : Gr H0 H1 B F :=
  ⟨g.b.trans h.b, h.f, h.s, fun a h1 h2 => by
    by_cases z : B1 a = none
    · exact h.n a h1 z
    · exact g.n a z h2⟩
/-- a loop, the slots and a fact told by the turn -/
theorem go_forP {wi : TI} {g : TG} {ds : List D} (Pn : Nat → Prop) (en : Nat → List Slot) (us : Nat → List (Nat × D)) (hi : EvI K wi env ds) (p0 : Pn 0) (h0 : Sub env (en 0)) (hg : ∀ i d, ds[i]? = some d → EvG K g d (us i))
    (hs : ∀ i, i < ds.length → Pn i → ∀ (G0 : Hp) (E' : Ends), (∀ r, Rt K H0 H1 E.rt r → Rt K G0 H1 E'.rt r) → (∀ ev, Nx K H0 H1 E.nx ev → Nx K G0 H1 E'.bk ev) →
      (Pn (i + 1) → Nx K G0 H1 E'.nx (en (i + 1))) → (Pn (i + 1) → Nx K G0 H1 E'.ct (en (i + 1))) → Go K G0 H1 t E' (sets (en i) (us i))) (hd : Pn ds.length → Nx K H0 H1 E.nx (en ds.length)) : Go K H0 H1 (tFor wi g t) E env := fun B F σ st =>
  hi B F σ st.gr.f st.vs _ fun B1 F1 J g1 w => by
    obtain ⟨G, Y, wk, hG, hY⟩ := w.w
    have st1 := st.grow g1
    have sta : State K B1 H1 B1 F1 σ (en 0) := (⟨⟨Same.refl _, st1.gr.f, st1.gr.s, fun a h1 h2 => absurd h2 h1⟩, st1.vs, st1.fr⟩ : State K B1 H1 B1 F1 σ env).sub h0
    refine for_it wk (fun i σ' F' => Pn i ∧ ∃ B', State K B1 H1 B' F' σ' (en i)) ⟨p0, B1, sta⟩ ?_ ?_ ?_
    · rintro i σ' F' _ ⟨_, B', st'⟩
      exact hG F' (st'.gr.b.trans st'.gr.f)
    · rintro i x σ' F2 F3 hl ⟨pi, B2, st2⟩ hy
      obtain ⟨B3, d, g3, ed, rx⟩ := hY i B2 F2 x F3 st2.gr.b st2.gr.f hy
      refine hg i d ed B3 F3 _ x g3.f rx _ fun xs rxs => ?_
      have st3 := (st2.grow g3).sets rxs
      exact hs i hl pi B1 { E with nx := fun σ' F' => Pn (i + 1) ∧ ∃ B', State K B1 H1 B' F' σ' (en (i + 1)), ct := fun σ' F' => Pn (i + 1) ∧ ∃ B', State K B1 H1 B' F' σ' (en (i + 1)), bk := E.nx } (fun r hr B F x g => hr B F x (st1.gr.rebase g)) (fun ev hn B F σ s => hn B F σ ⟨st1.gr.rebase s.gr, s.vs, s.fr⟩)
        (fun pn B F σ s => ⟨pn, B, s⟩) (fun pn B F σ s => ⟨pn, B, s⟩) B3 F3 _ st3
    · rintro σ' F2 ⟨pn, B2, st2⟩
      exact hd pn B2 F2 σ' ⟨st1.gr.rebase st2.gr, st2.vs, st2.fr⟩
theorem go_for {wi : TI} {g : TG} {ds : List D} (en : Nat → List Slot) (us : Nat → List (Nat × D)) (hi : EvI K wi env ds) (h0 : Sub env (en 0)) (hg : ∀ i d, ds[i]? = some d → EvG K g d (us i))
    (hs : ∀ i, i < ds.length → ∀ (G0 : Hp) (E' : Ends), (∀ r, Rt K H0 H1 E.rt r → Rt K G0 H1 E'.rt r) → (∀ ev, Nx K H0 H1 E.nx ev → Nx K G0 H1 E'.bk ev) →
      Nx K G0 H1 E'.nx (en (i + 1)) → Nx K G0 H1 E'.ct (en (i + 1)) → Go K G0 H1 t E' (sets (en i) (us i))) (hd : Nx K H0 H1 E.nx (en ds.length)) : Go K H0 H1 (tFor wi g t) E env :=
  go_forP (fun _ => True) en us hi trivial h0 hg (fun i hl _ G0 E' h1 h2 h3 h4 => hs i hl G0 E' h1 h2 (h3 trivial) (h4 trivial)) (fun _ => hd)
theorem go_for1P {α : Type} {wi : TI} {j : Nat} {rep : α → D} {xs : List α} (Pn : Nat → Prop) (en : Nat → List Slot) (hi : EvI K wi env (xs.map rep)) (p0 : Pn 0) (h0 : Sub env (en 0))
    (hs : ∀ i x, xs[i]? = some x → Pn i → ∀ (G0 : Hp) (E' : Ends), (∀ r, Rt K H0 H1 E.rt r → Rt K G0 H1 E'.rt r) → (∀ ev, Nx K H0 H1 E.nx ev → Nx K G0 H1 E'.bk ev) →
      (Pn (i + 1) → Nx K G0 H1 E'.nx (en (i + 1))) → (Pn (i + 1) → Nx K G0 H1 E'.ct (en (i + 1))) → Go K G0 H1 t E' ((en i).set j (.val (rep x)))) (hd : Pn xs.length → Nx K H0 H1 E.nx (en xs.length)) : Go K H0 H1 (tFor wi (gName j) t) E env := by
  refine go_forP Pn en (fun i => (xs[i]?.map fun x => [(j, rep x)]).getD []) hi p0 h0 (fun i d h => ?_) (fun i hl pi G0 E' h1 h2 h3 h4 => ?_) (by simpa using hd)
  · rw [List.getElem?_map] at h
    cases e : xs[i]? with
    | none => rw [e] at h; cases h
    | some x => rw [e] at h; cases h; exact eg_name
  · have hl : i < xs.length := by simpa using hl
    have e := List.getElem?_eq_getElem hl
    rw [e]
    exact hs i xs[i] e pi G0 E' h1 h2 h3 h4
/-- one name for the turn's item, typed -/
theorem go_for1 {α : Type} {wi : TI} {j : Nat} {rep : α → D} {xs : List α} (en : Nat → List Slot) (hi : EvI K wi env (xs.map rep)) (h0 : Sub env (en 0))
    (hs : ∀ i x, xs[i]? = some x → ∀ (G0 : Hp) (E' : Ends), (∀ r, Rt K H0 H1 E.rt r → Rt K G0 H1 E'.rt r) → (∀ ev, Nx K H0 H1 E.nx ev → Nx K G0 H1 E'.bk ev) →
      Nx K G0 H1 E'.nx (en (i + 1)) → Nx K G0 H1 E'.ct (en (i + 1)) → Go K G0 H1 t E' ((en i).set j (.val (rep x)))) (hd : Nx K H0 H1 E.nx (en xs.length)) : Go K H0 H1 (tFor wi (gName j) t) E env := by
  refine go_for en (fun i => (xs[i]?.map fun x => [(j, rep x)]).getD []) hi h0 (fun i d h => ?_) (fun i hl G0 E' h1 h2 h3 h4 => ?_) (by simpa using hd)
  · rw [List.getElem?_map] at h
    cases e : xs[i]? with
    | none => rw [e] at h; cases h
    | some x => rw [e] at h; cases h; exact eg_name
  · have hl : i < xs.length := by simpa using hl
    have e := List.getElem?_eq_getElem hl
    rw [e]
    exact hs i xs[i] e G0 E' h1 h2 h3 h4
theorem go_range {j : Nat} {n : Int} (m : Nat) (en : Nat → List Slot) (h : EvE K te env (.int n)) (hm : n.toNat = m) (hn : n < 2 ^ 62 ∧ -(2 ^ 62) ≤ n) (h0 : Sub env (en 0))
    (hs : ∀ i : Nat, i < m → ∀ (G0 : Hp) (E' : Ends), (∀ r, Rt K H0 H1 E.rt r → Rt K G0 H1 E'.rt r) → (∀ ev, Nx K H0 H1 E.nx ev → Nx K G0 H1 E'.bk ev) →
      Nx K G0 H1 E'.nx (en (i + 1)) → Nx K G0 H1 E'.ct (en (i + 1)) → Go K G0 H1 t E' ((en i).set j (.val (.int (i : Int))))) (hd : Nx K H0 H1 E.nx (en m)) : Go K H0 H1 (tFor (iRng1 (tCons te tNil)) (gName j) t) E env := by
  subst hm
  have e : rng 0 n.toNat = (List.range n.toNat).map (fun (i : Nat) => D.int (i : Int)) := by simp [rng]
  have hi := ei_rng1 h ⟨hn.2, hn.1⟩
  rw [e] at hi
  refine go_for1 (rep := fun (i : Nat) => D.int (i : Int)) en hi h0 (fun i x hx => ?_) (by simpa using hd)
  have hl : i < n.toNat := by
    have := (List.getElem?_eq_some_iff.mp hx).1
    simpa using this
  have : i = x := by simpa [hl] using hx
  subst this
  exact hs i hl
/-! ### the same, something behind -/
theorem q_asg {i : Nat} (h : EvE K te env d) (k : Go K H0 H1 u E (env.set i (.val d))) : Go K H0 H1 (tSeq (tAsg te (gName i)) u) E env := go_asg (E := { E with nx := u E }) h k
theorem q_asgG {g : TG} {us : List (Nat × D)} (h : EvE K te env d) (hg : EvG K g d us) (k : Go K H0 H1 u E (sets env us)) : Go K H0 H1 (tSeq (tAsg te g) u) E env := go_asgG (E := { E with nx := u E }) h hg k
theorem q_own {i : Nat} {ds : List D} (h : EvN K te env ds) (k : Go K H0 H1 u E (env.set i (.own ds))) : Go K H0 H1 (tSeq (tAsg te (gName i)) u) E env := go_own (E := { E with nx := u E }) h k
theorem q_app {i : Nat} {ds : List D} (e : env[i]? = some (.own ds)) (h : EvE K te env d) (hz : ds.length ≤ 1000) (k : Go K H0 H1 u E (env.set i (.own (ds ++ [d])))) :
    Go K H0 H1 (tSeq (tDrop (tBM K "list" rAppend (tVar i) (tCons te tNil))) u) E env := go_app (E := { E with nx := u E }) e h hz k
theorem q_setL {i : Nat} {ds : List D} {k : Nat} {tk : TE} (e : env[i]? = some (.own ds)) (h : EvE K te env d) (hk : EvE K tk env (.int (k : Int))) (hb : k < ds.length) (q : Go K H0 H1 u E (env.set i (.own (ds.set k d)))) :
    Go K H0 H1 (tSeq (tAsg te (gSub (tVar i) tk rSetL)) u) E env := go_setL (E := { E with nx := u E }) e h hk hb q
theorem q_freeze (i : Nat) {ds : List D} (e : env[i]? = some (.own ds)) (h : Go K H0 H1 u E (env.set i (.val (.lst ds)))) : Go K H0 H1 u E env := nx_freeze i e h
theorem q_sub {env' : List Slot} (s : Sub env env') (h : Go K H0 H1 u E env') : Go K H0 H1 u E env := nx_sub s h
theorem q_drop (h : EvE K te env d) (k : Go K H0 H1 u E env) : Go K H0 H1 (tSeq (tDrop te) u) E env := go_drop (E := { E with nx := u E }) h k
theorem q_if {tt : TT} {b : Bool} {v : TS} (h : EvT K tt env b) (h1 : b = true → Go K H0 H1 t { E with nx := v E } env) (h2 : b = false → Go K H0 H1 u { E with nx := v E } env) : Go K H0 H1 (tSeq (tIfS tt t u) v) E env := go_if (E := { E with nx := v E }) h h1 h2
/-- an if without else, left by every way through it -/
theorem q_leave {tt : TT} {b : Bool} {v : TS} (h : EvT K tt env b) (h1 : b = true → Go K H0 H1 t { E with nx := v E } env) (h2 : b = false → Go K H0 H1 v E env) : Go K H0 H1 (tSeq (tIfS tt t tNext) v) E env := go_if (E := { E with nx := v E }) h h1 h2
theorem q_ifAsg {tt : TT} {b : Bool} {i : Nat} {old : D} (h : EvT K tt env b) (ho : env[i]? = some (.val old)) (h1 : b = true → EvE K te env d) (k : Go K H0 H1 u E (env.set i (.val (if b = true then d else old)))) : Go K H0 H1 (tSeq (tIfS tt (tAsg te (gName i)) tNext) u) E env :=
  go_ifAsg (E := { E with nx := u E }) h ho h1 k
/-- both ways meet in env' -/
theorem q_ifJ {tt : TT} {b : Bool} {v : TS} (env' : List Slot) (h : EvT K tt env b) (h1 : ∀ E' : Ends, E'.rt = E.rt → E'.bk = E.bk → E'.ct = E.ct → Nx K H0 H1 E'.nx env' → b = true → Go K H0 H1 t E' env) (h2 : ∀ E' : Ends, E'.rt = E.rt → E'.bk = E.bk → E'.ct = E.ct → Nx K H0 H1 E'.nx env' → b = false → Go K H0 H1 u E' env) (k : Go K H0 H1 v E env') : Go K H0 H1 (tSeq (tIfS tt t u) v) E env :=
  go_if (E := { E with nx := v E }) h (h1 _ rfl rfl rfl k) (h2 _ rfl rfl rfl k)
theorem q_for1 {α : Type} {wi : TI} {j : Nat} {rep : α → D} {xs : List α} (en : Nat → List Slot) (hi : EvI K wi env (xs.map rep)) (h0 : Sub env (en 0))
    (hs : ∀ i x, xs[i]? = some x → ∀ (G0 : Hp) (E' : Ends), (∀ r, Rt K H0 H1 E.rt r → Rt K G0 H1 E'.rt r) → (∀ ev, Go K H0 H1 u E ev → Nx K G0 H1 E'.bk ev) →
      Nx K G0 H1 E'.nx (en (i + 1)) → Nx K G0 H1 E'.ct (en (i + 1)) → Go K G0 H1 t E' ((en i).set j (.val (rep x)))) (hd : Go K H0 H1 u E (en xs.length)) : Go K H0 H1 (tSeq (tFor wi (gName j) t) u) E env := go_for1 (E := { E with nx := u E }) en hi h0 hs hd
theorem q_for {wi : TI} {g : TG} {ds : List D} (en : Nat → List Slot) (us : Nat → List (Nat × D)) (hi : EvI K wi env ds) (h0 : Sub env (en 0)) (hg : ∀ i d, ds[i]? = some d → EvG K g d (us i))
    (hs : ∀ i, i < ds.length → ∀ (G0 : Hp) (E' : Ends), (∀ r, Rt K H0 H1 E.rt r → Rt K G0 H1 E'.rt r) → (∀ ev, Go K H0 H1 u E ev → Nx K G0 H1 E'.bk ev) →
      Nx K G0 H1 E'.nx (en (i + 1)) → Nx K G0 H1 E'.ct (en (i + 1)) → Go K G0 H1 t E' (sets (en i) (us i))) (hd : Go K H0 H1 u E (en ds.length)) : Go K H0 H1 (tSeq (tFor wi g t) u) E env := go_for (E := { E with nx := u E }) en us hi h0 hg hs hd
theorem q_range {j : Nat} {n : Int} (m : Nat) (en : Nat → List Slot) (h : EvE K te env (.int n)) (hm : n.toNat = m) (hn : n < 2 ^ 62 ∧ -(2 ^ 62) ≤ n) (h0 : Sub env (en 0))
    (hs : ∀ i : Nat, i < m → ∀ (G0 : Hp) (E' : Ends), (∀ r, Rt K H0 H1 E.rt r → Rt K G0 H1 E'.rt r) → (∀ ev, Go K H0 H1 u E ev → Nx K G0 H1 E'.bk ev) →
      Nx K G0 H1 E'.nx (en (i + 1)) → Nx K G0 H1 E'.ct (en (i + 1)) → Go K G0 H1 t E' ((en i).set j (.val (.int (i : Int))))) (hd : Go K H0 H1 u E (en m)) : Go K H0 H1 (tSeq (tFor (iRng1 (tCons te tNil)) (gName j) t) u) E env := go_range (E := { E with nx := u E }) m en h hm hn h0 hs hd
theorem q_for1P {α : Type} {wi : TI} {j : Nat} {rep : α → D} {xs : List α} (Pn : Nat → Prop) (en : Nat → List Slot) (hi : EvI K wi env (xs.map rep)) (p0 : Pn 0) (h0 : Sub env (en 0))
    (hs : ∀ i x, xs[i]? = some x → Pn i → ∀ (G0 : Hp) (E' : Ends), (∀ r, Rt K H0 H1 E.rt r → Rt K G0 H1 E'.rt r) → (∀ ev, Go K H0 H1 u E ev → Nx K G0 H1 E'.bk ev) →
      (Pn (i + 1) → Nx K G0 H1 E'.nx (en (i + 1))) → (Pn (i + 1) → Nx K G0 H1 E'.ct (en (i + 1))) → Go K G0 H1 t E' ((en i).set j (.val (rep x)))) (hd : Pn xs.length → Go K H0 H1 u E (en xs.length)) : Go K H0 H1 (tSeq (tFor wi (gName j) t) u) E env := go_for1P (E := { E with nx := u E }) Pn en hi p0 h0 hs hd
/-- Sub, decided slot by slot -/
theorem sub_nil : Sub [] [] := Sub.refl []
theorem sub_cons {s : Slot} {a b : List Slot} (h : Sub a b) : Sub (s :: a) (s :: b) := ⟨by simp [h.1], fun i x e => by
  cases i with
  | zero => simp at e; right; simp [e]
  | succ i => simp at e; have := h.2 i x e; simpa using this⟩
theorem sub_no {s : Slot} {a b : List Slot} (h : Sub a b) : Sub (s :: a) (.no :: b) := ⟨by simp [h.1], fun i x e => by
  cases i with
  | zero => simp at e; left; exact e.symm
  | succ i => simp at e; have := h.2 i x e; simpa using this⟩
end
/-! ### a def -/
structure Cal (P : Program) (w : World) (K : PySem.W.Frag) (mg : Str → Option Value) (base : Heap) (x : Str) (k : Nat) (ps : List Str) (sp : Sp) : Prop where
  h : ∃ (f : Addr) (fd : FuncData), mg x = some (.ref f) ∧ PySem.W.keepIn K (.ref f) = true ∧ FnOk P w K mg base CX0 k f fd ps sp ∧ Binds K fd ps [] ∧ ∀ ws : List Value, ws.length = ps.length → bindArgs fd ⟨[], ps.zip ws⟩ = pure (ps.zip ws)
def startE (N : List Str) (ds : List D) : List Slot := ds.map .val ++ List.replicate (N.length - ds.length) .no
section
variable {P : Program} {w : World} {K : PySem.W.Frag} {mg : Str → Option Value} {base : Heap}
theorem Reps.getB {H : Hp} : ∀ {ds : List D} {vs : List V} {i : Nat} {d : D}, Reps K H ds vs → ds[i]? = some d → ∃ x, vs[i]? = some x ∧ Rep K H d x := Reps.get
theorem start_state {N : List Str} {H0 H1 : Hp} {ds : List D} {vs : List V} (s : Same H0 H1) (r : Reps K H0 ds vs) : State K H0 H1 H0 H1 (L2.start N vs) (startE N ds) := by
  have hl := r.len
  have noO : ∀ (i : Nat) (es : List D), (startE N ds)[i]? ≠ some (.own es) := fun i es h => by
    unfold startE at h
    have := List.mem_of_getElem? h
    simp at this
  refine ⟨Gr.refl s, ⟨by simp [L2.start, startE, hl], fun i d h => ?_, fun i es h => absurd h (noO i es), fun i j es fs p n h => absurd h (noO i es)⟩, fun i es p h => absurd h (noO i es)⟩
  unfold startE at h
  by_cases hi : i < ds.length
  · rw [List.getElem?_append_left (by simpa using hi)] at h
    simp [hi] at h
    obtain ⟨x, h1, h2⟩ := r.get (List.getElem?_eq_getElem hi)
    refine ⟨x, ?_, by rw [← h]; exact h2⟩
    unfold L2.start
    rw [List.getElem?_append_left (by simp [hl, hi])]
    simp [h1]
  · rw [List.getElem?_append_right (by simpa using hi)] at h
    have := List.mem_of_getElem? h
    simp at this
/-- THE RULE for a def -/
theorem ok_def {x qual : Str} {st : Stmt} {f : Addr} {fd : FuncData} {N ps : List Str} {k : Nat} {R : List D → D → Prop} (F : Fun K x qual st f fd) (S : FnScope N ps (defScope st)) (len : ∀ ds r, R ds r → ds.length = ps.length)
    (hbody : ∀ (cdv : Value) (A : Around) (outer : List Env) (s : Shared) (H : Hp) (E : XK), Room k (A.deeper (envOfC qual (defScope st) s.heap.objs.size f cdv)) →
      ∃ t, PSs (cxOf CX0 P w K mg base N qual (defScope st) f cdv A outer s H E).nox (defBody st) t ∧ ∀ ds r, R ds r → ∀ H0 H1 E, Rt K H0 H1 E.rt r → Go K H0 H1 t E (startE N ds)) : FnOk P w K mg base CX0 (k + 1) f fd ps (spR K R) := by
  refine F.ok S (fun vs H Q E h => ?_) (fun cdv A outer s H vs Q E hr h => ?_)
  · obtain ⟨B, ds, r, _, h2, h3, _⟩ := h
    rw [h2.len, len ds r h3]
  · obtain ⟨t, ht, hg⟩ := hbody cdv A outer s H E hr
    obtain ⟨B, ds, r, h1, h2, h3, h4⟩ := h
    exact ⟨t, ht, hg ds r h3 B H { nx := fun _ H' => Q .non H', rt := Q } (fun B' F' x g rx => h4 B' F' x g rx) B H _ (start_state h1 h2)⟩
theorem Cal.mk' {x qual : Str} {st : Stmt} {f : Addr} {fd : FuncData} {ps : List Str} {k : Nat} {sp : Sp} (F : Fun K x qual st f fd) (g : mg x = some (.ref f)) (ok : FnOk P w K mg base CX0 k f fd ps sp)
    (h : ∀ (kV doc pm : Value) (an : Option Addr) (cdv ct : Value) (us : List Value), us.length = ps.length → bindArgs (PySem.W.fnOf x qual (defArgs st) (defBody st) (defScope st) .none kV doc pm an cdv ct) ⟨us, []⟩ = pure (ps.zip us))
    (hk : ∀ (kV doc pm : Value) (an : Option Addr) (cdv ct : Value) (us : List Value), us.length = ps.length → bindArgs (PySem.W.fnOf x qual (defArgs st) (defBody st) (defScope st) .none kV doc pm an cdv ct) ⟨[], ps.zip us⟩ = pure (ps.zip us)) : Cal P w K mg base x k ps sp := by
  refine ⟨f, fd, g, F.kp, ok, F.binds h, ?_⟩
  obtain ⟨oc, od, kV, doc, pm, an, cdv, ct, osl, rfl, lk, hcd⟩ := F.ex
  exact hk kV doc pm an cdv ct
theorem Cal.mono {x : Str} {ps : List Str} {j k : Nat} {sp : Sp} (c : Cal P w K mg base x j ps sp) (h : j ≤ k) : Cal P w K mg base x k ps sp := by
  obtain ⟨f, fd, h1, h2, h3, h4, h5⟩ := c.h
  exact ⟨f, fd, h1, h2, h3.mono h, h4, h5⟩
end
section
variable {X : Cx}
theorem pe_cal {x : Str} {k : Nat} {ps : List Str} {sp : Sp} {p pos : Pos} {e : Expr} {es : List Expr} {t : TA} (c : Cal X.prog X.w X.K X.mg X.base x k ps sp) (hr : Room k X.A) (hg : Gl X x) (h : PA X (e :: es) t) (hdb : (x == ("__debug__" : Str)) = false := by decide) (he : starEach (e :: es) X.env = (false, eval e X.env) :: starEach es X.env := by rfl) (hpl : (backTo pos (starEach es X.env)).any (·.1) = false := by rfl) :
    PE X (.Call (.Name x p) (e :: es) [] pos) (tCall sp [] E0 t) := by
  obtain ⟨f, fd, h1, h2, h3, h4, _⟩ := c.h
  exact pe_call h3 hr hg h1 h2 h4 .nil pass0 h hdb he hpl
/-- all arguments by name, in the parameters' order -/
theorem pe_calK {x : Str} {k : Nat} {ps : List Str} {sp : Sp} {p pos : Pos} {kws : List Keyword} {t : TA} (c : Cal X.prog X.w X.K X.mg X.base x k ps sp) (hr : Room k X.A) (hg : Gl X x) (hkw : PK X kws t)
    (hall : (backToKw pos (keywordEach kws X.env)).all (·.1.isSome) = true := by rfl) (hks : (backToKw pos (keywordEach kws X.env)).filterMap (·.1) = ps := by rfl) (hdb : (x == ("__debug__" : Str)) = false := by decide)
    (hpl : ((backTo pos (starEach [] X.env)).any (·.1) || (backToKw pos (keywordEach kws X.env)).any (·.1.isNone)) = false := by rfl) : PE X (.Call (.Name x p) [] kws pos) (tCall sp [] E0 t) := by
  obtain ⟨f, fd, h1, h2, F, h4, kb⟩ := c.h
  refine ⟨fun pins s σ H Q I h => ?_⟩
  refine wpAny_Call_Name_kw (ld_glob I hg h1 ?_ hdb)
  refine PySem.W.callWith_KW0 (h₀ := X.base) I.ok.mod.kin h2 hall ?_ hpl
  refine thn (hkw.run pos pins s σ H _ I h) fun ws s2 ⟨zs, H2, I2, rz, q2⟩ => ⟨I2.kIn, ?_⟩
  rw [hks]
  have q2 : sp zs H2 Q E0 := by simpa using q2
  have hl : ws.length = ps.length := by rw [← rz.length]; exact F.len _ _ _ _ q2
  refine wpAny_call (codeAny_mono (F.run X.A X.stack s2 H2 ⟨[], ps.zip ws⟩ ws zs Q E0 hr I2.env0 (.of_eq (kb ws hl)) rz q2) fun r s' hq => ?_)
  cases r with
  | error e => exact (hq : False).elim
  | ok fl =>
    cases fl with
    | ret u => exact I2.after hq
    | next => exact False.elim hq
    | brk => exact False.elim hq
    | cont => exact False.elim hq
end
end Z

namespace Z
open PySem PySem.Spec PyProof.Rows L2
/-! ### texts by their signs -/
abbrev S (l : List Nat) : Str := SX.S l
def stx (l : List Nat) : D := .str (S l)
theorem S_len (l : List Nat) : (S l).length = l.length := SX.S_len l
theorem sz100 {n : Nat} (h : n ≤ 100000) : n ≤ sizeLine := Nat.le_trans h (by decide)
theorem S_dec {a b : List Nat} : decide (S a = S b) = decide (a = b) := by
  by_cases h : a = b
  · simp [h]
  · have : ¬ S a = S b := fun e => h (SX.S_inj e)
    simp [h, this]
theorem S_cut (l : List Nat) (lo hi : Option Int) : cutS (S l) lo hi = S (cutD l lo hi) := by
  unfold cutS cutD
  rw [S_len]
theorem cutD_length {α : Type} (l : List α) (lo hi : Option Int) : (cutD l lo hi).length ≤ l.length := by
  unfold cutD
  rw [List.length_take, List.length_drop]; omega
theorem cut_from {α : Type} (l : List α) (k : Nat) : cutD l (some (k : Int)) none = l.drop k := by
  unfold cutD
  rw [HT.sIx_nat, HT.sIx_none]
  by_cases h : k ≤ l.length
  · rw [Nat.min_eq_left h, List.take_of_length_le (by rw [List.length_drop]; omega)]
  · rw [Nat.min_eq_right (by omega), List.drop_of_length_le (Nat.le_refl _), List.drop_of_length_le (by omega)]; simp
theorem cut_to {α : Type} (l : List α) (k : Nat) : cutD l none (some (k : Int)) = l.take k := by
  unfold cutD
  rw [HT.sIx_nat, HT.sIx_none, List.drop_zero, Nat.sub_zero]
  by_cases h : k ≤ l.length
  · rw [Nat.min_eq_left h]
  · rw [Nat.min_eq_right (by omega), List.take_of_length_le (Nat.le_refl _), List.take_of_length_le (by omega)]
theorem cut_mid {α : Type} (l : List α) (j k : Nat) : cutD l (some (j : Int)) (some (k : Int)) = (l.take k).drop j := by
  unfold cutD
  rw [HT.sIx_nat, HT.sIx_nat]
  apply List.ext_getElem?
  intro i
  simp only [List.getElem?_take, List.getElem?_drop]
  by_cases h : j ≤ l.length
  · rw [Nat.min_eq_left h]
    by_cases h2 : k ≤ l.length
    · rw [Nat.min_eq_left h2]
      by_cases h3 : i < k - j
      · rw [if_pos h3, if_pos (by omega)]
      · rw [if_neg h3, if_neg (by omega)]
    · rw [Nat.min_eq_right (by omega)]
      by_cases h3 : i < l.length - j
      · rw [if_pos h3, if_pos (by omega)]
      · rw [if_neg h3]
        split
        · rw [List.getElem?_eq_none (by omega)]
        · rfl
  · have e1 : min j l.length = l.length := Nat.min_eq_right (by omega)
    rw [e1, List.getElem?_eq_none (l := l) (i := l.length + i) (by omega)]
    have e : l[j + i]? = none := List.getElem?_eq_none (by omega)
    rw [e]; simp
section
variable {K : PySem.W.Frag} {env : List Slot} {ta tb te tc : TE} {d d1 d2 : D} {a b l : List Nat}
theorem ee_lenX (h : EvE K te env (.str (S l))) (hz : l.length ≤ 100000) : EvE K (tCB (rLen1 K) (tCons te tNil)) env (.int (l.length : Nat)) := by
  have := ee_lenS h (by rw [S_len]; exact sz100 hz)
  rw [S_len] at this
  exact this
theorem ee_catX (h1 : EvE K ta env (.str (S a))) (h2 : EvE K tb env (.str (S b))) (hz : a.length + b.length ≤ 100000) : EvE K (tOp (fun x y H Q => ∃ i j, x = .str i ∧ y = .str j ∧ i.length + j.length ≤ sizeLine ∧ Q (.str (i ++ j)) H) ta tb) env (.str (S (a ++ b))) := by
  have := ee_catS h1 h2 (by rw [S_len, S_len]; exact sz100 hz)
  rw [SX.S_cat] at this
  exact this
theorem ee_ixX {k : Int} {c : Nat} (h1 : EvE K ta env (.str (S l))) (h2 : EvE K tb env (.int k)) (hz : l.length ≤ 100000) (ha : atI l k = some c) : EvE K (tOp rIxS ta tb) env (.str (S [c])) :=
  ee_ixS h1 h2 (by rw [S_len]; exact sz100 hz) ha
theorem ee_slX {tl th : TO} {lo hi : Option Int} (h : EvE K te env (.str (S l))) (h1 : EvO K tl env lo) (h2 : EvO K th env hi) (hz : l.length ≤ 100000) : EvE K (tSl rSlS te tl th) env (.str (S (cutD l lo hi))) := by
  have := ee_slS h h1 h2 (by rw [S_len]; exact sz100 hz)
  rw [S_cut] at this
  exact this
theorem ee_splitX {c : Nat} (h1 : EvE K ta env (.str (S l))) (h2 : EvE K tb env (.str (S [c]))) (hc : c < 256) (hz : l.length ≤ 100000) :
    EvE K (tM1 (fun x xs H Q => ∃ a b, x = .str a ∧ xs = [.str b] ∧ (b.length == 0) = false ∧ a.length + 2 ≤ sizeLine ∧ rNewStrs (Txt.split a b) H Q) ta tb) env (.lst ((TL.spl [c] 0 [] l).map stx)) := by
  have := ee_split h1 h2 (by rw [S_len]; rfl) (by rw [S_len]; exact Nat.le_trans (Nat.add_le_add_right hz 2) (by decide))
  rw [SX.split_S (by simp) (by simp [hc]), List.map_map] at this
  exact this
theorem S_sum : ∀ ys : List (List Nat), ((ys.map S).map (·.length)).sum = (ys.map (·.length)).sum
  | [] => rfl
  | y :: ys => by
    show (S y).length + ((ys.map S).map (·.length)).sum = y.length + (ys.map (·.length)).sum
    rw [S_len, S_sum ys]
theorem ee_joinX {ys : List (List Nat)} (h1 : EvE K ta env (.str (S a))) (h2 : EvE K tb env (.lst (ys.map stx))) (hz : (ys.map (·.length)).sum + ys.length * a.length ≤ 100000) :
    EvE K (tM1 (fun x xs H Q => ∃ a p, ∃ ys : List Str, x = .str a ∧ xs = [.ref p] ∧ (SqL K H p (ys.map V.str) ∨ SqT K H p (ys.map V.str)) ∧ (ys.map (·.length)).sum + ys.length * a.length ≤ 16777216 ∧ Q (.str (Txt.join a ys)) H) ta tb) env (.str (S (TL.joinL a ys))) := by
  have e : ys.map stx = (ys.map S).map .str := by rw [List.map_map]; rfl
  rw [e] at h2
  have := ee_join h1 h2 (by rw [S_sum, List.length_map, S_len]; omega)
  rw [SX.join_S] at this
  exact this
theorem ei_strX (h : EvE K te env (.str (S l))) : EvI K (iStr te) env (l.map fun c => stx [c]) := by
  have := ei_str h
  unfold chs at this
  exact this
theorem ee_inX {c : Nat} (h1 : EvE K ta env (.str (S [c]))) (h2 : EvE K tb env (.str (S l))) : EvE K (tOp (fun x y H Q => ∃ (c : Nat) (z : Str), x = .str ⟨#[c]⟩ ∧ y = .str z ∧ Q (.bl (decide (c ∈ z.cps.toList))) H) ta tb) env (.bl (decide (c ∈ l))) := ee_inS h1 h2
theorem ee_ninX {c : Nat} (h1 : EvE K ta env (.str (S [c]))) (h2 : EvE K tb env (.str (S l))) : EvE K (tOp (fun x y H Q => ∃ (c : Nat) (z : Str), x = .str ⟨#[c]⟩ ∧ y = .str z ∧ Q (.bl (!decide (c ∈ z.cps.toList))) H) ta tb) env (.bl (!decide (c ∈ l))) := ee_ninS h1 h2
theorem ee_eqX (h1 : EvE K ta env (.str (S a))) (h2 : EvE K tb env (.str (S b))) : EvE K (tOp rEq ta tb) env (.bl (decide (a = b))) := by
  have := ee_eqS h1 h2
  rw [S_dec] at this
  exact this
theorem ee_neX (h1 : EvE K ta env (.str (S a))) (h2 : EvE K tb env (.str (S b))) : EvE K (tOp rNe ta tb) env (.bl (!decide (a = b))) := by
  have := ee_neS h1 h2
  rw [S_dec] at this
  exact this
theorem starts1 (l : List Nat) (c : Nat) : Txt.startswith (S l) (S [c]) = decide (l.head? = some c) := by
  unfold Txt.startswith
  rw [S_len, S_len, PySem.StrLaws.subAt_eq]
  cases l with
  | nil => simp
  | cons x r =>
    show (decide (0 + 1 ≤ r.length + 1) && ([x] == [c])) = decide (some x = some c)
    have e : decide (0 + 1 ≤ r.length + 1) = true := decide_eq_true (by omega)
    rw [e, Bool.true_and]
    by_cases h : x = c
    · subst h; simp
    · have h2 : ¬ some x = some c := fun z => h (Option.some.inj z)
      rw [decide_eq_false h2]
      simp [h]
theorem ee_startsX {c : Nat} (h1 : EvE K ta env (.str (S l))) (h2 : EvE K tb env (.str (S [c]))) : EvE K (tM1 (fun x xs H Q => ∃ a b, x = .str a ∧ xs = [.str b] ∧ Q (.bl (Txt.startswith a b)) H) ta tb) env (.bl (decide (l.head? = some c))) := by
  have := ee_startswith h1 h2
  rw [starts1] at this
  exact this
/-- a written text, by its signs -/
theorem ee_strX {s : Str} (h : s.cps.toList = l) : EvE K (tC (.str s)) env (.str (S l)) := by
  have e : s = S l := by subst h; exact (SX.S_tl s).symm
  rw [e]; exact ee_str
/-! isinstance of scalars -/
theorem ee_isi {v : V} {n : String} {t : String} {b : Bool} (h : EvE K te env d) (hv : sV d = some v) (ht : ∀ H, TyX K H v (.type t)) (hb : PySem.W.kitOne K (.type t) (.type n) = some b) :
    EvE K (tCB (rIsi K) (tCons te (tCons (tC (.ty n)) tNil))) env (.bl b) := ee_cb (ea_cons h (ea_cons (d := .v (.ty n)) ee_v ea_nil)) fun B F xs hs r Q q => by
  obtain ⟨x, y, rfl, r1, r2⟩ := reps2 r
  have := r1.sc hv; subst this
  unfold Rep at r2; subst r2
  exact ⟨x, _, _, _, b, rfl, .ty n, ht F, hb, q B F _ (Gr.refl hs) (rp_bl B)⟩
end
/-! ### the rules that name the written part, told it -/
section
variable (K : PySem.W.Frag) {X : Cx}
theorem k_call_len (h : X.K = K := by rfl) : CallR X (.builtin "len") (rLen1 K) := by subst h; exact call_len
theorem k_list_of (h : X.K = K := by rfl) : CallR X (.type "list") (rListOf K) := by subst h; exact call_list_of
theorem k_tuple_of (h : X.K = K := by rfl) : CallR X (.type "tuple") (rTupOf K) := by subst h; exact call_tuple_of
theorem k_all (h : X.K = K := by rfl) (hc : X.calm = true := by rfl) : CallR X (.builtin "all") (rAll K) := by subst h; exact cr_all hc
theorem k_any (h : X.K = K := by rfl) (hc : X.calm = true := by rfl) : CallR X (.builtin "any") (rAny K) := by subst h; exact cr_any hc
theorem k_sum (h : X.K = K := by rfl) (hc : X.calm = true := by rfl) : CallR X (.builtin "sum") (rSum K) := by subst h; exact cr_sum hc
theorem k_maxL (h : X.K = K := by rfl) (hc : X.calm = true := by rfl) : CallR X (.builtin "max") (rMax K) := by subst h; exact cr_max hc
theorem k_minL (h : X.K = K := by rfl) (hc : X.calm = true := by rfl) : CallR X (.builtin "min") (rMin K) := by subst h; exact cr_min hc
theorem k_isi (h : X.K = K := by rfl) : CallR X (.builtin "isinstance") (rIsi K) := by subst h; exact call_isi
theorem k_ix_list (h : X.K = K := by rfl) : IxR X (rIxL K) := by subst h; exact ix_list
theorem k_ix_tup (h : X.K = K := by rfl) : IxR X (rIxT K) := by subst h; exact ix_tup
theorem k_sl_list (h : X.K = K := by rfl) : SlR X (rSlL K) := by subst h; exact sl_list
theorem k_in_seq (h : X.K = K := by rfl) : OpR X (compareOp .In) (rIn K false) := by subst h; exact op_in_seq
theorem k_notIn_seq (h : X.K = K := by rfl) : OpR X (compareOp .NotIn) (rIn K true) := by subst h; exact op_notIn_seq
theorem k_eqD (hu : X.A.units + 64 < cLine) (h : X.K = K := by rfl) : OpR X (compareOp .Eq) (rEqD K) := by subst h; exact op_eqD hu
theorem k_neD (hu : X.A.units + 64 < cLine) (h : X.K = K := by rfl) : OpR X (compareOp .NotEq) (rNeD K) := by subst h; exact op_neD hu
theorem k_pi_list {tg e : Expr} {te : TE} (he : PE X e te) (h : X.K = K := by rfl) : PI X tg e (iList K te) := by subst h; exact pi_list he
theorem k_pi_tup {tg e : Expr} {te : TE} (he : PE X e te) (h : X.K = K := by rfl) : PI X tg e (iTup K te) := by subst h; exact pi_tup he
theorem k_pg_tup {es : List Expr} {k : Nat} {t : TGs} {n : Nat} {pos : Pos} (hc : X.calm = true) (h : PGs X es t) (hn : (assignEach es X.env).length = n := by rfl) (hst : (assignEach es X.env).findIdx? (·.1) = none := by rfl) (hK : X.K = K := by rfl) : PG X (.Tuple es k pos) (gTup K n t) := by
  subst hK; exact pg_tup hc h hn hst
theorem k_pg_unl {es : List Expr} {k : Nat} {t : TGs} {n : Nat} {pos : Pos} (hc : X.calm = true) (h : PGs X es t) (hn : (assignEach es X.env).length = n := by rfl) (hst : (assignEach es X.env).findIdx? (·.1) = none := by rfl) (hK : X.K = K := by rfl) : PG X (.Tuple es k pos) (gUnl K n t) := by
  subst hK; exact pg_unl hc h hn hst
theorem k_pi_enum {e : Expr} {ta : TA} {p pos tpos : Pos} {elts : List Expr} {kk : Nat} (hg : Gl X "enumerate") (hm : X.mg "enumerate" = none) (ha : PA X [e] ta) (hs : starEach [e] X.env = [(false, eval e X.env)] := by rfl) (hK : X.K = K := by rfl) :
    PI X (.Tuple elts kk tpos) (.Call (.Name "enumerate" p) [e] [] pos) (iEnum K ta) := by subst hK; exact pi_enum hg hm ha hs
theorem k_pi_zip {e e2 : Expr} {ta : TA} {p pos tpos : Pos} {elts : List Expr} {kk : Nat} (hg : Gl X "zip") (hm : X.mg "zip" = none) (ha : PA X [e, e2] ta)
    (hs : starEach [e, e2] X.env = (false, eval e X.env) :: starEach [e2] X.env := by rfl) (hpl : (backTo pos (starEach [e2] X.env)).any (·.1) = false := by rfl) (hK : X.K = K := by rfl) :
    PI X (.Tuple elts kk tpos) (.Call (.Name "zip" p) [e, e2] [] pos) (iZip K ta) := by subst hK; exact pi_zip hg hm ha hs hpl
theorem k_mt_join (h : X.K = K := by rfl) : MtR X "str.join" (fun x xs H Q => ∃ a p, ∃ ys : List Str, x = .str a ∧ xs = [.ref p] ∧ (SqL K H p (ys.map V.str) ∨ SqT K H p (ys.map V.str)) ∧ (ys.map (·.length)).sum + ys.length * a.length ≤ 16777216 ∧ Q (.str (Txt.join a ys)) H) := by
  subst h; exact mt_join
end
theorem atI_pos {α : Type} {l : List α} {k : Int} {x : α} (h0 : 0 ≤ k) (h : l[k.toNat]? = some x) : atI l k = some x := by
  have e : k = ((k.toNat : Nat) : Int) := by omega
  rw [e]; exact atI_nat h
theorem sum_ones {α : Type} : ∀ l : List α, (l.map fun _ => 1).sum = l.length
  | [] => rfl
  | x :: l => by
    show 1 + (l.map fun _ => 1).sum = l.length + 1
    rw [sum_ones l]; omega
theorem rng_nat (n : Nat) : rng 0 ((n : Nat) : Int).toNat = (List.range n).map (fun (i : Nat) => D.int (i : Int)) := by simp [rng]
section
variable {K : PySem.W.Frag} {env : List Slot} {te : TE}
/-- range(n), n a length -/
theorem ei_rngN {n : Nat} (h : EvE K te env (.int (n : Int))) (hn : n ≤ 100000) : EvI K (iRng1 (tCons te tNil)) env ((List.range n).map fun (i : Nat) => D.int (i : Int)) := by
  have := ei_rng1 h ⟨by omega, by omega⟩
  rw [rng_nat] at this
  exact this
end
theorem get_getD {α : Type} {l : List α} {i : Nat} {d : α} (h : i < l.length) : l[i]? = some (l.getD i d) := by simp [List.getD_eq_getElem?_getD, h]
section
variable {K : PySem.W.Frag} {H0 H1 : Hp} {env : List Slot} {te : TE} {d old : D} {E : Ends} {u : TS}
/-- if c: x = e, told by what x holds behind it -/
theorem q_ifSet {tt : TT} {b : Bool} {i : Nat} (h : EvT K tt env b) (ho : env[i]? = some (.val old)) (h1 : b = true → EvE K te env d) (h2 : b = false → old = d) (k : Go K H0 H1 u E (env.set i (.val d))) : Go K H0 H1 (tSeq (tIfS tt (tAsg te (gName i)) tNext) u) E env := by
  cases b with
  | true => exact q_ifAsg h ho h1 (by simpa using k)
  | false =>
    have e := h2 rfl
    subst e
    exact q_ifAsg (d := old) h ho (fun z => by cases z) (by simpa using k)
end
theorem law_start {K : PySem.W.Frag} {H : Hp} {a : Addr} {ns : List Int} {R : List D → D → Prop} (hS : SqL K H a (ns.map V.int)) (h : R [.lst (ns.map .int)] (.bl true)) {E : XK} : spR K R [.ref a] H (fun v _ => v = .bl true) E :=
  ⟨H, [.lst (ns.map .int)], .bl true, Same.refl _, Reps.cons (by unfold Rep; exact ⟨a, _, rfl, hS, reps_ints ns⟩) Reps.nil, h, fun B' F' x g rx => by unfold Rep at rx; exact rx⟩
end Z

namespace K00
open PySem PySem.Spec PyProof.Rows L2 Z
local macro_rules | `(tactic| walk_at "sd") => `(tactic| first | decide | omega | assumption | rfl | (simp; done) | (simp only [List.length_map, List.length_cons, List.length_nil]; omega))
local macro_rules | `(tactic| walk_at "ev") => `(tactic| first
  | exact ee_int | exact ee_strX (by decide +kernel) | exact ee_str | exact ee_bl | exact ee_non
  | exact ee_var rfl
  | (refine' ee_add ?e1 ?e2; (case e1 => walk_at "ev"); (case e2 => walk_at "ev"))
  | (refine' ee_sub ?e1 ?e2; (case e1 => walk_at "ev"); (case e2 => walk_at "ev"))
  | (refine' ee_mul ?e1 ?e2 ?e3; (case e1 => walk_at "ev"); (case e2 => walk_at "ev"); (case e3 => walk_at "cm"))
  | (refine' ee_div ?e1 ?e2 ?e3; (case e1 => walk_at "ev"); (case e2 => walk_at "ev"); (case e3 => exact ⟨by decide, by decide⟩))
  | (refine' ee_mod ?e1 ?e2 ?e3; (case e1 => walk_at "ev"); (case e2 => walk_at "ev"); (case e3 => walk_at "sd"))
  | (refine' ee_powR ?e1 ?e2 ?e3 ?e4; (case e1 => walk_at "ev"); (case e2 => walk_at "ev"); (case e3 => exact ⟨by decide, by decide, by decide⟩); (case e4 => rfl))
  | (refine' ee_intI ?e1; (case e1 => walk_at "ev"))
  | (refine' ee_intB ?e1; (case e1 => walk_at "ev"))
  | (refine' ee_lenL ?e1; (case e1 => walk_at "ev"))
  | (refine' ee_lenX ?e1 ?e2; (case e1 => walk_at "ev"); (case e2 => walk_at "sz"))
  | (refine' ee_lenS ?e1 ?e2; (case e1 => walk_at "ev"); (case e2 => walk_at "sz"))
  | (refine' ee_lenT ?e1; (case e1 => walk_at "ev"))
  | (refine' ee_lt ?e1 ?e2; (case e1 => walk_at "ev"); (case e2 => walk_at "ev")) | (refine' ee_le ?e1 ?e2; (case e1 => walk_at "ev"); (case e2 => walk_at "ev")) | (refine' ee_gt ?e1 ?e2; (case e1 => walk_at "ev"); (case e2 => walk_at "ev")) | (refine' ee_ge ?e1 ?e2; (case e1 => walk_at "ev"); (case e2 => walk_at "ev"))
  | (refine' ee_eqI ?e1 ?e2; (case e1 => walk_at "ev"); (case e2 => walk_at "ev")) | (refine' ee_eqS ?e1 ?e2; (case e1 => walk_at "ev"); (case e2 => walk_at "ev")) | (refine' ee_eqB ?e1 ?e2; (case e1 => walk_at "ev"); (case e2 => walk_at "ev"))
  | (refine' ee_neI ?e1 ?e2; (case e1 => walk_at "ev"); (case e2 => walk_at "ev")) | (refine' ee_neS ?e1 ?e2; (case e1 => walk_at "ev"); (case e2 => walk_at "ev"))
  | (refine' ee_neg ?e1; (case e1 => walk_at "ev"))
  | (refine' ee_max2 ?e1 ?e2; (case e1 => walk_at "ev"); (case e2 => walk_at "ev")) | (refine' ee_min2 ?e1 ?e2; (case e1 => walk_at "ev"); (case e2 => walk_at "ev"))
  | (refine' ee_eqX ?e1 ?e2; (case e1 => walk_at "ev"); (case e2 => walk_at "ev")) | (refine' ee_neX ?e1 ?e2; (case e1 => walk_at "ev"); (case e2 => walk_at "ev"))
  | (refine' ee_inX ?e1 ?e2; (case e1 => walk_at "ev"); (case e2 => walk_at "ev")) | (refine' ee_ninX ?e1 ?e2; (case e1 => walk_at "ev"); (case e2 => walk_at "ev"))
  | (refine' ee_startsX ?e1 ?e2; (case e1 => walk_at "ev"); (case e2 => walk_at "ev"))
  | (refine' ee_catX ?e1 ?e2 ?e3; (case e1 => walk_at "ev"); (case e2 => walk_at "ev"); (case e3 => walk_at "sz"))
  | (refine' ee_slX ?e1 ?e2 ?e3 ?e4; (case e1 => walk_at "ev"); (case e2 => walk_at "evo"); (case e3 => walk_at "evo"); (case e4 => walk_at "sz"))
  | (refine' ee_inS ?e1 ?e2; (case e1 => walk_at "ev"); (case e2 => walk_at "ev")) | (refine' ee_ninS ?e1 ?e2; (case e1 => walk_at "ev"); (case e2 => walk_at "ev"))
  | (refine' ee_startswith ?e1 ?e2; (case e1 => walk_at "ev"); (case e2 => walk_at "ev"))
  | (refine' ee_notV ?e1; (case e1 => walk_at "ev"))
  | (refine' ee_catS ?e1 ?e2 ?e3; (case e1 => walk_at "ev"); (case e2 => walk_at "ev"); (case e3 => walk_at "sz"))
  | (refine' (en_lst ?e1 ?e2).ee; (case e1 => walk_at "eva"); (case e2 => walk_at "sd"))
  | (refine' ee_tup ?e1 ?e2; (case e1 => walk_at "eva"); (case e2 => walk_at "sd"))
  | (refine' (en_slL ?e1 ?e2 ?e3).ee; (case e1 => walk_at "ev"); (case e2 => walk_at "evo"); (case e3 => walk_at "evo"))
  | (refine' ee_slS ?e1 ?e2 ?e3 ?e4; (case e1 => walk_at "ev"); (case e2 => walk_at "evo"); (case e3 => walk_at "evo"); (case e4 => walk_at "sz"))
  | (refine' (en_listL ?e1).ee; (case e1 => walk_at "ev"))
  | (refine' (en_listT ?e1).ee; (case e1 => walk_at "ev"))
  | (refine' ee_tupL ?e1; (case e1 => walk_at "ev"))
  | (refine' ee_tupT ?e1; (case e1 => walk_at "ev")))
local macro_rules | `(tactic| walk_at "eva") => `(tactic| first | exact ea_nil | (refine' ea_cons ?e1 ?e2; (case e1 => walk_at "ev"); (case e2 => walk_at "eva")))
local macro_rules | `(tactic| walk_at "evo") => `(tactic| first | exact eo_none | (refine' eo_some ?e1; (case e1 => walk_at "ev")))
local macro_rules | `(tactic| walk_at "evt") => `(tactic| first
  | (refine' et_test ?e1; (case e1 => walk_at "ev")) | (refine' et_B ?e1; (case e1 => walk_at "ev")) | (refine' et_not ?e1; (case e1 => walk_at "evt"))
  | (refine' et_and ?e1 ?e2; (case e1 => walk_at "evt"); (case e2 => (intro _; walk_at "evt")))
  | (refine' et_or ?e1 ?e2; (case e1 => walk_at "evt"); (case e2 => (intro _; walk_at "evt"))))
local macro_rules | `(tactic| walk_at "sub") => `(tactic| first | exact Sub.refl _ | (refine sub_cons ?_; walk_at "sub") | (refine sub_no ?_; walk_at "sub"))
local macro_rules | `(tactic| walk_at "cm") => `(tactic| first | exact Or.inr ⟨by omega, by omega⟩ | exact Or.inl ⟨by omega, by omega⟩)
local macro_rules | `(tactic| walk_at "evi") => `(tactic| (refine' EvE.is ?h ?e; (case h => walk_at "ev"); (case e => first | rfl | (congr 1; done) | skip)))
local macro_rules | `(tactic| walk_at "sz") => `(tactic| first | assumption | omega | (simp; omega) | (simp only [List.length_append, List.length_map, List.length_cons, List.length_nil]; omega))

def top (i : Nat) : Stmt := PySem.Challenge.pw_playhall_k00_names_and_numbers.main.body.getD i (.Pass ⟨0, 0, 0, 0⟩)
abbrev s_is_name : Stmt := top 4
abbrev N_is_name : List Str := ["text"]
theorem sc_is_name : FnScope N_is_name ["text"] (defScope s_is_name) := ⟨rfl, rfl, rfl, by decide +kernel, rfl, by decide +kernel, by decide +kernel⟩
abbrev s_is_label : Stmt := top 5
abbrev N_is_label : List Str := ["text", "parts", "part"]
theorem sc_is_label : FnScope N_is_label ["text"] (defScope s_is_label) := ⟨rfl, rfl, rfl, by decide +kernel, rfl, by decide +kernel, by decide +kernel⟩
abbrev s_is_number : Stmt := top 6
abbrev N_is_number : List Str := ["text"]
theorem sc_is_number : FnScope N_is_number ["text"] (defScope s_is_number) := ⟨rfl, rfl, rfl, by decide +kernel, rfl, by decide +kernel, by decide +kernel⟩
abbrev s__consists_of : Stmt := top 7
abbrev N__consists_of : List Str := ["text", "letters", "letter"]
theorem sc__consists_of : FnScope N__consists_of ["text", "letters"] (defScope s__consists_of) := ⟨rfl, rfl, rfl, by decide +kernel, rfl, by decide +kernel, by decide +kernel⟩
abbrev s__law_cell : Stmt := top 9
abbrev N__law_cell : List Str := ["script", "k"]
theorem sc__law_cell : FnScope N__law_cell ["script", "k"] (defScope s__law_cell) := ⟨rfl, rfl, rfl, by decide +kernel, rfl, by decide +kernel, by decide +kernel⟩
abbrev s__law_row : Stmt := top 10
abbrev N__law_row : List Str := ["cell", "many", "row", "seed", "rest", "k", "mixed"]
theorem sc__law_row : FnScope N__law_row ["cell", "many"] (defScope s__law_row) := ⟨rfl, rfl, rfl, by decide +kernel, rfl, by decide +kernel, by decide +kernel⟩
abbrev s__law_chars : Stmt := top 11
abbrev N__law_chars : List Str := ["menu", "numbers", "size", "k"]
theorem sc__law_chars : FnScope N__law_chars ["menu", "numbers", "size"] (defScope s__law_chars) := ⟨rfl, rfl, rfl, by decide +kernel, rfl, by decide +kernel, by decide +kernel⟩
abbrev s__law_text : Stmt := top 12
abbrev N__law_text : List Str := ["row", "signs", "letters", "sizes", "kind", "own_text", "place"]
theorem sc__law_text : FnScope N__law_text ["row"] (defScope s__law_text) := ⟨rfl, rfl, rfl, by decide +kernel, rfl, by decide +kernel, by decide +kernel⟩
abbrev s__law_is_name : Stmt := top 13
abbrev N__law_is_name : List Str := ["own_text", "char"]
theorem sc__law_is_name : FnScope N__law_is_name ["own_text"] (defScope s__law_is_name) := ⟨rfl, rfl, rfl, by decide +kernel, rfl, by decide +kernel, by decide +kernel⟩
abbrev s__law_is_label : Stmt := top 14
abbrev N__law_is_label : List Str := ["own_text", "dots", "k"]
theorem sc__law_is_label : FnScope N__law_is_label ["own_text"] (defScope s__law_is_label) := ⟨rfl, rfl, rfl, by decide +kernel, rfl, by decide +kernel, by decide +kernel⟩
abbrev s__law_is_number : Stmt := top 15
abbrev N__law_is_number : List Str := ["own_text", "char"]
theorem sc__law_is_number : FnScope N__law_is_number ["own_text"] (defScope s__law_is_number) := ⟨rfl, rfl, rfl, by decide +kernel, rfl, by decide +kernel, by decide +kernel⟩
abbrev s__law_told : Stmt := top 16
abbrev N__law_told : List Str := ["actual", "expected"]
theorem sc__law_told : FnScope N__law_told ["actual", "expected"] (defScope s__law_told) := ⟨rfl, rfl, rfl, by decide +kernel, rfl, by decide +kernel, by decide +kernel⟩
abbrev s_law : Stmt := top 17
abbrev N_law : List Str := ["script", "k", "row", "own_text", "told", "again", "expected", "place"]
theorem sc_law : FnScope N_law ["script"] (defScope s_law) := ⟨rfl, rfl, rfl, by decide +kernel, rfl, by decide +kernel, by decide +kernel⟩
/-- what the top leaves of the built-ins' names -/
structure Txt (mg : Str → Option Value) : Prop where
  n_len : mg "len" = none
  n_int : mg "int" = none
  n_range : mg "range" = none
  n_min : mg "min" = none
  n_max : mg "max" = none
  n_all : mg "all" = none
  n_isinstance : mg "isinstance" = none
  n_bool : mg "bool" = none
theorem atI_map {α β : Type} {f : α → β} {xs : List α} {k : Nat} {x : α} (h : xs[k]? = some x) : atI (xs.map f) (k : Int) = some (f x) := atI_nat (by simp [h])
/-! _law_cell -/
def R_cell : List D → D → Prop := fun ds r => ∃ (ns : List Int) (k : Nat), ds = [.lst (ns.map .int), .int (k : Int)] ∧ r = .int (ns.getD k 0)
section
variable {P : Program} {w : World} {K : PySem.W.Frag} {mg : Str → Option Value} {base : Heap} {f : Addr} {fd : FuncData}
theorem ok__law_cell (F : Fun K "_law_cell" "_law_cell" s__law_cell f fd) (T : Txt mg) : FnOk P w K mg base CX0 1 f fd ["script", "k"] (spR K R_cell) := by
  refine ok_def F sc__law_cell (fun ds r h => by obtain ⟨ns, k, rfl, _⟩ := h; rfl) (fun cdv A outer s H E hr => ⟨_, (pss_one (ps_ret (pe_ifExp (pt_cmpR op_lt (pv 1) (pe_callB (k_call_len K) (by rfl) T.n_len (by decide +kernel) (pa_cons (pv 0) pa_nil)) (nomark _)) (pe_callTy call_int1 (by rfl) T.n_int (by decide +kernel) (pa_cons (pe_ix (k_ix_list K) (pv 0) (pv 1) (fun _ _ => rfl)) pa_nil)) pe_int))), fun ds r h H0 H1 E' hrt => ?_⟩)
  obtain ⟨ns, k, rfl, rfl⟩ := h
  refine go_ret (ee_ifE (b := decide ((k : Int) < ((ns.map D.int).length : Int))) ?_ ?_ ?_) hrt
  · walk_at "evt"
  · intro h
    have h : k < ns.length := by simpa using h
    have e := List.getElem?_eq_getElem h
    refine ee_intI (ee_ixL (ee_var rfl) (ee_var rfl) (atI_map ?_))
    simp [List.getD_eq_getElem?_getD, e]
  · intro h
    have h : ns.length ≤ k := by simpa using h
    refine EvE.is ee_int ?_
    simp [List.getD_eq_getElem?_getD, h]
/-! _law_row -/
def rowSt (c : Int) : Nat → List Int × Int × Int
  | 0 => ([], c % 2147483629, c - 10 ^ 18)
  | k + 1 =>
    let p := rowSt c k
    let seed := (p.2.1 * 48271 + 977 * (k : Int) + 12345) % 2147483647
    let mixed := (seed * 69621 + 31 * (k : Int) + 7) % 2147483629
    (p.1 ++ [if decide ((10 : Int) ^ 18 ≤ c) = true then p.2.2 % 1000 else (mixed / 4099) % 1000], seed, p.2.2 / 1000)
def lawRow (c : Int) (m : Nat) : List Int := (rowSt c m).1
theorem row_len (c : Int) : ∀ m, (lawRow c m).length = m
  | 0 => rfl
  | m + 1 => by
    show ((rowSt c m).1 ++ [_]).length = m + 1
    rw [List.length_append]
    have := row_len c m
    unfold lawRow at this
    rw [this]; rfl
theorem row_mem (c : Int) : ∀ m, ∀ x ∈ lawRow c m, 0 ≤ x ∧ x < 1000
  | 0, x, h => by cases h
  | m + 1, x, h => by
    have h : x ∈ (rowSt c m).1 ++ [_] := h
    rcases List.mem_append.mp h with h | h
    · exact row_mem c m x h
    · rw [List.mem_singleton] at h
      subst h
      split <;> omega
theorem seed_lt (c : Int) : ∀ k, 0 ≤ (rowSt c k).2.1 ∧ (rowSt c k).2.1 < 2147483647
  | 0 => by show 0 ≤ c % 2147483629 ∧ c % 2147483629 < 2147483647; omega
  | k + 1 => by
    show 0 ≤ (_ % 2147483647 : Int) ∧ (_ % 2147483647 : Int) < 2147483647
    omega
def R_row : List D → D → Prop := fun ds r => ∃ (c : Int) (m : Nat), ds = [.int c, .int (m : Int)] ∧ m ≤ 1000 ∧ r = .lst ((lawRow c m).map .int)
def envRow (c : Int) (m k : Nat) : List Slot := [.val (.int c), .val (.int m), .own ((rowSt c k).1.map .int), .val (.int (rowSt c k).2.1), .val (.int (rowSt c k).2.2), .no, .no]
theorem ok__law_row (F : Fun K "_law_row" "_law_row" s__law_row f fd) (T : Txt mg) : FnOk P w K mg base CX0 1 f fd ["cell", "many"] (spR K R_row) := by
  refine ok_def F sc__law_row (fun ds r h => by obtain ⟨c, m, rfl, _⟩ := h; rfl) (fun cdv A outer s H E hr => ⟨_, (pss_cons (ps_set (i := 2) sc__law_row.nd rfl (Or.inl rfl) (pe_lst pa_nil))
    (pss_cons (ps_set (i := 3) sc__law_row.nd rfl (Or.inl rfl) (pe_op op_mod (pe_callTy call_int1 (by rfl) T.n_int (by decide +kernel) (pa_cons (pv 0) pa_nil)) pe_int))
    (pss_cons (ps_set (i := 4) sc__law_row.nd rfl (Or.inl rfl) (pe_op op_sub (pv 0) (pe_op op_pow pe_int pe_int)))
    (pss_cons (ps_for PassesOwn.never rfl (pi_range1 (by rfl) T.n_range (pa_cons (pv 1) pa_nil)) (pg_name (i := 5) sc__law_row.nd rfl (Or.inl rfl))
    (pss_cons (ps_set (i := 3) sc__law_row.nd rfl (Or.inl rfl) (pe_op op_mod (pe_callTy call_int1 (by rfl) T.n_int (by decide +kernel) (pa_cons (pe_op op_add (pe_op op_add (pe_op op_mul (pv 3) pe_int) (pe_op op_mul pe_int (pv 5))) pe_int) pa_nil)) pe_int))
    (pss_cons (ps_set (i := 6) sc__law_row.nd rfl (Or.inl rfl) (pe_op op_mod (pe_callTy call_int1 (by rfl) T.n_int (by decide +kernel) (pa_cons (pe_op op_add (pe_op op_add (pe_op op_mul (pv 3) pe_int) (pe_op op_mul pe_int (pv 5))) pe_int) pa_nil)) pe_int))
    (pss_cons (ps_expr (pe_bm PySem.F.plainAttrs_list PySem.F.slot_list_append PySem.F.type_list_append mt_append (pv 2) (pa_cons (pe_ifExp (pt_cmpR op_ge (pv 0) (pe_op op_pow pe_int pe_int) (nomark _)) (pe_op op_mod (pe_callTy call_int1 (by rfl) T.n_int (by decide +kernel) (pa_cons (pv 4) pa_nil)) pe_int) (pe_op op_mod (pe_callTy call_int1 (by rfl) T.n_int (by decide +kernel) (pa_cons (pe_op op_fdiv (pv 6) pe_int) pa_nil)) pe_int)) pa_nil)))
    (pss_one (ps_set (i := 4) sc__law_row.nd rfl (Or.inl rfl) (pe_op op_fdiv (pv 4) pe_int)))))))
    (pss_one (ps_ret (pv 2))))))), fun ds r h H0 H1 E' hrt => ?_⟩)
  obtain ⟨c, m, rfl, hm, rfl⟩ := h
  refine q_own (en_lst ea_nil (by decide)) ?_
  refine q_asg (d := .int (c % 2147483629)) (by walk_at "ev") ?_
  refine q_asg (d := .int (c - 10 ^ 18)) (by walk_at "ev") ?_
  refine q_range m (envRow c m) (ee_var rfl) (by omega) (by omega) ?_ (fun k hk G0 E2 hr2 hb2 hn hc => ?_) ?_
  · walk_at "sub"
  · have hs := seed_lt c k
    refine q_asg (d := .int (rowSt c (k + 1)).2.1) (by walk_at "evi") ?_
    have hs1 := seed_lt c (k + 1)
    refine q_asg (d := .int (((rowSt c (k + 1)).2.1 * 69621 + 31 * (k : Int) + 7) % 2147483629)) (by walk_at "ev") ?_
    refine q_app (d := .int (if decide ((10 : Int) ^ 18 ≤ c) = true then (rowSt c k).2.2 % 1000 else (((rowSt c (k + 1)).2.1 * 69621 + 31 * (k : Int) + 7) % 2147483629) / 4099 % 1000)) rfl (ee_ifE (b := decide ((10 : Int) ^ 18 ≤ c)) ?_ ?_ ?_) ?_ ?_
    · walk_at "evt"
    · intro h
      rw [if_pos h]
      walk_at "ev"
    · intro h
      rw [if_neg (by rw [h]; decide)]
      walk_at "ev"
    · have := row_len c k
      unfold lawRow at this
      rw [List.length_map, this]; omega
    refine go_asg (d := .int (rowSt c (k + 1)).2.2) (by walk_at "evi") ?_
    refine nx_sub ?_ hn
    have e : (rowSt c (k + 1)).1.map D.int = (rowSt c k).1.map D.int ++ [D.int (if decide ((10 : Int) ^ 18 ≤ c) = true then (rowSt c k).2.2 % 1000 else (((rowSt c (k + 1)).2.1 * 69621 + 31 * (k : Int) + 7) % 2147483629) / 4099 % 1000)] := by
      show ((rowSt c k).1 ++ [_]).map D.int = _
      rw [List.map_append]; rfl
    unfold envRow
    rw [e]
    walk_at "sub"
  · refine q_freeze 2 rfl ?_
    exact go_ret (ee_var rfl) hrt
end

/-! ### the program -/
def letters : List Nat := [97, 98, 99, 100, 101, 102, 103, 104, 105, 106, 107, 108, 109, 110, 111, 112, 113, 114, 115, 116, 117, 118, 119, 120, 121, 122]
def digits : List Nat := [48, 49, 50, 51, 52, 53, 54, 55, 56, 57]
def allIn (l m : List Nat) : Bool := l.all fun c => decide (c ∈ m)
def isName (l : List Nat) : Bool := (decide ((1 : Int) ≤ (l.length : Nat)) && decide (((l.length : Nat) : Int) ≤ 12)) && allIn l letters
def isNumber (l : List Nat) : Bool := if decide (l = [48]) = true then true else !decide (l = []) && (!decide (l.head? = some 48) && allIn l digits)
def isLabel (l : List Nat) : Bool := decide (((TL.spl [46] 0 [] l).length : Nat) ≤ (2 : Int)) && ((TL.spl [46] 0 [] l).map isName).all id
def R_cons : List D → D → Prop := fun ds r => ∃ l m : List Nat, ds = [stx l, stx m] ∧ l.length ≤ 1000 ∧ r = .bl (allIn l m)
def R_name : List D → D → Prop := fun ds r => ∃ l : List Nat, ds = [stx l] ∧ l.length ≤ 1000 ∧ r = .bl (isName l)
def R_number : List D → D → Prop := fun ds r => ∃ l : List Nat, ds = [stx l] ∧ l.length ≤ 1000 ∧ r = .bl (isNumber l)
def R_label : List D → D → Prop := fun ds r => ∃ l : List Nat, ds = [stx l] ∧ l.length ≤ 900 ∧ r = .bl (isLabel l)
theorem spl_mem : ∀ (l acc : List Nat) (n : Nat), acc.length + l.length ≤ n → ∀ x ∈ TL.spl [46] 0 acc l, x.length ≤ n
  | [], acc, n, h, x, hx => by
    rw [TL.spl_nil] at hx
    rw [List.mem_singleton] at hx; subst hx; simpa using h
  | c :: r, acc, n, h, x, hx => by
    have h : acc.length + (r.length + 1) ≤ n := h
    cases hp : TL.pre [46] (c :: r) with
    | true =>
      rw [TL.spl_hit hp] at hx
      rcases List.mem_cons.mp hx with e | hx
      · subst e; omega
      · exact spl_mem r [] n (by simp; omega) x hx
    | false =>
      rw [TL.spl_miss hp] at hx
      exact spl_mem r (acc ++ [c]) n (by simp; omega) x hx
theorem spl_cnt : ∀ (l acc : List Nat), (TL.spl [46] 0 acc l).length = l.count 46 + 1
  | [], acc => by rw [TL.spl_nil]; rfl
  | c :: r, acc => by
    by_cases h : c = 46
    · subst h
      have hp : TL.pre [46] (46 :: r) = true := by show ([46] == [46]) = true; rfl
      rw [TL.spl_hit hp, List.length_cons, List.count_cons_self]
      have := spl_cnt r []
      show (TL.spl [46] 0 [] r).length + 1 = _
      rw [this]
    · have hp : TL.pre [46] (c :: r) = false := TL.pre_of_head [] r h
      rw [TL.spl_miss hp, List.count_cons_of_ne h, spl_cnt r (acc ++ [c])]
section
variable {P : Program} {w : World} {K : PySem.W.Frag} {mg : Str → Option Value} {base : Heap} {f : Addr} {fd : FuncData}
theorem ok__consists_of (F : Fun K "_consists_of" "_consists_of" s__consists_of f fd) (T : Txt mg) : FnOk P w K mg base CX0 1 f fd ["text", "letters"] (spR K R_cons) := by
  refine ok_def F sc__consists_of (fun ds r h => by obtain ⟨l, m, rfl, _⟩ := h; rfl) (fun cdv A outer s H E hr => ⟨_, (pss_one (ps_ret (pe_callB (k_all K) (by rfl) T.n_all (by decide +kernel) (pa_cons (pe_lc (own := [("letter", 2)]) rfl sc__consists_of.nd (pi_str (pv 0)) (blkOk_by (N := N__consists_of) (sc := defScope s__consists_of) (by decide +kernel)) (fun _ _ _ _ _ => (pg_name (i := 2) sc__consists_of.nd rfl (Or.inl rfl))) (fun _ _ _ _ _ => pts_nil) (fun _ _ _ _ _ => (pe_cmpR op_in_sign (pv 2) (pv 1) (by with_unfolding_all rfl)))) pa_nil)))), fun ds r h H0 H1 E' hrt => ?_⟩)
  obtain ⟨l, m, rfl, hl, rfl⟩ := h
  refine go_ret (EvE.is (ee_all (bs := l.map fun c => decide (c ∈ m)) ?_) ?_) hrt
  · have e : (l.map fun c => decide (c ∈ m)).map D.bl = l.map (fun c => D.bl (decide (c ∈ m))) := by simp
    rw [e]
    exact (en_lc1 (rep := fun c => stx [c]) (w := fun c => D.bl (decide (c ∈ m))) (ei_strX (ee_var rfl)) (by simp) hl (fun c hc => ee_inX (ee_var rfl) (ee_var rfl))).ee
  · unfold allIn; rw [List.all_map]; rfl
theorem ok_is_name (F : Fun K "is_name" "is_name" s_is_name f fd) (T : Txt mg) {tL tN : Tok} (c_LETTERS : mg "LETTERS" = some (.str "abcdefghijklmnopqrstuvwxyz" tL)) (c_LONGEST_NAME : mg "LONGEST_NAME" = some (.int 12 tN))
    (C__consists_of : Cal P w K mg base "_consists_of" 1 ["text", "letters"] (spR K R_cons)) : FnOk P w K mg base CX0 2 f fd ["text"] (spR K R_name) := by
  refine ok_def F sc_is_name (fun ds r h => by obtain ⟨l, rfl, _⟩ := h; rfl) (fun cdv A outer s H E hr => ⟨_, (pss_one (ps_ret (pe_and (pe_chain op_le op_le pe_int (pe_callB (k_call_len K) (by rfl) T.n_len (by decide +kernel) (pa_cons (pv 0) pa_nil)) (pe_glob (v := V.int 12) (by rfl) c_LONGEST_NAME ⟨_, rfl⟩)) (pe_one (pe_cal (C__consists_of.mono (by decide)) hr (by rfl) (pa_cons (pv 0) (pa_cons (pe_glob (v := V.str "abcdefghijklmnopqrstuvwxyz") (by rfl) c_LETTERS ⟨_, rfl⟩) pa_nil))))))), fun ds r h H0 H1 E' hrt => ?_⟩)
  obtain ⟨l, rfl, hl, rfl⟩ := h
  refine go_ret (ee_andV (ee_chain ee_int (ee_lenX (ee_var rfl) (by omega)) (cmp_I0 rfl) (fun _ => ee_int) (fun _ => cmp_I0 rfl)) (fun _ => ?_)) hrt
  exact ee_call (ea_cons (ee_var rfl) (ea_cons (d := stx letters) (ee_strX (by decide +kernel)) ea_nil)) ⟨l, letters, rfl, hl, rfl⟩
theorem ok_is_number (F : Fun K "is_number" "is_number" s_is_number f fd) (T : Txt mg) {tD : Tok} (c_DIGITS : mg "DIGITS" = some (.str "0123456789" tD))
    (C__consists_of : Cal P w K mg base "_consists_of" 1 ["text", "letters"] (spR K R_cons)) : FnOk P w K mg base CX0 2 f fd ["text"] (spR K R_number) := by
  refine ok_def F sc_is_number (fun ds r h => by obtain ⟨l, rfl, _⟩ := h; rfl) (fun cdv A outer s H E hr => ⟨_, (pss_cons (ps_if (pt_cmpR op_eq (pv 0) pe_str (nomark _)) (pss_one (ps_ret pe_bl)) pss_nil)
    (pss_one (ps_ret (pe_and (pe_cmpR op_ne (pv 0) pe_str (nomark _)) (pe_and (pe_not (pe_m1 PySem.F.slot_str_startswith PySem.F.type_str_startswith mt_startswith (pv 0) pe_str)) (pe_one (pe_cal (C__consists_of.mono (by decide)) hr (by rfl) (pa_cons (pv 0) (pa_cons (pe_glob (v := V.str "0123456789") (by rfl) c_DIGITS ⟨_, rfl⟩) pa_nil))))))))), fun ds r h H0 H1 E' hrt => ?_⟩)
  obtain ⟨l, rfl, hl, rfl⟩ := h
  refine q_leave (b := decide (l = [48])) (et_test (ee_eqX (ee_var rfl) (ee_strX (by decide +kernel)))) (fun h => ?_) (fun h => ?_)
  · refine go_ret ee_bl (hrt.is ?_)
    unfold isNumber; rw [if_pos h]
  · refine go_ret (ee_andV (ee_neX (b := []) (ee_var rfl) (ee_strX (by decide +kernel))) (fun _ => ee_andV (b := allIn l digits) (ee_notV (ee_startsX (c := 48) (ee_var rfl) (ee_strX (by decide +kernel)))) (fun _ => ?_))) (hrt.is ?_)
    · exact ee_call (ea_cons (ee_var rfl) (ea_cons (d := stx digits) (ee_strX (by decide +kernel)) ea_nil)) ⟨l, digits, rfl, hl, rfl⟩
    · unfold isNumber; rw [if_neg (by rw [h]; decide)]
theorem ok_is_label (F : Fun K "is_label" "is_label" s_is_label f fd) (T : Txt mg) (C_is_name : Cal P w K mg base "is_name" 2 ["text"] (spR K R_name)) : FnOk P w K mg base CX0 3 f fd ["text"] (spR K R_label) := by
  refine ok_def F sc_is_label (fun ds r h => by obtain ⟨l, rfl, _⟩ := h; rfl) (fun cdv A outer s H E hr => ⟨_, (pss_cons (ps_set (i := 1) sc_is_label.nd rfl (Or.inl rfl) (pe_split (pv 0) pe_str))
    (pss_one (ps_ret (pe_and (pe_cmpR op_le (pe_callB (k_call_len K) (by rfl) T.n_len (by decide +kernel) (pa_cons (pv 1) pa_nil)) pe_int (nomark _)) (pe_one (pe_callB (k_all K) (by rfl) T.n_all (by decide +kernel) (pa_cons (pe_lc (own := [("part", 2)]) rfl sc_is_label.nd (k_pi_list K (pv 1)) (blkOk_by (N := N_is_label) (sc := defScope s_is_label) (by decide +kernel)) (fun _ _ _ _ _ => (pg_name (i := 2) sc_is_label.nd rfl (Or.inl rfl))) (fun _ _ _ _ _ => pts_nil) (fun _ _ _ _ _ => (pe_cal (C_is_name.mono (by decide)) hr (by rfl) (pa_cons (pv 2) pa_nil)))) pa_nil))))))), fun ds r h H0 H1 E' hrt => ?_⟩)
  obtain ⟨l, rfl, hl, rfl⟩ := h
  refine q_asg (d := .lst ((TL.spl [46] 0 [] l).map stx)) (ee_splitX (ee_var rfl) (ee_strX (by decide +kernel)) (by decide) (by omega)) ?_
  refine go_ret (ee_andV (a := decide (((TL.spl [46] 0 [] l).length : Nat) ≤ (2 : Int))) (b := ((TL.spl [46] 0 [] l).map isName).all id) (EvE.is (ee_le (ee_lenL (ee_var rfl)) ee_int) (by rw [List.length_map])) (fun _ => ?_)) hrt
  refine ee_all (bs := (TL.spl [46] 0 [] l).map isName) ?_
  rw [List.map_map]
  refine (en_lc1 (rep := stx) (w := D.bl ∘ isName) (ei_list (ee_var rfl)) (by simp) ?_ (fun x hx => ?_)).ee
  · rw [spl_cnt]
    have := List.count_le_length (a := 46) (l := l)
    omega
  · exact ee_call (ea_cons (ee_var rfl) ea_nil) ⟨x, rfl, by have := spl_mem l [] l.length (by simp) x hx; omega, rfl⟩
end
/-! ### the law's readers -/
def dots (l : List Nat) : List Nat := (List.range l.length).filter fun k => decide (l[k]? = some 46)
def lawLabel (l : List Nat) : Bool :=
  if decide (((dots l).length : Nat) = (0 : Int)) = true then isName l
  else decide (((dots l).length : Nat) = (1 : Int)) && (isName (l.take ((dots l).getD 0 0)) && isName (l.drop ((dots l).getD 0 0 + 1)))
def lawNumber (l : List Nat) : Bool := allIn l digits && (decide ((l.length : Nat) = (1 : Int)) || (decide ((1 : Int) < (l.length : Nat)) && !decide (l.head? = some 48)))
def R_lname : List D → D → Prop := fun ds r => ∃ l : List Nat, ds = [stx l] ∧ l.length ≤ 1000 ∧ r = .bl (isName l)
def R_lnumber : List D → D → Prop := fun ds r => ∃ l : List Nat, ds = [stx l] ∧ l.length ≤ 1000 ∧ r = .bl (lawNumber l)
def R_llabel : List D → D → Prop := fun ds r => ∃ l : List Nat, ds = [stx l] ∧ l.length ≤ 900 ∧ r = .bl (lawLabel l)
def R_told : List D → D → Prop := fun ds r => ∃ a b : Bool, ds = [.bl a, .bl b] ∧ r = .bl (decide (a = b))
theorem all_step {l m : List Nat} {i : Nat} {x : Nat} (h : l[i]? = some x) (p : allIn (l.take i) m = true) (hx : x ∈ m) : allIn (l.take (i + 1)) m = true := by
  unfold allIn at p ⊢
  rw [List.take_add_one, h, List.all_append, p]
  simp [hx]
theorem all_bad {l m : List Nat} {i : Nat} {x : Nat} (h : l[i]? = some x) (hx : ¬ x ∈ m) : allIn l m = false := by
  cases q : allIn l m with
  | false => rfl
  | true =>
    unfold allIn at q
    rw [List.all_eq_true] at q
    have := q x (List.mem_of_getElem? h)
    exact absurd (of_decide_eq_true this) hx
section
variable {P : Program} {w : World} {K : PySem.W.Frag} {mg : Str → Option Value} {base : Heap} {f : Addr} {fd : FuncData}
theorem ok__law_is_name (F : Fun K "_law_is_name" "_law_is_name" s__law_is_name f fd) (T : Txt mg) : FnOk P w K mg base CX0 1 f fd ["own_text"] (spR K R_lname) := by
  refine ok_def F sc__law_is_name (fun ds r h => by obtain ⟨l, rfl, _⟩ := h; rfl) (fun cdv A outer s H E hr => ⟨_, (pss_cons (ps_for PassesOwn.never rfl (pi_str (pv 0)) (pg_name (i := 1) sc__law_is_name.nd rfl (Or.inl rfl))
    (pss_one (ps_if (pt_cmpR op_notIn_sign (pv 1) pe_str (by with_unfolding_all rfl)) (pss_one (ps_ret pe_bl)) pss_nil)))
    (pss_one (ps_ret (pe_and (pe_cmpR op_gt (pe_callB (k_call_len K) (by rfl) T.n_len (by decide +kernel) (pa_cons (pv 0) pa_nil)) pe_int (nomark _)) (pe_one (pe_cmpR op_lt (pe_callB (k_call_len K) (by rfl) T.n_len (by decide +kernel) (pa_cons (pv 0) pa_nil)) pe_int (nomark _))))))), fun ds r h H0 H1 E' hrt => ?_⟩)
  obtain ⟨l, rfl, hl, rfl⟩ := h
  refine q_for1P (rep := fun c => stx [c]) (xs := l) (fun i => allIn (l.take i) letters = true) (fun _ => [.val (stx l), .no]) (ei_strX (ee_var rfl)) rfl (Sub.refl _) (fun i x hx pi G0 E2 hr2 hb2 hn hc => ?_) (fun pn => ?_)
  · refine go_if (b := !decide (x ∈ letters)) (et_test (ee_ninX (ee_var rfl) (ee_strX (by decide +kernel)))) (fun h => ?_) (fun h => ?_)
    · have hx2 : ¬ x ∈ letters := by simpa using h
      refine go_ret ee_bl (hr2 _ (hrt.is ?_))
      unfold isName; rw [all_bad hx hx2, Bool.and_false]
    · have hx2 : x ∈ letters := by simpa using h
      exact go_next (nx_sub (by walk_at "sub") (hn (all_step hx pi hx2)))
  · rw [List.take_length] at pn
    refine go_ret (ee_andV (ee_gt (ee_lenX (ee_var rfl) (by omega)) ee_int) (fun _ => ee_lt (ee_lenX (ee_var rfl) (by omega)) ee_int)) (hrt.is ?_)
    unfold isName
    rw [pn, Bool.and_true]
    have e1 : decide ((0 : Int) < (l.length : Nat)) = decide ((1 : Int) ≤ (l.length : Nat)) := by apply decide_eq_decide.mpr; omega
    have e2 : decide (((l.length : Nat) : Int) < 13) = decide (((l.length : Nat) : Int) ≤ 12) := by apply decide_eq_decide.mpr; omega
    rw [e1, e2]
theorem ok__law_is_number (F : Fun K "_law_is_number" "_law_is_number" s__law_is_number f fd) (T : Txt mg) : FnOk P w K mg base CX0 1 f fd ["own_text"] (spR K R_lnumber) := by
  refine ok_def F sc__law_is_number (fun ds r h => by obtain ⟨l, rfl, _⟩ := h; rfl) (fun cdv A outer s H E hr => ⟨_, (pss_cons (ps_for PassesOwn.never rfl (pi_str (pv 0)) (pg_name (i := 1) sc__law_is_number.nd rfl (Or.inl rfl))
    (pss_one (ps_if (pt_cmpR op_notIn_sign (pv 1) pe_str (by with_unfolding_all rfl)) (pss_one (ps_ret pe_bl)) pss_nil)))
    (pss_one (ps_ret (pe_or (pe_cmpR op_eq (pe_callB (k_call_len K) (by rfl) T.n_len (by decide +kernel) (pa_cons (pv 0) pa_nil)) pe_int (nomark _)) (pe_one (pe_and (pe_cmpR op_gt (pe_callB (k_call_len K) (by rfl) T.n_len (by decide +kernel) (pa_cons (pv 0) pa_nil)) pe_int (nomark _)) (pe_one (pe_cmpR op_ne (pe_ix ix_str (pv 0) pe_int (fun _ _ => rfl)) pe_str (nomark _))))))))), fun ds r h H0 H1 E' hrt => ?_⟩)
  obtain ⟨l, rfl, hl, rfl⟩ := h
  refine q_for1P (rep := fun c => stx [c]) (xs := l) (fun i => allIn (l.take i) digits = true) (fun _ => [.val (stx l), .no]) (ei_strX (ee_var rfl)) rfl (Sub.refl _) (fun i x hx pi G0 E2 hr2 hb2 hn hc => ?_) (fun pn => ?_)
  · refine go_if (b := !decide (x ∈ digits)) (et_test (ee_ninX (ee_var rfl) (ee_strX (by decide +kernel)))) (fun h => ?_) (fun h => ?_)
    · have hx2 : ¬ x ∈ digits := by simpa using h
      refine go_ret ee_bl (hr2 _ (hrt.is ?_))
      unfold lawNumber; rw [all_bad hx hx2, Bool.false_and]
    · have hx2 : x ∈ digits := by simpa using h
      exact go_next (nx_sub (by walk_at "sub") (hn (all_step hx pi hx2)))
  · rw [List.take_length] at pn
    refine go_ret (ee_orV (a := decide ((l.length : Nat) = (1 : Int))) (b := decide ((1 : Int) < (l.length : Nat)) && !decide (l.head? = some 48)) (ee_eqI (ee_lenX (ee_var rfl) (by omega)) ee_int) (fun _ => ee_andV (ee_gt (ee_lenX (ee_var rfl) (by omega)) ee_int) (fun h => ?_))) (hrt.is ?_)
    · have h1 : (1 : Int) < (l.length : Nat) := of_decide_eq_true h
      cases l with
      | nil => simp at h1
      | cons c r =>
        refine EvE.is (ee_neX (a := [c]) (b := [48]) (ee_ixX (k := 0) (ee_var rfl) ee_int (by omega) (atI_nat (j := 0) rfl)) (ee_strX (by decide +kernel))) ?_
        simp
    · unfold lawNumber; rw [pn, Bool.true_and]
theorem ok__law_is_label (F : Fun K "_law_is_label" "_law_is_label" s__law_is_label f fd) (T : Txt mg) (C__law_is_name : Cal P w K mg base "_law_is_name" 1 ["own_text"] (spR K R_lname)) : FnOk P w K mg base CX0 2 f fd ["own_text"] (spR K R_llabel) := by
  refine ok_def F sc__law_is_label (fun ds r h => by obtain ⟨l, rfl, _⟩ := h; rfl) (fun cdv A outer s H E hr => ⟨_, (pss_cons (ps_setLc (i := 1) (hy := rfl) (hyl := rfl) (hsw := sw_true rfl rfl rfl (by decide +kernel)) (own := [("k", 2)]) rfl sc__law_is_label.nd (pi_range1 (by rfl) T.n_range (pa_cons (pe_callB (k_call_len K) (by rfl) T.n_len (by decide +kernel) (pa_cons (pv 0) pa_nil)) pa_nil)) (blkOk_by (N := N__law_is_label) (sc := defScope s__law_is_label) (by decide +kernel)) (fun _ _ _ _ _ => (pg_name (i := 2) sc__law_is_label.nd rfl (Or.inl rfl))) (fun _ _ _ _ _ => (pts_one (pt_cmpR op_eq (pe_ix ix_str (pv 0) (pv 2) (fun _ _ => rfl)) pe_str (nomark _)))) (fun _ _ _ _ _ => (pv 2)))
    (pss_cons (ps_if (pt_cmpR op_eq (pe_callB (k_call_len K) (by rfl) T.n_len (by decide +kernel) (pa_cons (pv 1) pa_nil)) pe_int (nomark _)) (pss_one (ps_ret (pe_cal (C__law_is_name.mono (by decide)) hr (by rfl) (pa_cons (pv 0) pa_nil)))) pss_nil)
    (pss_one (ps_ret (pe_and (pe_cmpR op_eq (pe_callB (k_call_len K) (by rfl) T.n_len (by decide +kernel) (pa_cons (pv 1) pa_nil)) pe_int (nomark _)) (pe_and (pe_cal (C__law_is_name.mono (by decide)) hr (by rfl) (pa_cons (pe_slice sl_str (pv 0) po_none (po_some (pe_ix (k_ix_list K) (pv 1) pe_int (fun _ _ => rfl)))) pa_nil)) (pe_one (pe_cal (C__law_is_name.mono (by decide)) hr (by rfl) (pa_cons (pe_slice sl_str (pv 0) (po_some (pe_op op_add (pe_ix (k_ix_list K) (pv 1) pe_int (fun _ _ => rfl)) pe_int)) po_none) pa_nil))))))))), fun ds r h H0 H1 E' hrt => ?_⟩)
  obtain ⟨l, rfl, hl, rfl⟩ := h
  refine q_asg (d := .lst ((dots l).map fun (k : Nat) => D.int (k : Int))) ?_ ?_
  · have hi := ei_rng1 (K := K) (env := startE N__law_is_label [stx l]) (n := (l.length : Nat)) (ee_lenX (te := tVar 0) (ee_var (i := 0) rfl) (by omega)) ⟨by omega, by omega⟩
    have e : rng 0 ((l.length : Nat) : Int).toNat = (List.range l.length).map (fun (i : Nat) => D.int (i : Int)) := by simp [rng]
    rw [e] at hi
    refine (en_lc1F (rep := fun (i : Nat) => D.int (i : Int)) (fun k => decide (l[k]? = some 46)) _ hi (by simp) (by simp; omega) (fun k hk => ?_) (fun k hk _ => ?_)).ee
    · have hk : k < l.length := by simpa using hk
      refine et_test (EvE.is (ee_eqX (a := [l[k]]) (b := [46]) (ee_ixX (k := (k : Int)) (ee_var rfl) (ee_var rfl) (by omega) (atI_nat (by simp [hk]))) (ee_strX (by decide +kernel))) ?_)
      simp [hk]
    · exact ee_var rfl
  refine q_leave (b := decide (((dots l).length : Nat) = (0 : Int))) (et_test (EvE.is (ee_eqI (ee_lenL (ee_var rfl)) ee_int) (by rw [List.length_map]))) (fun h => ?_) (fun h => ?_)
  · refine go_ret (ee_call (ea_cons (ee_var rfl) ea_nil) ⟨l, rfl, by omega, rfl⟩) (hrt.is ?_)
    unfold lawLabel; rw [if_pos h]
  · have e0 : lawLabel l = (decide (((dots l).length : Nat) = (1 : Int)) && (isName (l.take ((dots l).getD 0 0)) && isName (l.drop ((dots l).getD 0 0 + 1)))) := by
      unfold lawLabel; rw [if_neg (by rw [h]; decide)]
    rw [e0] at hrt
    refine go_ret (ee_andV (EvE.is (ee_eqI (ee_lenL (ee_var rfl)) ee_int) (by rw [List.length_map])) (fun h1 => ?_)) hrt
    have h1 : (dots l).length = 1 := by have := of_decide_eq_true h1; omega
    have hd : (dots l)[0]? = some ((dots l).getD 0 0) := by
      rw [List.getElem?_eq_getElem (by omega)]; simp [List.getD_eq_getElem?_getD, h1]
    have ix : atI ((dots l).map fun (k : Nat) => D.int (k : Int)) ((0 : Nat) : Int) = some (.int (((dots l).getD 0 0 : Nat) : Int)) := atI_map hd
    refine ee_andV (ee_call (ea_cons (d := stx (l.take ((dots l).getD 0 0))) ?_ ea_nil) ⟨_, rfl, by simp; omega, rfl⟩) (fun _ => ee_call (ea_cons (d := stx (l.drop ((dots l).getD 0 0 + 1))) ?_ ea_nil) ⟨_, rfl, by simp; omega, rfl⟩)
    · refine EvE.is (ee_slX (ee_var rfl) eo_none (eo_some (ee_ixL (ee_var rfl) ee_int ix)) (by omega)) ?_
      rw [cut_to]; rfl
    · refine EvE.is (ee_slX (ee_var rfl) (eo_some (i := (((dots l).getD 0 0 + 1 : Nat) : Int)) (EvE.is (ee_add (ee_ixL (ee_var rfl) ee_int ix) ee_int) (by rw [Int.natCast_add]; rfl))) eo_none (by omega)) ?_
      rw [cut_from]; rfl
theorem ok__law_told (F : Fun K "_law_told" "_law_told" s__law_told f fd) (T : Txt mg) : FnOk P w K mg base CX0 1 f fd ["actual", "expected"] (spR K R_told) := by
  refine ok_def F sc__law_told (fun ds r h => by obtain ⟨a, b, rfl, _⟩ := h; rfl) (fun cdv A outer s H E hr => ⟨_, (pss_one (ps_ret (pe_and (pe_callB (k_isi K) (by rfl) T.n_isinstance (by decide +kernel) (pa_cons (pv 0) (pa_cons (pe_bltn (v := .ty "bool") (by rfl) T.n_bool (by decide +kernel) rfl) pa_nil))) (pe_one (pe_cmpR op_eq (pv 0) (pv 1) (nomark _)))))), fun ds r h H0 H1 E' hrt => ?_⟩)
  obtain ⟨a, b, rfl, rfl⟩ := h
  refine go_ret (ee_andV (a := true) (ee_isi (v := .bl a) (t := "bool") (ee_var rfl) rfl (fun _ => .base (.bl a)) (kit_ty (by decide +kernel))) (fun _ => ee_eqB (ee_var rfl) (ee_var rfl))) (hrt.is (by simp))
end
/-! ### the two readings agree -/
theorem dots_cnt (l : List Nat) : ∀ n, n ≤ l.length → ((List.range n).filter fun k => decide (l[k]? = some 46)).length = (l.take n).count 46
  | 0, _ => by simp
  | n + 1, h => by
    have hn : n < l.length := by omega
    rw [List.range_succ, List.filter_append, List.length_append, dots_cnt l n (by omega), List.take_add_one, List.getElem?_eq_getElem hn, List.count_append]
    congr 1
    by_cases e : l[n] = 46
    · simp [e, hn]
    · simp [e, hn]
theorem dots_len (l : List Nat) : (dots l).length = l.count 46 := by
  unfold dots
  rw [dots_cnt l l.length (Nat.le_refl _), List.take_length]
theorem label_eq (l : List Nat) : isLabel l = lawLabel l := by
  unfold isLabel lawLabel
  have hc := spl_cnt l []
  have hd := dots_len l
  by_cases h0 : l.count 46 = 0
  · have hn : 46 ∉ l := List.count_eq_zero.mp h0
    have e : TL.spl [46] 0 [] l = [l] := by
      have := TL.spl_last1 (S := []) (acc := []) hn
      simpa using this
    rw [e, hd, h0]
    simp
  · rw [hd, hc]
    have hz : ¬ decide (((l.count 46 : Nat) : Int) = 0) = true := fun z => h0 (by have := of_decide_eq_true z; omega)
    rw [if_neg hz]
    by_cases h1 : l.count 46 = 1
    · rw [h1]
      rw [h1] at hd
      obtain ⟨k, hk⟩ : ∃ k, dots l = [k] := List.length_eq_one_iff.mp hd
      have mem : ∀ j, j ∈ dots l ↔ j < l.length ∧ l[j]? = some 46 := fun j => by unfold dots; simp
      have hk1 := (mem k).mp (by rw [hk]; simp)
      have hl : l = l.take k ++ (46 :: l.drop (k + 1)) := by
        have e1 : l.drop k = 46 :: l.drop (k + 1) := by
          rw [List.drop_eq_getElem_cons hk1.1]
          have := hk1.2
          rw [List.getElem?_eq_getElem hk1.1] at this
          rw [Option.some.inj this]
        rw [← e1, List.take_append_drop]
      have na : 46 ∉ l.take k := fun hm => by
        obtain ⟨j, hj, ej⟩ := List.getElem_of_mem hm
        have hj' : j < k ∧ j < l.length := by rw [List.length_take] at hj; omega
        have : j ∈ dots l := (mem j).mpr ⟨hj'.2, by rw [List.getElem?_eq_getElem hj'.2]; simpa using ej⟩
        rw [hk, List.mem_singleton] at this
        omega
      have nb : 46 ∉ l.drop (k + 1) := fun hm => by
        obtain ⟨j, hj, ej⟩ := List.getElem_of_mem hm
        have hj' : j < l.length - (k + 1) := by simpa using hj
        have hlt : k + 1 + j < l.length := by omega
        have : k + 1 + j ∈ dots l := (mem _).mpr ⟨hlt, by rw [List.getElem?_eq_getElem hlt]; simpa using ej⟩
        rw [hk, List.mem_singleton] at this
        omega
      have es : TL.spl [46] 0 [] l = [l.take k, l.drop (k + 1)] := by
        conv => lhs; rw [hl]
        have := TL.spl_part1 (s := 46) (S := []) (acc := []) (p := l.take k) (rest := l.drop (k + 1)) na
        have e2 := TL.spl_last1 (s := 46) (S := []) (acc := []) nb
        simp at this e2
        rw [this, e2]
      rw [es, hk]
      simp
    · have e1 : decide (((l.count 46 + 1 : Nat) : Int) ≤ 2) = false := by apply decide_eq_false; omega
      have e2 : decide (((l.count 46 : Nat) : Int) = 1) = false := by apply decide_eq_false; omega
      rw [e1, e2]; rfl
theorem number_eq (l : List Nat) : isNumber l = lawNumber l := by
  unfold isNumber lawNumber
  by_cases h : l = [48]
  · subst h; decide
  · rw [if_neg (by simpa using h)]
    cases l with
    | nil => decide
    | cons c r =>
      cases r with
      | nil =>
        have hc : c ≠ 48 := fun e => h (by rw [e])
        simp [hc]
      | cons c2 r =>
        have e1 : decide ((((c :: c2 :: r).length : Nat) : Int) = 1) = false := by apply decide_eq_false; simp; omega
        have e2 : decide ((1 : Int) < (((c :: c2 :: r).length : Nat) : Int)) = true := by apply decide_eq_true; simp; omega
        rw [e1, e2]
        simp [Bool.and_comm]

/-! ### the law's texts -/
def chars (menu : List Nat) (ns : List Int) (n : Nat) : List Nat := (List.range n).map fun k => menu.getD (ns.getD k 0 % ((menu.length : Nat) : Int)).toNat 0
theorem chars_len (menu : List Nat) (ns : List Int) (n : Nat) : (chars menu ns n).length = n := by simp [chars]
def signs : List Nat := [32, 33, 34, 35, 36, 38, 39, 40, 41, 42, 43, 44, 45, 46, 47, 48, 49, 50, 51, 52, 53, 54, 55, 56, 57, 58, 59, 60, 61, 62, 63, 64, 65, 66, 67, 68, 69, 70, 71, 72, 73, 74, 75, 76, 77, 78, 79, 80, 81, 82, 83, 84, 85, 86, 87, 88, 89, 90, 91, 92, 93, 94, 95, 96] ++ letters ++ [123, 124, 125, 126, 10]
def sizes : List Int := [0, 1, 2, 7, 11, 12, 13, 14]
def szAt (x : Int) : Nat := (sizes.getD (x % 8).toNat 0).toNat
def t0 (row : List Int) : List Nat := chars signs (row.drop 5) (row.getD 1 0 % 40).toNat
def t1 (row : List Int) : List Nat := if row.getD 0 0 % 6 = 1 then chars letters (row.drop 5) (szAt (row.getD 1 0)) else t0 row
def t2 (row : List Int) : List Nat := if row.getD 0 0 % 6 = 2 then (chars letters (row.drop 5) (szAt (row.getD 1 0)) ++ [46]) ++ chars letters (row.drop 20) (szAt (row.getD 2 0)) else t1 row
def t3 (row : List Int) : List Nat := if row.getD 0 0 % 6 = 3 then chars (letters ++ [46, 46, 46, 46]) (row.drop 5) (row.getD 1 0 % 30).toNat else t2 row
def t4 (row : List Int) : List Nat := if row.getD 0 0 % 6 = 4 then chars digits (row.drop 5) (row.getD 1 0 % 40).toNat else t3 row
def t5 (row : List Int) : List Nat := if row.getD 0 0 % 6 = 5 then chars [48, 48, 49, 50, 51] (row.drop 5) (row.getD 1 0 % 4).toNat else t4 row
def lawText (row : List Int) : List Nat :=
  if row.getD 0 0 / 6 % 3 = 1 then ((t5 row).take (row.getD 3 0 % (((t5 row).length : Nat) + 1)).toNat ++ [signs.getD (row.getD 4 0 % ((signs.length : Nat) : Int)).toNat 0]) ++ (t5 row).drop (row.getD 3 0 % (((t5 row).length : Nat) + 1)).toNat else t5 row
theorem szAt_le (x : Int) : szAt x ≤ 14 := by
  unfold szAt
  have h : (x % 8).toNat < 8 := by omega
  generalize (x % 8).toNat = m at h
  match m, h with
  | 0, _ => decide | 1, _ => decide | 2, _ => decide | 3, _ => decide | 4, _ => decide | 5, _ => decide | 6, _ => decide | 7, _ => decide
theorem t5_len (row : List Int) : (t5 row).length ≤ 40 := by
  have a := szAt_le (row.getD 1 0)
  have b := szAt_le (row.getD 2 0)
  have h0 : (t0 row).length ≤ 40 := by unfold t0; rw [chars_len]; omega
  have h1 : (t1 row).length ≤ 40 := by unfold t1; split; (rw [chars_len]; omega); exact h0
  have h2 : (t2 row).length ≤ 40 := by unfold t2; split; (rw [List.length_append, List.length_append, chars_len, chars_len, List.length_singleton]; omega); exact h1
  have h3 : (t3 row).length ≤ 40 := by unfold t3; split; (rw [chars_len]; omega); exact h2
  have h4 : (t4 row).length ≤ 40 := by unfold t4; split; (rw [chars_len]; omega); exact h3
  unfold t5; split; (rw [chars_len]; omega); exact h4
theorem text_len (row : List Int) : (lawText row).length ≤ 50 := by
  have := t5_len row
  unfold lawText
  split
  · rw [List.length_append, List.length_append, List.length_take, List.length_drop]; simp; omega
  · omega
theorem joinL_one : ∀ l : List Nat, TL.joinL [] (l.map fun c => [c]) = l
  | [] => rfl
  | [c] => rfl
  | c :: d :: r => by
    show [c] ++ ([] ++ TL.joinL [] ((d :: r).map fun c => [c])) = c :: d :: r
    rw [joinL_one (d :: r)]; rfl
def R_chars : List D → D → Prop := fun ds r => ∃ (menu : List Nat) (ns : List Int) (n : Nat), ds = [stx menu, .lst (ns.map .int), .int (n : Int)] ∧ 0 < menu.length ∧ menu.length ≤ 1000 ∧ n ≤ ns.length ∧ n ≤ 1000 ∧ r = stx (chars menu ns n)
def R_text : List D → D → Prop := fun ds r => ∃ row : List Int, ds = [.lst (row.map .int)] ∧ row.length = 45 ∧ r = stx (lawText row)
section
variable {P : Program} {w : World} {K : PySem.W.Frag} {mg : Str → Option Value} {base : Heap} {f : Addr} {fd : FuncData}
theorem ok__law_chars (F : Fun K "_law_chars" "_law_chars" s__law_chars f fd) (T : Txt mg) : FnOk P w K mg base CX0 1 f fd ["menu", "numbers", "size"] (spR K R_chars) := by
  refine ok_def F sc__law_chars (fun ds r h => by obtain ⟨m, ns, n, rfl, _⟩ := h; rfl) (fun cdv A outer s H E hr => ⟨_, (pss_one (ps_ret (pe_m1 PySem.F.slot_str_join PySem.F.type_str_join (k_mt_join K) pe_str (pe_lc (own := [("k", 3)]) rfl sc__law_chars.nd (pi_range1 (by rfl) T.n_range (pa_cons (pv 2) pa_nil)) (blkOk_by (N := N__law_chars) (sc := defScope s__law_chars) (by decide +kernel)) (fun _ _ _ _ _ => (pg_name (i := 3) sc__law_chars.nd rfl (Or.inl rfl))) (fun _ _ _ _ _ => pts_nil) (fun _ _ _ _ _ => (pe_ix ix_str (pv 0) (pe_op op_mod (pe_callTy call_int1 (by rfl) T.n_int (by decide +kernel) (pa_cons (pe_ix (k_ix_list K) (pv 1) (pv 3) (fun _ _ => rfl)) pa_nil)) (pe_callB (k_call_len K) (by rfl) T.n_len (by decide +kernel) (pa_cons (pv 0) pa_nil))) (fun _ _ => rfl))))))), fun ds r h H0 H1 E' hrt => ?_⟩)
  obtain ⟨m, ns, n, rfl, hm, hm2, hn, hn2, rfl⟩ := h
  have hi := ei_rng1 (K := K) (env := startE N__law_chars [stx m, .lst (ns.map .int), .int (n : Int)]) (n := (n : Nat)) (ee_var (i := 2) rfl) ⟨by omega, by omega⟩
  have e : rng 0 ((n : Nat) : Int).toNat = (List.range n).map (fun (i : Nat) => D.int (i : Int)) := by simp [rng]
  rw [e] at hi
  refine go_ret (EvE.is (ee_joinX (a := []) (ys := (chars m ns n).map fun c => [c]) (ee_strX (by decide +kernel)) ?_ ?_) (by rw [joinL_one]; rfl)) hrt
  · have e2 : ((chars m ns n).map fun c => [c]).map stx = (List.range n).map (fun k => stx [m.getD (ns.getD k 0 % ((m.length : Nat) : Int)).toNat 0]) := by
      unfold chars; rw [List.map_map, List.map_map]; rfl
    rw [e2]
    refine (en_lc1 (rep := fun (i : Nat) => D.int (i : Int)) (fun k => stx [m.getD (ns.getD k 0 % ((m.length : Nat) : Int)).toNat 0]) hi (by simp) (by simp; omega) (fun k hk => ?_)).ee
    have hk : k < n := by simpa using hk
    have hk2 : k < ns.length := by omega
    have g : ns[k]? = some (ns.getD k 0) := get_getD hk2
    have hp : 0 < ((m.length : Nat) : Int) := by omega
    have hlt : (ns.getD k 0 % ((m.length : Nat) : Int)).toNat < m.length := by
      have := Int.emod_nonneg (ns.getD k 0) (b := ((m.length : Nat) : Int)) (by omega)
      have := Int.emod_lt_of_pos (ns.getD k 0) hp
      omega
    refine ee_ixX (k := ns.getD k 0 % ((m.length : Nat) : Int)) (ee_var rfl) (ee_mod (ee_intI (ee_ixL (ee_var rfl) (ee_var rfl) (atI_map g))) (ee_lenX (ee_var rfl) (by omega)) hp) (by omega) ?_
    exact atI_pos (Int.emod_nonneg _ (by omega)) (get_getD hlt)
  · have e3 : ((chars m ns n).map fun c => [c]).map (·.length) = (chars m ns n).map (fun _ => 1) := by rw [List.map_map]; rfl
    rw [e3]
    rw [sum_ones, chars_len]; simp; omega
theorem sz_eq (x : Int) : ((szAt x : Nat) : Int) = sizes.getD (x % 8).toNat 0 := by
  unfold szAt
  have h : (x % 8).toNat < 8 := by omega
  generalize (x % 8).toNat = m at h
  match m, h with
  | 0, _ => decide | 1, _ => decide | 2, _ => decide | 3, _ => decide | 4, _ => decide | 5, _ => decide | 6, _ => decide | 7, _ => decide
theorem ok__law_text (F : Fun K "_law_text" "_law_text" s__law_text f fd) (T : Txt mg) (C__law_chars : Cal P w K mg base "_law_chars" 1 ["menu", "numbers", "size"] (spR K R_chars)) : FnOk P w K mg base CX0 2 f fd ["row"] (spR K R_text) := by
  refine ok_def F sc__law_text (fun ds r h => by obtain ⟨row, rfl, _⟩ := h; rfl) (fun cdv A outer s H E hr => ⟨_, (pss_cons (ps_set (i := 1) sc__law_text.nd rfl (Or.inl rfl) pe_str)
    (pss_cons (ps_set (i := 2) sc__law_text.nd rfl (Or.inl rfl) pe_str)
    (pss_cons (ps_set (i := 1) sc__law_text.nd rfl (Or.inl rfl) (pe_op op_add_str (pe_op op_add_str (pv 1) (pv 2)) pe_str))
    (pss_cons (ps_set (i := 3) sc__law_text.nd rfl (Or.inl rfl) (pe_lst (pa_cons pe_int (pa_cons pe_int (pa_cons pe_int (pa_cons pe_int (pa_cons pe_int (pa_cons pe_int (pa_cons pe_int (pa_cons pe_int pa_nil))))))))))
    (pss_cons (ps_set (i := 4) sc__law_text.nd rfl (Or.inl rfl) (pe_op op_mod (pe_callTy call_int1 (by rfl) T.n_int (by decide +kernel) (pa_cons (pe_ix (k_ix_list K) (pv 0) pe_int (fun _ _ => rfl)) pa_nil)) pe_int))
    (pss_cons (ps_set (i := 5) sc__law_text.nd rfl (Or.inl rfl) (pe_cal (C__law_chars.mono (by decide)) hr (by rfl) (pa_cons (pv 1) (pa_cons (pe_slice (k_sl_list K) (pv 0) (po_some pe_int) po_none) (pa_cons (pe_op op_mod (pe_callTy call_int1 (by rfl) T.n_int (by decide +kernel) (pa_cons (pe_ix (k_ix_list K) (pv 0) pe_int (fun _ _ => rfl)) pa_nil)) pe_int) pa_nil)))))
    (pss_cons (ps_if (pt_cmpR op_eq (pv 4) pe_int (nomark _)) (pss_one (ps_set (i := 5) sc__law_text.nd rfl (Or.inl rfl) (pe_cal (C__law_chars.mono (by decide)) hr (by rfl) (pa_cons (pv 2) (pa_cons (pe_slice (k_sl_list K) (pv 0) (po_some pe_int) po_none) (pa_cons (pe_ix (k_ix_list K) (pv 3) (pe_op op_mod (pe_callTy call_int1 (by rfl) T.n_int (by decide +kernel) (pa_cons (pe_ix (k_ix_list K) (pv 0) pe_int (fun _ _ => rfl)) pa_nil)) pe_int) (fun _ _ => rfl)) pa_nil)))))) pss_nil)
    (pss_cons (ps_if (pt_cmpR op_eq (pv 4) pe_int (nomark _)) (pss_cons (ps_set (i := 5) sc__law_text.nd rfl (Or.inl rfl) (pe_op op_add_str (pe_cal (C__law_chars.mono (by decide)) hr (by rfl) (pa_cons (pv 2) (pa_cons (pe_slice (k_sl_list K) (pv 0) (po_some pe_int) po_none) (pa_cons (pe_ix (k_ix_list K) (pv 3) (pe_op op_mod (pe_callTy call_int1 (by rfl) T.n_int (by decide +kernel) (pa_cons (pe_ix (k_ix_list K) (pv 0) pe_int (fun _ _ => rfl)) pa_nil)) pe_int) (fun _ _ => rfl)) pa_nil)))) pe_str))
    (pss_one (ps_set (i := 5) sc__law_text.nd rfl (Or.inl rfl) (pe_op op_add_str (pv 5) (pe_cal (C__law_chars.mono (by decide)) hr (by rfl) (pa_cons (pv 2) (pa_cons (pe_slice (k_sl_list K) (pv 0) (po_some pe_int) po_none) (pa_cons (pe_ix (k_ix_list K) (pv 3) (pe_op op_mod (pe_callTy call_int1 (by rfl) T.n_int (by decide +kernel) (pa_cons (pe_ix (k_ix_list K) (pv 0) pe_int (fun _ _ => rfl)) pa_nil)) pe_int) (fun _ _ => rfl)) pa_nil)))))))) pss_nil)
    (pss_cons (ps_if (pt_cmpR op_eq (pv 4) pe_int (nomark _)) (pss_one (ps_set (i := 5) sc__law_text.nd rfl (Or.inl rfl) (pe_cal (C__law_chars.mono (by decide)) hr (by rfl) (pa_cons (pe_op op_add_str (pv 2) pe_str) (pa_cons (pe_slice (k_sl_list K) (pv 0) (po_some pe_int) po_none) (pa_cons (pe_op op_mod (pe_callTy call_int1 (by rfl) T.n_int (by decide +kernel) (pa_cons (pe_ix (k_ix_list K) (pv 0) pe_int (fun _ _ => rfl)) pa_nil)) pe_int) pa_nil)))))) pss_nil)
    (pss_cons (ps_if (pt_cmpR op_eq (pv 4) pe_int (nomark _)) (pss_one (ps_set (i := 5) sc__law_text.nd rfl (Or.inl rfl) (pe_cal (C__law_chars.mono (by decide)) hr (by rfl) (pa_cons pe_str (pa_cons (pe_slice (k_sl_list K) (pv 0) (po_some pe_int) po_none) (pa_cons (pe_op op_mod (pe_callTy call_int1 (by rfl) T.n_int (by decide +kernel) (pa_cons (pe_ix (k_ix_list K) (pv 0) pe_int (fun _ _ => rfl)) pa_nil)) pe_int) pa_nil)))))) pss_nil)
    (pss_cons (ps_if (pt_cmpR op_eq (pv 4) pe_int (nomark _)) (pss_one (ps_set (i := 5) sc__law_text.nd rfl (Or.inl rfl) (pe_cal (C__law_chars.mono (by decide)) hr (by rfl) (pa_cons pe_str (pa_cons (pe_slice (k_sl_list K) (pv 0) (po_some pe_int) po_none) (pa_cons (pe_op op_mod (pe_callTy call_int1 (by rfl) T.n_int (by decide +kernel) (pa_cons (pe_ix (k_ix_list K) (pv 0) pe_int (fun _ _ => rfl)) pa_nil)) pe_int) pa_nil)))))) pss_nil)
    (pss_cons (ps_if (pt_cmpR op_eq (pe_op op_mod (pe_callTy call_int1 (by rfl) T.n_int (by decide +kernel) (pa_cons (pe_op op_fdiv (pe_ix (k_ix_list K) (pv 0) pe_int (fun _ _ => rfl)) pe_int) pa_nil)) pe_int) pe_int (nomark _)) (pss_cons (ps_set (i := 6) sc__law_text.nd rfl (Or.inl rfl) (pe_op op_mod (pe_callTy call_int1 (by rfl) T.n_int (by decide +kernel) (pa_cons (pe_ix (k_ix_list K) (pv 0) pe_int (fun _ _ => rfl)) pa_nil)) (pe_op op_add (pe_callB (k_call_len K) (by rfl) T.n_len (by decide +kernel) (pa_cons (pv 5) pa_nil)) pe_int)))
    (pss_one (ps_set (i := 5) sc__law_text.nd rfl (Or.inl rfl) (pe_op op_add_str (pe_op op_add_str (pe_slice sl_str (pv 5) po_none (po_some (pv 6))) (pe_ix ix_str (pv 1) (pe_op op_mod (pe_callTy call_int1 (by rfl) T.n_int (by decide +kernel) (pa_cons (pe_ix (k_ix_list K) (pv 0) pe_int (fun _ _ => rfl)) pa_nil)) (pe_callB (k_call_len K) (by rfl) T.n_len (by decide +kernel) (pa_cons (pv 1) pa_nil))) (fun _ _ => rfl))) (pe_slice sl_str (pv 5) (po_some (pv 6)) po_none))))) pss_nil)
    (pss_one (ps_ret (pv 5))))))))))))))), fun ds r h H0 H1 E' hrt => ?_⟩)
  obtain ⟨row, rfl, hl, rfl⟩ := h
  have ix : ∀ (env : List Slot) (k : Nat), env[0]? = some (.val (.lst (row.map .int))) → k < 45 → EvE K (tOp (rIxL K) (tVar 0) (tC (.int (k : Int)))) env (.int (row.getD k 0)) := fun env k h hk =>
    ee_ixL (ee_var h) ee_int (atI_map (get_getD (by omega)))
  have ch : ∀ (env : List Slot) (tm tn : TE) (menu : List Nat) (j n : Nat), env[0]? = some (.val (.lst (row.map .int))) → EvE K tm env (stx menu) → EvE K tn env (.int (n : Int)) → 0 < menu.length → menu.length ≤ 1000 → j + n ≤ 45 →
      EvE K (tCall (spR K R_chars) [] E0 (tCons tm (tCons (tSl (rSlL K) (tVar 0) (tPart (tC (.int (j : Int)))) tNoPart) (tCons tn tNil)))) env (stx (chars menu (row.drop j) n)) := fun env tm tn menu j n h h1 h2 h3 h4 h5 =>
    ee_call (ea_cons h1 (ea_cons (d := .lst ((row.drop j).map .int)) (EvE.is (en_slL (ee_var h) (eo_some ee_int) eo_none).ee (by rw [cutD_map, cut_from])) (ea_cons h2 ea_nil))) ⟨menu, row.drop j, n, rfl, h3, h4, by simp; omega, by omega, rfl⟩
  have szx : ∀ (env : List Slot) (k : Nat), env[0]? = some (.val (.lst (row.map .int))) → env[3]? = some (.val (.lst (sizes.map .int))) → k < 45 →
      EvE K (tOp (rIxL K) (tVar 3) (tOp (rI (fun _ j => 0 < j) fun i j => .int (i % j)) (tCB rInt1 (tCons (tOp (rIxL K) (tVar 0) (tC (.int (k : Int)))) tNil)) (tC (.int 8)))) env (.int ((szAt (row.getD k 0) : Nat) : Int)) := fun env k h h3 hk =>
    EvE.is (ee_ixL (ds := sizes.map .int) (d := .int (sizes.getD (row.getD k 0 % 8).toNat 0)) (ee_var h3) (ee_mod (ee_intI (ix env k h hk)) ee_int (by decide)) (atI_pos (by omega) (by rw [List.getElem?_map, get_getD (d := 0) (by show _ < 8; omega)]; rfl))) (by rw [sz_eq])
  have md : ∀ (env : List Slot) (k : Nat) (m : Int), 0 < m → env[0]? = some (.val (.lst (row.map .int))) → k < 45 →
      EvE K (tOp (rI (fun _ j => 0 < j) fun i j => .int (i % j)) (tCB rInt1 (tCons (tOp (rIxL K) (tVar 0) (tC (.int (k : Int)))) tNil)) (tC (.int m))) env (.int (((row.getD k 0 % m).toNat : Nat) : Int)) := fun env k m hm h hk =>
    EvE.is (ee_mod (ee_intI (ix env k h hk)) ee_int hm) (by have := Int.emod_nonneg (row.getD k 0) (b := m) (by omega); congr 1; omega)
  have kd : ∀ (env : List Slot) (m : Int), env[4]? = some (.val (.int (row.getD 0 0 % 6))) → EvT K (tTest (tOp rEq (tVar 4) (tC (.int m)))) env (decide (row.getD 0 0 % 6 = m)) := fun env m h => et_test (ee_eqI (ee_var h) ee_int)
  refine q_asg (d := stx [32, 33, 34, 35, 36, 38, 39, 40, 41, 42, 43, 44, 45, 46, 47, 48, 49, 50, 51, 52, 53, 54, 55, 56, 57, 58, 59, 60, 61, 62, 63, 64, 65, 66, 67, 68, 69, 70, 71, 72, 73, 74, 75, 76, 77, 78, 79, 80, 81, 82, 83, 84, 85, 86, 87, 88, 89, 90, 91, 92, 93, 94, 95, 96]) (ee_strX (by decide +kernel)) ?_
  refine q_asg (d := stx letters) (ee_strX (by decide +kernel)) ?_
  refine q_asg (d := stx signs) (ee_catX (b := [123, 124, 125, 126, 10]) (ee_catX (ee_var rfl) (ee_var rfl) (by decide)) (ee_strX (by decide +kernel)) (by decide)) ?_
  refine q_asg (d := .lst (sizes.map .int)) (by walk_at "ev") ?_
  refine q_asg (d := .int (row.getD 0 0 % 6)) (ee_mod (ee_intI (ix _ 0 rfl (by omega))) ee_int (by decide)) ?_
  refine q_asg (d := stx (t0 row)) (ch _ _ _ _ 5 _ rfl (ee_var rfl) (md _ 1 40 (by decide) rfl (by omega)) (by decide) (by decide) (by omega)) ?_
  refine q_ifSet (d := stx (t1 row)) (kd _ 1 rfl) rfl (fun h => ?_) (fun h => ?_) ?_
  · refine EvE.is (ch _ _ _ _ 5 (szAt (row.getD 1 0)) rfl (ee_var rfl) (szx _ 1 rfl rfl (by omega)) (by decide) (by decide) (by have := szAt_le (row.getD 1 0); omega)) ?_
    unfold t1; rw [if_pos (of_decide_eq_true h)]
  · unfold t1; rw [if_neg (of_decide_eq_false h)]
  refine q_ifJ [.val (.lst (row.map .int)), .val (stx signs), .val (stx letters), .val (.lst (sizes.map .int)), .val (.int (row.getD 0 0 % 6)), .val (stx (t2 row)), .no] (kd _ 2 rfl) (fun E2 er eb ec hn h => ?_) (fun E2 er eb ec hn h => ?_) ?_
  · refine q_asg (d := stx (chars letters (row.drop 5) (szAt (row.getD 1 0)) ++ [46])) (ee_catX (b := [46]) (ch _ _ _ _ 5 (szAt (row.getD 1 0)) rfl (ee_var rfl) (szx _ 1 rfl rfl (by omega)) (by decide) (by decide) (by have := szAt_le (row.getD 1 0); omega)) (ee_strX (by decide +kernel)) (by rw [chars_len]; have := szAt_le (row.getD 1 0); simp only [List.length_singleton]; omega)) ?_
    refine go_asg (d := stx (t2 row)) (EvE.is (ee_catX (b := chars letters (row.drop 20) (szAt (row.getD 2 0))) (ee_var rfl) (ch _ _ _ _ 20 (szAt (row.getD 2 0)) rfl (ee_var rfl) (szx _ 2 rfl rfl (by omega)) (by decide) (by decide) (by have := szAt_le (row.getD 2 0); omega)) ?_) ?_) hn
    · rw [List.length_append, chars_len, chars_len]; have := szAt_le (row.getD 1 0); have := szAt_le (row.getD 2 0); simp only [List.length_singleton]; omega
    · unfold t2; rw [if_pos (of_decide_eq_true h)]; rfl
  · refine go_next ?_
    have e : t2 row = t1 row := by unfold t2; rw [if_neg (of_decide_eq_false h)]
    rw [e] at hn
    exact hn
  refine q_ifSet (d := stx (t3 row)) (kd _ 3 rfl) rfl (fun h => ?_) (fun h => ?_) ?_
  · refine EvE.is (ch _ _ _ (letters ++ [46, 46, 46, 46]) 5 _ rfl (ee_catX (ee_var rfl) (ee_strX (by decide +kernel)) (by decide)) (md _ 1 30 (by decide) rfl (by omega)) (by decide) (by decide) (by omega)) ?_
    unfold t3; rw [if_pos (of_decide_eq_true h)]
  · unfold t3; rw [if_neg (of_decide_eq_false h)]
  refine q_ifSet (d := stx (t4 row)) (kd _ 4 rfl) rfl (fun h => ?_) (fun h => ?_) ?_
  · refine EvE.is (ch _ _ _ digits 5 _ rfl (ee_strX (by decide +kernel)) (md _ 1 40 (by decide) rfl (by omega)) (by decide) (by decide) (by omega)) ?_
    unfold t4; rw [if_pos (of_decide_eq_true h)]
  · unfold t4; rw [if_neg (of_decide_eq_false h)]
  refine q_ifSet (d := stx (t5 row)) (kd _ 5 rfl) rfl (fun h => ?_) (fun h => ?_) ?_
  · refine EvE.is (ch _ _ _ [48, 48, 49, 50, 51] 5 _ rfl (ee_strX (by decide +kernel)) (md _ 1 4 (by decide) rfl (by omega)) (by decide) (by decide) (by omega)) ?_
    unfold t5; rw [if_pos (of_decide_eq_true h)]
  · unfold t5; rw [if_neg (of_decide_eq_false h)]
  have t5l := t5_len row
  refine q_ifJ [.val (.lst (row.map .int)), .val (stx signs), .val (stx letters), .val (.lst (sizes.map .int)), .val (.int (row.getD 0 0 % 6)), .val (stx (lawText row)), .no] (b := decide (row.getD 0 0 / 6 % 3 = 1)) ?_ (fun E2 er eb ec hn h => ?_) (fun E2 er eb ec hn h => ?_) ?_
  · exact et_test (ee_eqI (ee_mod (ee_intI (ee_div (ix _ 0 rfl (by omega)) ee_int ⟨by decide, by decide⟩)) ee_int (by decide)) ee_int)
  · refine q_asg (d := .int (((row.getD 3 0 % (((t5 row).length : Nat) + 1)).toNat : Nat) : Int)) (EvE.is (ee_mod (ee_intI (ix _ 3 rfl (by omega))) (ee_add (ee_lenX (ee_var rfl) (by omega)) ee_int) (by omega)) ?_) ?_
    · have := Int.emod_nonneg (row.getD 3 0) (b := (((t5 row).length : Nat) : Int) + 1) (by omega)
      congr 1; omega
    refine go_asg (d := stx (lawText row)) (EvE.is (ee_catX (a := (t5 row).take (row.getD 3 0 % (((t5 row).length : Nat) + 1)).toNat ++ [signs.getD (row.getD 4 0 % ((signs.length : Nat) : Int)).toNat 0]) (b := (t5 row).drop (row.getD 3 0 % (((t5 row).length : Nat) + 1)).toNat) (ee_catX (EvE.is (ee_slX (ee_var rfl) eo_none (eo_some (ee_var rfl)) (by omega)) (by rw [cut_to])) ?_ ?_) (EvE.is (ee_slX (ee_var rfl) (eo_some (ee_var rfl)) eo_none (by omega)) (by rw [cut_from])) ?_) ?_) (nx_sub (by walk_at "sub") hn)
    · have hp : (0 : Int) < ((signs.length : Nat) : Int) := by decide
      have hlt : (row.getD 4 0 % ((signs.length : Nat) : Int)).toNat < signs.length := by
        have := Int.emod_nonneg (row.getD 4 0) (b := ((signs.length : Nat) : Int)) (by omega)
        have := Int.emod_lt_of_pos (row.getD 4 0) hp
        omega
      exact ee_ixX (ee_var rfl) (ee_mod (ee_intI (ix _ 4 rfl (by omega))) (ee_lenX (ee_var rfl) (by decide)) hp) (by decide) (atI_pos (Int.emod_nonneg _ (by omega)) (get_getD hlt))
    · rw [List.length_take]; simp; omega
    · rw [List.length_append, List.length_take, List.length_drop]; simp; omega
    · unfold lawText; rw [if_pos (of_decide_eq_true h)]; rfl
  · refine go_next ?_
    have e : lawText row = t5 row := by unfold lawText; rw [if_neg (of_decide_eq_false h)]
    rw [e] at hn
    exact hn
  exact go_ret (ee_var rfl) hrt
end

/-! ### the law -/
def R_law : List D → D → Prop := fun ds r => ∃ ns : List Int, ds = [.lst (ns.map .int)] ∧ ns.length ≤ 63 ∧ r = .bl true
section
variable {P : Program} {w : World} {K : PySem.W.Frag} {mg : Str → Option Value} {base : Heap} {f : Addr} {fd : FuncData}
theorem ok_law (F : Fun K "law" "law" s_law f fd) (T : Txt mg)
    (C__law_cell : Cal P w K mg base "_law_cell" 1 ["script", "k"] (spR K R_cell)) (C__law_row : Cal P w K mg base "_law_row" 1 ["cell", "many"] (spR K R_row)) (C__law_text : Cal P w K mg base "_law_text" 2 ["row"] (spR K R_text))
    (C_is_name : Cal P w K mg base "is_name" 2 ["text"] (spR K R_name)) (C_is_label : Cal P w K mg base "is_label" 3 ["text"] (spR K R_label)) (C_is_number : Cal P w K mg base "is_number" 2 ["text"] (spR K R_number))
    (C__law_is_name : Cal P w K mg base "_law_is_name" 1 ["own_text"] (spR K R_lname)) (C__law_is_label : Cal P w K mg base "_law_is_label" 2 ["own_text"] (spR K R_llabel)) (C__law_is_number : Cal P w K mg base "_law_is_number" 1 ["own_text"] (spR K R_lnumber))
    (C__law_told : Cal P w K mg base "_law_told" 1 ["actual", "expected"] (spR K R_told)) : FnOk P w K mg base CX0 4 f fd ["script"] (spR K R_law) := by
  refine ok_def F sc_law (fun ds r h => by obtain ⟨ns, rfl, _⟩ := h; rfl) (fun cdv A outer s H E hr => ⟨_, (pss_cons (ps_for PassesOwn.never rfl (pi_range1 (by rfl) T.n_range (pa_cons (pe_callB (call_min2 rfl) (by rfl) T.n_min (by decide +kernel) (pa_cons pe_int (pa_cons (pe_callB (call_max2 rfl) (by rfl) T.n_max (by decide +kernel) (pa_cons pe_int (pa_cons (pe_callB (k_call_len K) (by rfl) T.n_len (by decide +kernel) (pa_cons (pv 0) pa_nil)) pa_nil))) pa_nil))) pa_nil)) (pg_name (i := 1) sc_law.nd rfl (Or.inl rfl))
    (pss_cons (ps_set (i := 2) sc_law.nd rfl (Or.inl rfl) (pe_cal (C__law_row.mono (by decide)) hr (by rfl) (pa_cons (pe_cal (C__law_cell.mono (by decide)) hr (by rfl) (pa_cons (pv 0) (pa_cons (pv 1) pa_nil))) (pa_cons pe_int pa_nil))))
    (pss_one (ps_for PassesOwn.never rfl (k_pi_list K (pe_lst (pa_cons (pe_cal (C__law_text.mono (by decide)) hr (by rfl) (pa_cons (pe_slice (k_sl_list K) (pv 2) po_none (po_some pe_int)) pa_nil)) (pa_cons (pe_cal (C__law_text.mono (by decide)) hr (by rfl) (pa_cons (pe_slice (k_sl_list K) (pv 2) (po_some pe_int) po_none) pa_nil)) pa_nil)))) (pg_name (i := 3) sc_law.nd rfl (Or.inl rfl))
    (pss_cons (ps_set (i := 4) sc_law.nd rfl (Or.inl rfl) (pe_lst (pa_cons (pe_cal (C_is_name.mono (by decide)) hr (by rfl) (pa_cons (pv 3) pa_nil)) (pa_cons (pe_cal (C_is_label.mono (by decide)) hr (by rfl) (pa_cons (pv 3) pa_nil)) (pa_cons (pe_cal (C_is_number.mono (by decide)) hr (by rfl) (pa_cons (pv 3) pa_nil)) pa_nil)))))
    (pss_cons (ps_set (i := 5) sc_law.nd rfl (Or.inl rfl) (pe_lst (pa_cons (pe_calK (C_is_name.mono (by decide)) hr (by rfl) (pk_cons (pv 3) pk_nil)) (pa_cons (pe_calK (C_is_label.mono (by decide)) hr (by rfl) (pk_cons (pv 3) pk_nil)) (pa_cons (pe_calK (C_is_number.mono (by decide)) hr (by rfl) (pk_cons (pv 3) pk_nil)) pa_nil)))))
    (pss_cons (ps_set (i := 6) sc_law.nd rfl (Or.inl rfl) (pe_lst (pa_cons (pe_cal (C__law_is_name.mono (by decide)) hr (by rfl) (pa_cons (pv 3) pa_nil)) (pa_cons (pe_cal (C__law_is_label.mono (by decide)) hr (by rfl) (pa_cons (pv 3) pa_nil)) (pa_cons (pe_cal (C__law_is_number.mono (by decide)) hr (by rfl) (pa_cons (pv 3) pa_nil)) pa_nil)))))
    (pss_one (ps_for PassesOwn.never rfl (pi_range1 (by rfl) T.n_range (pa_cons pe_int pa_nil)) (pg_name (i := 7) sc_law.nd rfl (Or.inl rfl))
    (pss_one (ps_if (PW.pt (pw_or (pt_not (pt_val (pe_cal (C__law_told.mono (by decide)) hr (by rfl) (pa_cons (pe_ix (k_ix_list K) (pv 4) (pv 7) (fun _ _ => rfl)) (pa_cons (pe_ix (k_ix_list K) (pv 6) (pv 7) (fun _ _ => rfl)) pa_nil))))) (pw_or1 (pt_not (pt_val (pe_cal (C__law_told.mono (by decide)) hr (by rfl) (pa_cons (pe_ix (k_ix_list K) (pv 5) (pv 7) (fun _ _ => rfl)) (pa_cons (pe_ix (k_ix_list K) (pv 6) (pv 7) (fun _ _ => rfl)) pa_nil)))))))) (pss_one (ps_ret pe_bl)) pss_nil)))))))))))
    (pss_one (ps_ret pe_bl))), fun ds r h H0 H1 E' hrt => ?_⟩)
  obtain ⟨ns, rfl, hl, rfl⟩ := h
  refine q_range (n := min 63 (max 1 ((ns.length : Nat) : Int))) (min 63 (max 1 ns.length)) (fun _ => [.val (.lst (ns.map .int)), .no, .no, .no, .no, .no, .no, .no]) (EvE.is (ee_min2 ee_int (ee_max2 ee_int (ee_lenL (ee_var rfl)))) (by rw [List.length_map])) (by omega) (by omega) (Sub.refl _) (fun k hk G0 E2 hr2 hb2 hn hc => ?_) ?_
  · refine q_asg (d := .lst ((lawRow (ns.getD k 0) 90).map .int)) (ee_call (ea_cons (ee_call (ea_cons (ee_var rfl) (ea_cons (ee_var rfl) ea_nil)) ⟨ns, k, rfl, rfl⟩) (ea_cons ee_int ea_nil)) ⟨ns.getD k 0, 90, rfl, by decide, rfl⟩) ?_
    have rl := row_len (ns.getD k 0) 90
    generalize lawRow (ns.getD k 0) 90 = row at rl ⊢
    refine go_for1 (rep := stx) (xs := [lawText (row.take 45), lawText (row.drop 45)]) (fun _ => [.val (.lst (ns.map .int)), .no, .val (.lst (row.map .int)), .no, .no, .no, .no, .no]) (ei_list (en_lst (ea_cons (ee_call (ea_cons (d := .lst ((row.take 45).map .int)) (EvE.is (en_slL (ee_var rfl) eo_none (eo_some ee_int)).ee (by rw [cutD_map]; exact congrArg (fun z => D.lst (List.map D.int z)) (cut_to row 45))) ea_nil) ⟨row.take 45, rfl, by simp; omega, rfl⟩) (ea_cons (ee_call (ea_cons (d := .lst ((row.drop 45).map .int)) (EvE.is (en_slL (ee_var rfl) (eo_some ee_int) eo_none).ee (by rw [cutD_map]; exact congrArg (fun z => D.lst (List.map D.int z)) (cut_from row 45))) ea_nil) ⟨row.drop 45, rfl, by simp; omega, rfl⟩) ea_nil)) (by simp)).ee) (by walk_at "sub") (fun i x hx G1 E3 hr3 hb3 hn3 hc3 => ?_) (nx_sub (by walk_at "sub") hn)
    have hx2 : x.length ≤ 50 := by
      have := List.mem_of_getElem? hx
      simp only [List.mem_cons, List.not_mem_nil, or_false] at this
      rcases this with e | e <;> (rw [e]; exact text_len _)
    refine q_asg (d := .lst ([isName x, isLabel x, isNumber x].map .bl)) (en_lst (ea_cons (ee_call (ea_cons (ee_var rfl) ea_nil) ⟨x, rfl, by omega, rfl⟩) (ea_cons (ee_call (ea_cons (ee_var rfl) ea_nil) ⟨x, rfl, by omega, rfl⟩) (ea_cons (ee_call (ea_cons (ee_var rfl) ea_nil) ⟨x, rfl, by omega, rfl⟩) ea_nil))) (by simp)).ee ?_
    refine q_asg (d := .lst ([isName x, isLabel x, isNumber x].map .bl)) (en_lst (ea_cons (ee_call (ea_cons (ee_var rfl) ea_nil) ⟨x, rfl, by omega, rfl⟩) (ea_cons (ee_call (ea_cons (ee_var rfl) ea_nil) ⟨x, rfl, by omega, rfl⟩) (ea_cons (ee_call (ea_cons (ee_var rfl) ea_nil) ⟨x, rfl, by omega, rfl⟩) ea_nil))) (by simp)).ee ?_
    refine q_asg (d := .lst ([isName x, isLabel x, isNumber x].map .bl)) (EvE.is (en_lst (ea_cons (ee_call (ea_cons (ee_var rfl) ea_nil) ⟨x, rfl, by omega, rfl⟩) (ea_cons (ee_call (ea_cons (ee_var rfl) ea_nil) ⟨x, rfl, by omega, rfl⟩) (ea_cons (ee_call (ea_cons (ee_var rfl) ea_nil) ⟨x, rfl, by omega, rfl⟩) ea_nil))) (by simp)).ee (by rw [label_eq, number_eq]; rfl)) ?_
    refine go_range 3 (fun _ => [.val (.lst (ns.map .int)), .no, .val (.lst (row.map .int)), .no, .val (.lst ([isName x, isLabel x, isNumber x].map .bl)), .val (.lst ([isName x, isLabel x, isNumber x].map .bl)), .val (.lst ([isName x, isLabel x, isNumber x].map .bl)), .no]) ee_int rfl (by omega) (by walk_at "sub") (fun p hp G2 E4 hr4 hb4 hn4 hc4 => ?_) (nx_sub (by walk_at "sub") hn3)
    have g : [isName x, isLabel x, isNumber x][p]? = some ([isName x, isLabel x, isNumber x].getD p true) := get_getD hp
    generalize [isName x, isLabel x, isNumber x].getD p true = v at g
    have tv : ∀ (j : Nat) (env : List Slot), env[j]? = some (.val (.lst ([isName x, isLabel x, isNumber x].map .bl))) → env[6]? = some (.val (.lst ([isName x, isLabel x, isNumber x].map .bl))) → env[7]? = some (.val (.int (p : Int))) →
        EvT K (tNot (tB (tCall (spR K R_told) [] E0 (tCons (tOp (rIxL K) (tVar j) (tVar 7)) (tCons (tOp (rIxL K) (tVar 6) (tVar 7)) tNil))))) env false := fun j env h1 h2 h3 =>
      EvT.is (et_not (b := true) (et_B (EvE.is (ee_call (ea_cons (ee_ixL (ee_var h1) (ee_var h3) (atI_map g)) (ea_cons (ee_ixL (ee_var h2) (ee_var h3) (atI_map g)) ea_nil)) ⟨v, v, rfl, rfl⟩) (by simp)))) rfl
    refine go_if (b := false) (EvT.is (et_or (tv 4 _ rfl rfl rfl) (fun _ => tv 5 _ rfl rfl rfl)) rfl) (fun h => by cases h) (fun _ => go_next (nx_sub (by walk_at "sub") hn4))
  · exact go_ret ee_bl hrt
end

theorem all_mk {l : PySem.W.OpenLaw} {w : World} {K : PySem.W.Frag} {h : Heap} {mg : Str → Option Value} {fa : Addr} {f0 f1 f2 f3 f4 f5 f6 f7 f8 f9 f10 f11 f12 : Addr} (X : K.In h) (G : h.Ns mainGlobals mg) (hfa : mg "law" = some (.ref fa))
    {od0 an0 od1 an1 od2 an2 od3 an3 od4 an4 od5 an5 od6 an6 od7 an7 od8 an8 od9 an9 od10 an10 od11 an11 od12 an12 : Option Addr} {sl0 sl1 sl2 sl3 sl4 sl5 sl6 sl7 sl8 sl9 sl10 sl11 sl12 : Array (Option Value)} {oc0 kV0 dc0 pm0 cd0 ct0 oc1 kV1 dc1 pm1 cd1 ct1 oc2 kV2 dc2 pm2 cd2 ct2 oc3 kV3 dc3 pm3 cd3 ct3 oc4 kV4 dc4 pm4 cd4 ct4 oc5 kV5 dc5 pm5 cd5 ct5 oc6 kV6 dc6 pm6 cd6 ct6 oc7 kV7 dc7 pm7 cd7 ct7 oc8 kV8 dc8 pm8 cd8 ct8 oc9 kV9 dc9 pm9 cd9 ct9 oc10 kV10 dc10 pm10 cd10 ct10 oc11 kV11 dc11 pm11 cd11 ct11 oc12 kV12 dc12 pm12 cd12 ct12 : Value}
    {t_LETTERS t_DIGITS t_LONGEST_NAME : Tok}
    (a0 : PySem.W.nsIn K mainGlobals "_law_cell" = some (some (.ref f0))) (l0 : K.lookup f0 = some ⟨oc0, od0, .func (PySem.W.fnOf "_law_cell" "_law_cell" (defArgs s__law_cell) (defBody s__law_cell) (defScope s__law_cell) .none kV0 dc0 pm0 an0 cd0 ct0), sl0⟩) (c0 : PySem.W.codeIn K cd0 "_law_cell" = true) (k0 : PySem.W.keepIn K (.ref f0) = true)
    (a1 : PySem.W.nsIn K mainGlobals "_law_row" = some (some (.ref f1))) (l1 : K.lookup f1 = some ⟨oc1, od1, .func (PySem.W.fnOf "_law_row" "_law_row" (defArgs s__law_row) (defBody s__law_row) (defScope s__law_row) .none kV1 dc1 pm1 an1 cd1 ct1), sl1⟩) (c1 : PySem.W.codeIn K cd1 "_law_row" = true) (k1 : PySem.W.keepIn K (.ref f1) = true)
    (a2 : PySem.W.nsIn K mainGlobals "_consists_of" = some (some (.ref f2))) (l2 : K.lookup f2 = some ⟨oc2, od2, .func (PySem.W.fnOf "_consists_of" "_consists_of" (defArgs s__consists_of) (defBody s__consists_of) (defScope s__consists_of) .none kV2 dc2 pm2 an2 cd2 ct2), sl2⟩) (c2 : PySem.W.codeIn K cd2 "_consists_of" = true) (k2 : PySem.W.keepIn K (.ref f2) = true)
    (a3 : PySem.W.nsIn K mainGlobals "is_name" = some (some (.ref f3))) (l3 : K.lookup f3 = some ⟨oc3, od3, .func (PySem.W.fnOf "is_name" "is_name" (defArgs s_is_name) (defBody s_is_name) (defScope s_is_name) .none kV3 dc3 pm3 an3 cd3 ct3), sl3⟩) (c3 : PySem.W.codeIn K cd3 "is_name" = true) (k3 : PySem.W.keepIn K (.ref f3) = true)
    (a4 : PySem.W.nsIn K mainGlobals "is_number" = some (some (.ref f4))) (l4 : K.lookup f4 = some ⟨oc4, od4, .func (PySem.W.fnOf "is_number" "is_number" (defArgs s_is_number) (defBody s_is_number) (defScope s_is_number) .none kV4 dc4 pm4 an4 cd4 ct4), sl4⟩) (c4 : PySem.W.codeIn K cd4 "is_number" = true) (k4 : PySem.W.keepIn K (.ref f4) = true)
    (a5 : PySem.W.nsIn K mainGlobals "is_label" = some (some (.ref f5))) (l5 : K.lookup f5 = some ⟨oc5, od5, .func (PySem.W.fnOf "is_label" "is_label" (defArgs s_is_label) (defBody s_is_label) (defScope s_is_label) .none kV5 dc5 pm5 an5 cd5 ct5), sl5⟩) (c5 : PySem.W.codeIn K cd5 "is_label" = true) (k5 : PySem.W.keepIn K (.ref f5) = true)
    (a6 : PySem.W.nsIn K mainGlobals "_law_is_name" = some (some (.ref f6))) (l6 : K.lookup f6 = some ⟨oc6, od6, .func (PySem.W.fnOf "_law_is_name" "_law_is_name" (defArgs s__law_is_name) (defBody s__law_is_name) (defScope s__law_is_name) .none kV6 dc6 pm6 an6 cd6 ct6), sl6⟩) (c6 : PySem.W.codeIn K cd6 "_law_is_name" = true) (k6 : PySem.W.keepIn K (.ref f6) = true)
    (a7 : PySem.W.nsIn K mainGlobals "_law_is_number" = some (some (.ref f7))) (l7 : K.lookup f7 = some ⟨oc7, od7, .func (PySem.W.fnOf "_law_is_number" "_law_is_number" (defArgs s__law_is_number) (defBody s__law_is_number) (defScope s__law_is_number) .none kV7 dc7 pm7 an7 cd7 ct7), sl7⟩) (c7 : PySem.W.codeIn K cd7 "_law_is_number" = true) (k7 : PySem.W.keepIn K (.ref f7) = true)
    (a8 : PySem.W.nsIn K mainGlobals "_law_is_label" = some (some (.ref f8))) (l8 : K.lookup f8 = some ⟨oc8, od8, .func (PySem.W.fnOf "_law_is_label" "_law_is_label" (defArgs s__law_is_label) (defBody s__law_is_label) (defScope s__law_is_label) .none kV8 dc8 pm8 an8 cd8 ct8), sl8⟩) (c8 : PySem.W.codeIn K cd8 "_law_is_label" = true) (k8 : PySem.W.keepIn K (.ref f8) = true)
    (a9 : PySem.W.nsIn K mainGlobals "_law_told" = some (some (.ref f9))) (l9 : K.lookup f9 = some ⟨oc9, od9, .func (PySem.W.fnOf "_law_told" "_law_told" (defArgs s__law_told) (defBody s__law_told) (defScope s__law_told) .none kV9 dc9 pm9 an9 cd9 ct9), sl9⟩) (c9 : PySem.W.codeIn K cd9 "_law_told" = true) (k9 : PySem.W.keepIn K (.ref f9) = true)
    (a10 : PySem.W.nsIn K mainGlobals "_law_chars" = some (some (.ref f10))) (l10 : K.lookup f10 = some ⟨oc10, od10, .func (PySem.W.fnOf "_law_chars" "_law_chars" (defArgs s__law_chars) (defBody s__law_chars) (defScope s__law_chars) .none kV10 dc10 pm10 an10 cd10 ct10), sl10⟩) (c10 : PySem.W.codeIn K cd10 "_law_chars" = true) (k10 : PySem.W.keepIn K (.ref f10) = true)
    (a11 : PySem.W.nsIn K mainGlobals "_law_text" = some (some (.ref f11))) (l11 : K.lookup f11 = some ⟨oc11, od11, .func (PySem.W.fnOf "_law_text" "_law_text" (defArgs s__law_text) (defBody s__law_text) (defScope s__law_text) .none kV11 dc11 pm11 an11 cd11 ct11), sl11⟩) (c11 : PySem.W.codeIn K cd11 "_law_text" = true) (k11 : PySem.W.keepIn K (.ref f11) = true)
    (a12 : PySem.W.nsIn K mainGlobals "law" = some (some (.ref f12))) (l12 : K.lookup f12 = some ⟨oc12, od12, .func (PySem.W.fnOf "law" "law" (defArgs s_law) (defBody s_law) (defScope s_law) .none kV12 dc12 pm12 an12 cd12 ct12), sl12⟩) (c12 : PySem.W.codeIn K cd12 "law" = true) (k12 : PySem.W.keepIn K (.ref f12) = true)
    (z_LETTERS : PySem.W.nsIn K mainGlobals "LETTERS" = some (some (Value.str (Str.ofString "abcdefghijklmnopqrstuvwxyz") t_LETTERS)))
    (z_DIGITS : PySem.W.nsIn K mainGlobals "DIGITS" = some (some (Value.str (Str.ofString "0123456789") t_DIGITS)))
    (z_LONGEST_NAME : PySem.W.nsIn K mainGlobals "LONGEST_NAME" = some (some (Value.int 12 t_LONGEST_NAME)))
    (n_len : PySem.W.nsIn K mainGlobals "len" = some none)
    (n_int : PySem.W.nsIn K mainGlobals "int" = some none)
    (n_range : PySem.W.nsIn K mainGlobals "range" = some none)
    (n_min : PySem.W.nsIn K mainGlobals "min" = some none)
    (n_max : PySem.W.nsIn K mainGlobals "max" = some none)
    (n_all : PySem.W.nsIn K mainGlobals "all" = some none)
    (n_isinstance : PySem.W.nsIn K mainGlobals "isinstance" = some none)
    (n_bool : PySem.W.nsIn K mainGlobals "bool" = some none)
    : ∃ fd : FuncData, (∀ (s : Shared) (v : Value), BindsTo s fd ⟨[v], []⟩ [("script", v)]) ∧ ∀ base : Heap, K.In base → base.Ns mainGlobals mg → FnOk l.prog w K mg base CX0 4 fa fd ["script"] (spR K R_law) := by
  have e := hfa.symm.trans (PySem.W.mg_of X G a12)
  cases e
  have T : Txt mg := ⟨PySem.W.mg_none_of X G n_len, PySem.W.mg_none_of X G n_int, PySem.W.mg_none_of X G n_range, PySem.W.mg_none_of X G n_min, PySem.W.mg_none_of X G n_max, PySem.W.mg_none_of X G n_all, PySem.W.mg_none_of X G n_isinstance, PySem.W.mg_none_of X G n_bool⟩
  have c_LETTERS := PySem.W.mg_of X G z_LETTERS
  have c_DIGITS := PySem.W.mg_of X G z_DIGITS
  have c_LONGEST_NAME := PySem.W.mg_of X G z_LONGEST_NAME
  refine ⟨PySem.W.fnOf "law" "law" (defArgs s_law) (defBody s_law) (defScope s_law) .none kV12 dc12 pm12 an12 cd12 ct12, fun s v => .of_eq rfl, fun base _ _ => ?_⟩
  have C__law_cell : Cal l.prog w K mg base "_law_cell" 1 ["script", "k"] (spR K R_cell) := Cal.mk' (fun_mk (st := s__law_cell) l0 c0 k0) (PySem.W.mg_of X G a0) (ok__law_cell (fun_mk (st := s__law_cell) l0 c0 k0) T) (fun _ _ _ _ _ _ us hl => match us, hl with | [_, _], _ => rfl) (fun _ _ _ _ _ _ us hl => match us, hl with | [_, _], _ => rfl)
  have C__law_row : Cal l.prog w K mg base "_law_row" 1 ["cell", "many"] (spR K R_row) := Cal.mk' (fun_mk (st := s__law_row) l1 c1 k1) (PySem.W.mg_of X G a1) (ok__law_row (fun_mk (st := s__law_row) l1 c1 k1) T) (fun _ _ _ _ _ _ us hl => match us, hl with | [_, _], _ => rfl) (fun _ _ _ _ _ _ us hl => match us, hl with | [_, _], _ => rfl)
  have C__consists_of : Cal l.prog w K mg base "_consists_of" 1 ["text", "letters"] (spR K R_cons) := Cal.mk' (fun_mk (st := s__consists_of) l2 c2 k2) (PySem.W.mg_of X G a2) (ok__consists_of (fun_mk (st := s__consists_of) l2 c2 k2) T) (fun _ _ _ _ _ _ us hl => match us, hl with | [_, _], _ => rfl) (fun _ _ _ _ _ _ us hl => match us, hl with | [_, _], _ => rfl)
  have C_is_name : Cal l.prog w K mg base "is_name" 2 ["text"] (spR K R_name) := Cal.mk' (fun_mk (st := s_is_name) l3 c3 k3) (PySem.W.mg_of X G a3) (ok_is_name (fun_mk (st := s_is_name) l3 c3 k3) T c_LETTERS c_LONGEST_NAME C__consists_of) (fun _ _ _ _ _ _ us hl => match us, hl with | [_], _ => rfl) (fun _ _ _ _ _ _ us hl => match us, hl with | [_], _ => rfl)
  have C_is_number : Cal l.prog w K mg base "is_number" 2 ["text"] (spR K R_number) := Cal.mk' (fun_mk (st := s_is_number) l4 c4 k4) (PySem.W.mg_of X G a4) (ok_is_number (fun_mk (st := s_is_number) l4 c4 k4) T c_DIGITS C__consists_of) (fun _ _ _ _ _ _ us hl => match us, hl with | [_], _ => rfl) (fun _ _ _ _ _ _ us hl => match us, hl with | [_], _ => rfl)
  have C_is_label : Cal l.prog w K mg base "is_label" 3 ["text"] (spR K R_label) := Cal.mk' (fun_mk (st := s_is_label) l5 c5 k5) (PySem.W.mg_of X G a5) (ok_is_label (fun_mk (st := s_is_label) l5 c5 k5) T C_is_name) (fun _ _ _ _ _ _ us hl => match us, hl with | [_], _ => rfl) (fun _ _ _ _ _ _ us hl => match us, hl with | [_], _ => rfl)
  have C__law_is_name : Cal l.prog w K mg base "_law_is_name" 1 ["own_text"] (spR K R_lname) := Cal.mk' (fun_mk (st := s__law_is_name) l6 c6 k6) (PySem.W.mg_of X G a6) (ok__law_is_name (fun_mk (st := s__law_is_name) l6 c6 k6) T) (fun _ _ _ _ _ _ us hl => match us, hl with | [_], _ => rfl) (fun _ _ _ _ _ _ us hl => match us, hl with | [_], _ => rfl)
  have C__law_is_number : Cal l.prog w K mg base "_law_is_number" 1 ["own_text"] (spR K R_lnumber) := Cal.mk' (fun_mk (st := s__law_is_number) l7 c7 k7) (PySem.W.mg_of X G a7) (ok__law_is_number (fun_mk (st := s__law_is_number) l7 c7 k7) T) (fun _ _ _ _ _ _ us hl => match us, hl with | [_], _ => rfl) (fun _ _ _ _ _ _ us hl => match us, hl with | [_], _ => rfl)
  have C__law_is_label : Cal l.prog w K mg base "_law_is_label" 2 ["own_text"] (spR K R_llabel) := Cal.mk' (fun_mk (st := s__law_is_label) l8 c8 k8) (PySem.W.mg_of X G a8) (ok__law_is_label (fun_mk (st := s__law_is_label) l8 c8 k8) T C__law_is_name) (fun _ _ _ _ _ _ us hl => match us, hl with | [_], _ => rfl) (fun _ _ _ _ _ _ us hl => match us, hl with | [_], _ => rfl)
  have C__law_told : Cal l.prog w K mg base "_law_told" 1 ["actual", "expected"] (spR K R_told) := Cal.mk' (fun_mk (st := s__law_told) l9 c9 k9) (PySem.W.mg_of X G a9) (ok__law_told (fun_mk (st := s__law_told) l9 c9 k9) T) (fun _ _ _ _ _ _ us hl => match us, hl with | [_, _], _ => rfl) (fun _ _ _ _ _ _ us hl => match us, hl with | [_, _], _ => rfl)
  have C__law_chars : Cal l.prog w K mg base "_law_chars" 1 ["menu", "numbers", "size"] (spR K R_chars) := Cal.mk' (fun_mk (st := s__law_chars) l10 c10 k10) (PySem.W.mg_of X G a10) (ok__law_chars (fun_mk (st := s__law_chars) l10 c10 k10) T) (fun _ _ _ _ _ _ us hl => match us, hl with | [_, _, _], _ => rfl) (fun _ _ _ _ _ _ us hl => match us, hl with | [_, _, _], _ => rfl)
  have C__law_text : Cal l.prog w K mg base "_law_text" 2 ["row"] (spR K R_text) := Cal.mk' (fun_mk (st := s__law_text) l11 c11 k11) (PySem.W.mg_of X G a11) (ok__law_text (fun_mk (st := s__law_text) l11 c11 k11) T C__law_chars) (fun _ _ _ _ _ _ us hl => match us, hl with | [_], _ => rfl) (fun _ _ _ _ _ _ us hl => match us, hl with | [_], _ => rfl)
  exact ok_law (fun_mk (st := s_law) l12 c12 k12) T C__law_cell C__law_row C__law_text C_is_name C_is_label C_is_number C__law_is_name C__law_is_label C__law_is_number C__law_told
end K00
open PySem PySem.W PyProof.Rows
set_option maxRecDepth 100000 in
set_option maxHeartbeats 0 in
theorem PySem.Challenge.cw_playhall_k00_names_and_numbers_holds : PySem.Challenge.rw_playhall_k00_names_and_numbers.Holds := by
  w_on; o_law; k_head; (case hw => w_witness2)
  k_fill
  refine L2.walk_of (l := PySem.Challenge.rw_playhall_k00_names_and_numbers) (n := 63) (k := 4) (x := "script") (CX := fun _ => L2.CX0) (sp := fun w => Z.spR _ K00.R_law) rfl (by decide) rfl ⟨rfl, by decide, by decide⟩ (fun w h Y => PySem.W.kIn_of Y) ?F (fun _ _ a ns hl _ hS => Z.law_start hS ⟨ns, rfl, hl, rfl⟩) (fun _ _ _ _ _ h => h)
  case F =>
    intro w mg fa h KX G hmg
    refine' K00.all_mk KX G hmg ?a0 ?l0 ?c0 ?k0 ?a1 ?l1 ?c1 ?k1 ?a2 ?l2 ?c2 ?k2 ?a3 ?l3 ?c3 ?k3 ?a4 ?l4 ?c4 ?k4 ?a5 ?l5 ?c5 ?k5 ?a6 ?l6 ?c6 ?k6 ?a7 ?l7 ?c7 ?k7 ?a8 ?l8 ?c8 ?k8 ?a9 ?l9 ?c9 ?k9 ?a10 ?l10 ?c10 ?k10 ?a11 ?l11 ?c11 ?k11 ?a12 ?l12 ?c12 ?k12 ?z_LETTERS ?z_DIGITS ?z_LONGEST_NAME ?n_len ?n_int ?n_range ?n_min ?n_max ?n_all ?n_isinstance ?n_bool
    (case a0 => k_is); (case l0 => k_is); (case c0 => k_is); (case k0 => k_is); (case a1 => k_is); (case l1 => k_is); (case c1 => k_is); (case k1 => k_is); (case a2 => k_is); (case l2 => k_is); (case c2 => k_is); (case k2 => k_is); (case a3 => k_is); (case l3 => k_is); (case c3 => k_is); (case k3 => k_is); (case a4 => k_is); (case l4 => k_is); (case c4 => k_is); (case k4 => k_is); (case a5 => k_is); (case l5 => k_is); (case c5 => k_is); (case k5 => k_is); (case a6 => k_is); (case l6 => k_is); (case c6 => k_is); (case k6 => k_is); (case a7 => k_is); (case l7 => k_is); (case c7 => k_is); (case k7 => k_is); (case a8 => k_is); (case l8 => k_is); (case c8 => k_is); (case k8 => k_is); (case a9 => k_is); (case l9 => k_is); (case c9 => k_is); (case k9 => k_is); (case a10 => k_is); (case l10 => k_is); (case c10 => k_is); (case k10 => k_is); (case a11 => k_is); (case l11 => k_is); (case c11 => k_is); (case k11 => k_is); (case a12 => k_is); (case l12 => k_is); (case c12 => k_is); (case k12 => k_is); (case z_LETTERS => k_is); (case z_DIGITS => k_is); (case z_LONGEST_NAME => k_is); (case n_len => k_is); (case n_int => k_is); (case n_range => k_is); (case n_min => k_is); (case n_max => k_is); (case n_all => k_is); (case n_isinstance => k_is); (case n_bool => k_is)
