import PyProof.Rows.All
import Wide.All
import OpenK.AllK
import Wide.FinOn
import HandS.ForMost
import HandS.Flow
import HandS.Evl
import HandS.Walk
import HandS.IsInst
import HandS.Codes
import HandS.Conv
import HandS.Defaults
import HandS.NoneIn
import HandS.StrMore
import HandS.Gcd
import HandS.Star
import HandS.Wide
import HandS.WideBits
import PySem.Challenge.RW_playhall_k35_balance_of_a_matrix
set_option Elab.async false
set_option linter.all false
set_option maxRecDepth 100000
set_option maxHeartbeats 4000000
set_option exponentiation.threshold 20000
namespace Z
open PySem L2
/-! ### data -/
inductive D where
  | non | bl (b : Bool) | int (i : Int) | str (s : Str) | lst (xs : List D) | tup (xs : List D)
  | ins (C : Addr) (ns : List Str) (xs : List D) | dic (ks : List Key) (xs : List D) | v (x : V)
mutual
def Rep (K : PySem.W.Frag) (H : Hp) : D → V → Prop
  | .non, x => x = .non
  | .bl b, x => x = .bl b
  | .int i, x => x = .int i
  | .str s, x => x = .str s
  | .v y, x => x = y
  | .lst ds, x => ∃ a vs, x = .ref a ∧ SqL K H a vs ∧ Reps K H ds vs
  | .tup ds, x => ∃ a vs, x = .ref a ∧ SqT K H a vs ∧ Reps K H ds vs
  | .ins C ns ds, x => ∃ a dx vs, x = .ref a ∧ H a = some (.ins C dx (ns.zip vs)) ∧ ns.length = ds.length ∧ Reps K H ds vs
  | .dic ks ds, x => ∃ a vs, x = .ref a ∧ Rd H a (.dK (ks.zip vs)) ∧ ks.length = ds.length ∧ Reps K H ds vs
def Reps (K : PySem.W.Frag) (H : Hp) : List D → List V → Prop
  | [], vs => vs = []
  | d :: ds, vs => ∃ x ws, vs = x :: ws ∧ Rep K H d x ∧ Reps K H ds ws
end
section
variable {K : PySem.W.Frag} {H H' : Hp}
theorem rd_mono {a : Addr} {u : HO} (e : Same H H') (h : Rd H a u) : Rd H' a u := by
  rcases h with h | ⟨o, h⟩
  · exact .inl (e _ _ h)
  · exact .inr ⟨o, e _ _ h⟩
theorem sqt_mono {a : Addr} {xs : List V} (e : Same H H') (h : SqT K H a xs) : SqT K H' a xs := by
  rcases h with h | h
  · exact .inl (rd_mono e h)
  · exact .inr h
mutual
theorem Rep.mono (e : Same H H') : ∀ {d : D} {x : V}, Rep K H d x → Rep K H' d x
  | .non, _, h => by simpa [Rep] using h
  | .bl _, _, h => by simpa [Rep] using h
  | .int _, _, h => by simpa [Rep] using h
  | .str _, _, h => by simpa [Rep] using h
  | .v _, _, h => by simpa [Rep] using h
  | .lst ds, _, h => by
    unfold Rep at h ⊢
    obtain ⟨a, vs, h1, h2, h3⟩ := h
    exact ⟨a, vs, h1, e.seq h2, Reps.mono e h3⟩
  | .tup ds, _, h => by
    unfold Rep at h ⊢
    obtain ⟨a, vs, h1, h2, h3⟩ := h
    exact ⟨a, vs, h1, sqt_mono e h2, Reps.mono e h3⟩
  | .ins C ns ds, _, h => by
    unfold Rep at h ⊢
    obtain ⟨a, dx, vs, h1, h2, h4, h3⟩ := h
    exact ⟨a, dx, vs, h1, e _ _ h2, h4, Reps.mono e h3⟩
  | .dic ks ds, _, h => by
    unfold Rep at h ⊢
    obtain ⟨a, vs, h1, h2, h4, h3⟩ := h
    exact ⟨a, vs, h1, rd_mono e h2, h4, Reps.mono e h3⟩
theorem Reps.mono (e : Same H H') : ∀ {ds : List D} {vs : List V}, Reps K H ds vs → Reps K H' ds vs
  | [], _, h => by simpa [Reps] using h
  | d :: ds, _, h => by
    unfold Reps at h ⊢
    obtain ⟨x, ws, h1, h2, h3⟩ := h
    exact ⟨x, ws, h1, Rep.mono e h2, Reps.mono e h3⟩
end
theorem Reps.len : ∀ {ds : List D} {vs : List V}, Reps K H ds vs → vs.length = ds.length
  | [], _, h => by unfold Reps at h; subst h; rfl
  | d :: ds, _, h => by
    unfold Reps at h
    obtain ⟨x, ws, rfl, h2, h3⟩ := h
    simp [Reps.len h3]
theorem Reps.nil : Reps K H [] [] := by unfold Reps; rfl
theorem Reps.cons {d : D} {ds : List D} {x : V} {vs : List V} (h : Rep K H d x) (t : Reps K H ds vs) : Reps K H (d :: ds) (x :: vs) := by
  unfold Reps; exact ⟨x, vs, rfl, h, t⟩
theorem Reps.append : ∀ {ds es : List D} {vs ws : List V}, Reps K H ds vs → Reps K H es ws → Reps K H (ds ++ es) (vs ++ ws)
  | [], _, _, _, h, g => by unfold Reps at h; subst h; exact g
  | d :: ds, _, _, _, h, g => by
    unfold Reps at h
    obtain ⟨x, us, rfl, h2, h3⟩ := h
    exact Reps.cons h2 (Reps.append h3 g)
theorem Reps.get : ∀ {ds : List D} {vs : List V} {i : Nat} {d : D}, Reps K H ds vs → ds[i]? = some d → ∃ x, vs[i]? = some x ∧ Rep K H d x
  | [], _, _, _, _, e => by simp at e
  | d :: ds, _, 0, d', h, e => by
    unfold Reps at h
    obtain ⟨x, us, rfl, h2, h3⟩ := h
    simp at e; subst e
    exact ⟨x, rfl, h2⟩
  | d :: ds, _, i + 1, d', h, e => by
    unfold Reps at h
    obtain ⟨x, us, rfl, h2, h3⟩ := h
    simp at e
    obtain ⟨y, h4, h5⟩ := Reps.get h3 e
    exact ⟨y, by simpa using h4, h5⟩
theorem Reps.take : ∀ {ds : List D} {vs : List V} (n : Nat), Reps K H ds vs → Reps K H (ds.take n) (vs.take n)
  | [], _, n, h => by unfold Reps at h; subst h; simp; exact Reps.nil
  | d :: ds, _, 0, h => by simp; exact Reps.nil
  | d :: ds, _, n + 1, h => by
    unfold Reps at h
    obtain ⟨x, us, rfl, h2, h3⟩ := h
    exact Reps.cons h2 (Reps.take n h3)
theorem Reps.drop : ∀ {ds : List D} {vs : List V} (n : Nat), Reps K H ds vs → Reps K H (ds.drop n) (vs.drop n)
  | [], _, n, h => by unfold Reps at h; subst h; simp; exact Reps.nil
  | d :: ds, _, 0, h => h
  | d :: ds, _, n + 1, h => by
    unfold Reps at h
    obtain ⟨x, us, rfl, h2, h3⟩ := h
    exact Reps.drop n h3
theorem Reps.set {x : V} {d : D} (hx : Rep K H d x) : ∀ {ds : List D} {vs : List V} (n : Nat), Reps K H ds vs → Reps K H (ds.set n d) (vs.set n x)
  | [], _, n, h => by unfold Reps at h; subst h; simp; exact Reps.nil
  | e :: ds, _, 0, h => by
    unfold Reps at h
    obtain ⟨y, us, rfl, h2, h3⟩ := h
    exact Reps.cons hx h3
  | e :: ds, _, n + 1, h => by
    unfold Reps at h
    obtain ⟨y, us, rfl, h2, h3⟩ := h
    exact Reps.cons h2 (Reps.set hx n h3)
theorem Reps.rev : ∀ {ds : List D} {vs : List V}, Reps K H ds vs → Reps K H ds.reverse vs.reverse
  | [], _, h => by unfold Reps at h; subst h; exact Reps.nil
  | e :: ds, _, h => by
    unfold Reps at h
    obtain ⟨y, us, rfl, h2, h3⟩ := h
    rw [List.reverse_cons, List.reverse_cons]
    exact Reps.append (Reps.rev h3) (Reps.cons h2 Reps.nil)
/-- scalars: lists of V from lists of D -/
theorem Reps.ints : ∀ {ns : List Int} {vs : List V}, Reps K H (ns.map D.int) vs → vs = ns.map V.int
  | [], _, h => by simpa [Reps] using h
  | n :: ns, _, h => by
    unfold Reps at h
    obtain ⟨x, us, rfl, h2, h3⟩ := h
    unfold Rep at h2; subst h2
    simp [Reps.ints h3]
theorem Reps.strs : ∀ {ns : List Str} {vs : List V}, Reps K H (ns.map D.str) vs → vs = ns.map V.str
  | [], _, h => by simpa [Reps] using h
  | n :: ns, _, h => by
    unfold Reps at h
    obtain ⟨x, us, rfl, h2, h3⟩ := h
    unfold Rep at h2; subst h2
    simp [Reps.strs h3]
theorem Reps.bls : ∀ {ns : List Bool} {vs : List V}, Reps K H (ns.map D.bl) vs → vs = ns.map V.bl
  | [], _, h => by simpa [Reps] using h
  | n :: ns, _, h => by
    unfold Reps at h
    obtain ⟨x, us, rfl, h2, h3⟩ := h
    unfold Rep at h2; subst h2
    simp [Reps.bls h3]
theorem reps_ints (ns : List Int) : Reps K H (ns.map D.int) (ns.map V.int) := by
  induction ns with
  | nil => exact Reps.nil
  | cons n r ih => exact Reps.cons (by unfold Rep; rfl) ih
theorem reps_strs (ns : List Str) : Reps K H (ns.map D.str) (ns.map V.str) := by
  induction ns with
  | nil => exact Reps.nil
  | cons n r ih => exact Reps.cons (by unfold Rep; rfl) ih
end
/-! ### growth: base B and full heap F, from (H0, H1) -/
structure Gr (H0 H1 B F : Hp) : Prop where
  b : Same H0 B
  f : Same B F
  s : Same H1 F
  n : ∀ a, B a ≠ none → H0 a = none → H1 a = none
theorem Gr.refl {B F : Hp} (h : Same B F) : Gr B F B F := ⟨Same.refl _, h, Same.refl _, fun _ h1 h2 => absurd h2 h1⟩
theorem Gr.trans {H0 H1 B F B' F' : Hp} (a : Gr H0 H1 B F) (c : Gr B F B' F') : Gr H0 H1 B' F' :=
  ⟨a.b.trans c.b, c.f, a.s.trans c.s, fun x h1 h2 => by
    by_cases h : B x = none
    · exact a.s.free (c.n x h1 h)
    · exact a.n x h h2⟩
/-- a base may be widened to what stood before -/
def uni (A B : Hp) : Hp := fun a => match A a with | some o => some o | none => B a
theorem Gr.widen {H0 H1 B F H0' : Hp} (g : Gr H0 H1 B F) (h : Same H0 H0') (h1 : Same H0' H1) : ∃ B', Gr H0' H1 B' F ∧ Same B B' := by
  refine ⟨uni H0' B, ⟨fun a o e => by unfold uni; rw [e], fun a o e => ?_, g.s, fun a e1 e2 => ?_⟩, fun a o e => ?_⟩
  · unfold uni at e
    cases q : H0' a with
    | none => rw [q] at e; exact g.f _ _ e
    | some u => rw [q] at e; cases e; exact g.s _ _ (h1 _ _ q)
  · unfold uni at e1
    rw [e2] at e1
    exact g.n a e1 (h.free e2)
  · unfold uni
    cases q : H0' a with
    | none => exact e
    | some u =>
      have q1 := g.s _ _ (h1 _ _ q)
      have q2 := g.f _ _ e
      rw [q1] at q2
      exact q2
theorem free_base {B F : Hp} (h : Same B F) {p : Addr} (e : F p = none) : B p = none := h.free e
theorem same_new {B : Hp} {p : Addr} {o : HO} (e : B p = none) : Same B (upd B p o) := fun a u h => by
  rw [upd_ne (ne_of_none h e)]; exact h
theorem same_upd2 {B F : Hp} {p : Addr} {o : HO} (h : Same B F) (e : B p = none) : Same (upd B p o) (upd F p o) := fun a u q => by
  by_cases z : a = p
  · subst z; rw [upd_same] at q ⊢; exact q
  · rw [upd_ne z] at q ⊢; exact h _ _ q
theorem same_out {B F : Hp} {p : Addr} {o : HO} (h : Same B F) (e : B p = none) : Same B (upd F p o) := fun a u q => by
  rw [upd_ne (ne_of_none q e)]; exact h _ _ q
theorem Gr.new {B F : Hp} {p : Addr} {o : HO} (h : Same B F) (e : F p = none) : Gr B F (upd B p o) (upd F p o) :=
  ⟨same_new (h.free e), same_upd2 h (h.free e), same_new e, fun a h1 h2 => by
    by_cases z : a = p
    · subst z; exact e
    · rw [upd_ne z] at h1; exact absurd h2 h1⟩
/-! ### slots -/
inductive Slot where
  | no | val (d : D) | own (ds : List D)
/-- the slots hold what they are said to hold -/
structure Vs (K : PySem.W.Frag) (B F : Hp) (σ : L2.St) (env : List Slot) : Prop where
  len : σ.length = env.length
  val : ∀ (i : Nat) (d : D), env[i]? = some (.val d) → ∃ x, σ[i]? = some (some x) ∧ Rep K B d x
  own : ∀ (i : Nat) (ds : List D), env[i]? = some (.own ds) → ∃ p vs, σ[i]? = some (some (.ref p)) ∧ B p = none ∧ F p = some (.lst vs) ∧ Reps K B ds vs
  dis : ∀ (i j : Nat) (ds es : List D) (p : Addr), i ≠ j → env[i]? = some (.own ds) → env[j]? = some (.own es) → σ[i]? = some (some (.ref p)) → σ[j]? = some (some (.ref p)) → False
theorem Gr.out {B F B' F' : Hp} (g : Gr B F B' F') {p : Addr} {o : HO} (h : B p = none) (e : F p = some o) : B' p = none := by
  cases q : B' p with
  | none => rfl
  | some u =>
    have := g.n p (by rw [q]; intro z; cases z) h
    rw [this] at e; cases e
theorem Vs.grow {K : PySem.W.Frag} {B F B' F' : Hp} {σ : L2.St} {env : List Slot} (h : Vs K B F σ env) (g : Gr B F B' F') : Vs K B' F' σ env :=
  ⟨h.len, fun i d q => let ⟨x, h1, h2⟩ := h.val i d q; ⟨x, h1, h2.mono g.b⟩, fun i ds q =>
    let ⟨p, vs, h1, h2, h3, h4⟩ := h.own i ds q
    ⟨p, vs, h1, g.out h2 h3, g.s _ _ h3, h4.mono g.b⟩, h.dis⟩
theorem get_set {α : Type} {l : List α} {j i : Nat} {a b : α} (h : (l.set j a)[i]? = some b) : (j = i ∧ a = b ∧ j < l.length) ∨ (j ≠ i ∧ l[i]? = some b) := by
  by_cases z : j = i
  · subst z
    by_cases hj : j < l.length
    · rw [List.getElem?_set_self hj] at h; cases h; exact .inl ⟨rfl, rfl, hj⟩
    · rw [List.getElem?_eq_none (by simp; omega)] at h; cases h
  · rw [List.getElem?_set_ne z] at h; exact .inr ⟨z, h⟩
theorem Vs.set {K : PySem.W.Frag} {B F : Hp} {σ : L2.St} {env : List Slot} (h : Vs K B F σ env) {j : Nat} {d : D} {x : V} (r : Rep K B d x) : Vs K B F (σ.set j (some x)) (env.set j (.val d)) := by
  refine ⟨by simp [h.len], fun i d' q => ?_, fun i ds q => ?_, fun i k ds es p n q1 q2 e1 e2 => ?_⟩
  · rcases get_set q with ⟨rfl, e, hj⟩ | ⟨n, q⟩
    · cases e; exact ⟨x, List.getElem?_set_self (by rw [h.len]; exact hj), r⟩
    · rw [List.getElem?_set_ne n]; exact h.val i d' q
  · rcases get_set q with ⟨rfl, e, hj⟩ | ⟨n, q⟩
    · cases e
    · rw [List.getElem?_set_ne n]; exact h.own i ds q
  · rcases get_set q1 with ⟨rfl, e, hj⟩ | ⟨n1, q1⟩
    · cases e
    · rcases get_set q2 with ⟨rfl, e, hj⟩ | ⟨n2, q2⟩
      · cases e
      · rw [List.getElem?_set_ne n1] at e1
        rw [List.getElem?_set_ne n2] at e2
        exact h.dis i k ds es p n q1 q2 e1 e2
/-! ### evaluation -/
def EvE (K : PySem.W.Frag) (te : TE) (env : List Slot) (d : D) : Prop := ∀ B F σ, Same B F → Vs K B F σ env → ∀ Q : VK, (∀ B' F' x, Gr B F B' F' → Rep K B' d x → Q x F') → te σ F Q
def EvA (K : PySem.W.Frag) (ta : TA) (env : List Slot) (ds : List D) : Prop := ∀ B F σ, Same B F → Vs K B F σ env → ∀ Q : List V → Hp → Prop, (∀ B' F' xs, Gr B F B' F' → Reps K B' ds xs → Q xs F') → ta σ F Q
def EvT (K : PySem.W.Frag) (tt : TT) (env : List Slot) (b : Bool) : Prop := ∀ B F σ, Same B F → Vs K B F σ env → ∀ Q : Bool → Hp → Prop, (∀ B' F', Gr B F B' F' → Q b F') → tt σ F Q
def EvO (K : PySem.W.Frag) (to : TO) (env : List Slot) (o : Option Int) : Prop := ∀ B F σ, Same B F → Vs K B F σ env → ∀ Q : Option Int → Hp → Prop, (∀ B' F', Gr B F B' F' → Q o F') → to σ F Q
section
variable {K : PySem.W.Frag} {env : List Slot} {ta tb te tc : TE} {d d1 d2 : D}
theorem EvE.is {d' : D} (h : EvE K te env d) (e : d = d') : EvE K te env d' := e ▸ h
theorem EvT.is {tt : TT} {b b' : Bool} (h : EvT K tt env b) (e : b = b') : EvT K tt env b' := e ▸ h
theorem ee_var {i : Nat} (h : env[i]? = some (.val d)) : EvE K (tVar i) env d := fun B F σ hs vs Q q => by
  obtain ⟨x, h1, h2⟩ := vs.val i d h
  exact ⟨x, h1, q B F x (Gr.refl hs) h2⟩
theorem ee_c {x : V} (h : ∀ H, Rep K H d x) : EvE K (tC x) env d := fun B F σ hs vs Q q => q B F x (Gr.refl hs) (h B)
theorem ee_int {i : Int} : EvE K (tC (.int i)) env (.int i) := ee_c fun _ => by unfold Rep; rfl
theorem ee_str {i : Str} : EvE K (tC (.str i)) env (.str i) := ee_c fun _ => by unfold Rep; rfl
theorem ee_bl {i : Bool} : EvE K (tC (.bl i)) env (.bl i) := ee_c fun _ => by unfold Rep; rfl
theorem ee_non : EvE K (tC .non) env .non := ee_c fun _ => by unfold Rep; rfl
theorem ee_v {x : V} : EvE K (tC x) env (.v x) := ee_c fun _ => by unfold Rep; rfl
theorem ea_nil : EvA K tNil env [] := fun B F σ hs vs Q q => q B F [] (Gr.refl hs) Reps.nil
theorem ea_cons {tr : TA} {ds : List D} (h : EvE K ta env d) (t : EvA K tr env ds) : EvA K (tCons ta tr) env (d :: ds) := fun B F σ hs vs Q q =>
  h B F σ hs vs _ fun B1 F1 x g1 r1 => t B1 F1 σ g1.f (vs.grow g1) _ fun B2 F2 xs g2 r2 => q B2 F2 _ (g1.trans g2) (Reps.cons (r1.mono g2.b) r2)
/-- a two-place operation by values -/
theorem ee_op {r : R2} (h1 : EvE K ta env d1) (h2 : EvE K tb env d2)
    (hr : ∀ B F x y, Same B F → Rep K B d1 x → Rep K B d2 y → ∀ Q : VK, (∀ B' F' z, Gr B F B' F' → Rep K B' d z → Q z F') → r x y F Q) : EvE K (tOp r ta tb) env d := fun B F σ hs vs Q q =>
  h1 B F σ hs vs _ fun B1 F1 x g1 r1 => h2 B1 F1 σ g1.f (vs.grow g1) _ fun B2 F2 y g2 r2 => hr B2 F2 x y g2.f (r1.mono g2.b) r2 _ fun B3 F3 z g3 r3 => q B3 F3 z ((g1.trans g2).trans g3) r3
theorem ee_un {r : V → Hp → VK → Prop} (h1 : EvE K ta env d1) (hr : ∀ B F x, Same B F → Rep K B d1 x → ∀ Q : VK, (∀ B' F' z, Gr B F B' F' → Rep K B' d z → Q z F') → r x F Q) : EvE K (tUn r ta) env d := fun B F σ hs vs Q q =>
  h1 B F σ hs vs _ fun B1 F1 x g1 r1 => hr B1 F1 x g1.f r1 _ fun B2 F2 y g2 r2 => q B2 F2 y (g1.trans g2) r2
theorem ee_I0 {g : Int → Int → V} {i j : Int} {d : D} (h1 : EvE K ta env (.int i)) (h2 : EvE K tb env (.int j)) (hd : ∀ H, Rep K H d (g i j)) : EvE K (tOp (rI0 g) ta tb) env d :=
  ee_op h1 h2 fun B F x y hs r1 r2 Q q => by
    unfold Rep at r1 r2; subst r1 r2
    exact ⟨i, j, rfl, rfl, q B F _ (Gr.refl hs) (hd B)⟩
theorem ee_I {C : Int → Int → Prop} {g : Int → Int → V} {i j : Int} {d : D} (h1 : EvE K ta env (.int i)) (h2 : EvE K tb env (.int j)) (hc : C i j) (hd : ∀ H, Rep K H d (g i j)) : EvE K (tOp (rI C g) ta tb) env d :=
  ee_op h1 h2 fun B F x y hs r1 r2 Q q => by
    unfold Rep at r1 r2; subst r1 r2
    exact ⟨i, j, rfl, rfl, hc, q B F _ (Gr.refl hs) (hd B)⟩
theorem rp_int {i : Int} (H : Hp) : Rep K H (.int i) (.int i) := by unfold Rep; rfl
theorem rp_str {i : Str} (H : Hp) : Rep K H (.str i) (.str i) := by unfold Rep; rfl
theorem rp_bl {i : Bool} (H : Hp) : Rep K H (.bl i) (.bl i) := by unfold Rep; rfl
theorem rp_non (H : Hp) : Rep K H .non .non := by unfold Rep; rfl
variable {i j : Int}
theorem ee_add (h1 : EvE K ta env (.int i)) (h2 : EvE K tb env (.int j)) : EvE K (tOp (rI0 fun i j => .int (i + j)) ta tb) env (.int (i + j)) := ee_I0 h1 h2 rp_int
theorem ee_sub (h1 : EvE K ta env (.int i)) (h2 : EvE K tb env (.int j)) : EvE K (tOp (rI0 fun i j => .int (i - j)) ta tb) env (.int (i - j)) := ee_I0 h1 h2 rp_int
theorem ee_mul (h1 : EvE K ta env (.int i)) (h2 : EvE K tb env (.int j)) (hc : CMul i j) : EvE K (tOp (rI CMul fun i j => .int (i * j)) ta tb) env (.int (i * j)) := ee_I h1 h2 hc rp_int
theorem ee_div (h1 : EvE K ta env (.int i)) (h2 : EvE K tb env (.int j)) (hc : CDiv i j) : EvE K (tOp (rI CDiv fun i j => .int (i / j)) ta tb) env (.int (i / j)) := ee_I h1 h2 hc rp_int
theorem ee_mod (h1 : EvE K ta env (.int i)) (h2 : EvE K tb env (.int j)) (hc : 0 < j) : EvE K (tOp (rI (fun _ j => 0 < j) fun i j => .int (i % j)) ta tb) env (.int (i % j)) := ee_I h1 h2 hc rp_int
theorem ee_pow (h1 : EvE K ta env (.int i)) (h2 : EvE K tb env (.int j)) (hc : CPow i j) : EvE K (tOp (rI CPow fun i j => .int (i ^ j.toNat)) ta tb) env (.int (i ^ j.toNat)) := ee_I h1 h2 hc rp_int
theorem ee_powR {r : Int} (h1 : EvE K ta env (.int i)) (h2 : EvE K tb env (.int j)) (hc : CPow i j) (hr : i ^ j.toNat = r) : EvE K (tOp (rI CPow fun i j => .int (i ^ j.toNat)) ta tb) env (.int r) := hr ▸ ee_pow h1 h2 hc
theorem ee_neg (h1 : EvE K ta env (.int i)) : EvE K (tUn (rU fun i => .int (-i)) ta) env (.int (-i)) := ee_un h1 fun B F x hs r1 Q q => by
    unfold Rep at r1; subst r1
    exact ⟨i, rfl, q B F _ (Gr.refl hs) (rp_int B)⟩
theorem ee_lt (h1 : EvE K ta env (.int i)) (h2 : EvE K tb env (.int j)) : EvE K (tOp (rI0 fun i j => .bl (decide (i < j))) ta tb) env (.bl (decide (i < j))) := ee_I0 h1 h2 rp_bl
theorem ee_le (h1 : EvE K ta env (.int i)) (h2 : EvE K tb env (.int j)) : EvE K (tOp (rI0 fun i j => .bl (decide (i ≤ j))) ta tb) env (.bl (decide (i ≤ j))) := ee_I0 h1 h2 rp_bl
theorem ee_gt (h1 : EvE K ta env (.int i)) (h2 : EvE K tb env (.int j)) : EvE K (tOp (rI0 fun i j => .bl (decide (j < i))) ta tb) env (.bl (decide (j < i))) := ee_I0 h1 h2 rp_bl
theorem ee_ge (h1 : EvE K ta env (.int i)) (h2 : EvE K tb env (.int j)) : EvE K (tOp (rI0 fun i j => .bl (decide (j ≤ i))) ta tb) env (.bl (decide (j ≤ i))) := ee_I0 h1 h2 rp_bl
/-- scalars of data -/
def sV : D → Option V
  | .non => some .non | .bl b => some (.bl b) | .int i => some (.int i) | .str s => some (.str s) | _ => none
theorem Rep.sc {H : Hp} {x v : V} (h : Rep K H d x) (e : sV d = some v) : x = v := by
  cases d <;> unfold sV at e <;> (try cases e) <;> (unfold Rep at h; exact h)
theorem ee_eq {v w : V} (h1 : EvE K ta env d1) (h2 : EvE K tb env d2) (e1 : sV d1 = some v) (e2 : sV d2 = some w) (hs : scal v w = true) {b : Bool} (hb : decide (v = w) = b) : EvE K (tOp rEq ta tb) env (.bl b) :=
  ee_op h1 h2 fun B F x y hf r1 r2 Q q => by
    have := r1.sc e1; have := r2.sc e2; subst x y
    exact ⟨hs, by rw [hb]; exact q B F _ (Gr.refl hf) (rp_bl B)⟩
theorem ee_ne {v w : V} (h1 : EvE K ta env d1) (h2 : EvE K tb env d2) (e1 : sV d1 = some v) (e2 : sV d2 = some w) (hs : scal v w = true) {b : Bool} (hb : (!decide (v = w)) = b) : EvE K (tOp rNe ta tb) env (.bl b) :=
  ee_op h1 h2 fun B F x y hf r1 r2 Q q => by
    have := r1.sc e1; have := r2.sc e2; subst x y
    exact ⟨hs, by rw [hb]; exact q B F _ (Gr.refl hf) (rp_bl B)⟩
theorem dec_int {a b : Int} : decide (V.int a = V.int b) = decide (a = b) := by
  by_cases h : a = b
  · simp [h]
  · simp [h]
theorem dec_str {a b : Str} : decide (V.str a = V.str b) = decide (a = b) := by
  by_cases h : a = b
  · simp [h]
  · simp [h]
theorem dec_bl {a b : Bool} : decide (V.bl a = V.bl b) = decide (a = b) := by
  by_cases h : a = b
  · simp [h]
  · simp [h]
theorem ee_eqI (h1 : EvE K ta env (.int i)) (h2 : EvE K tb env (.int j)) : EvE K (tOp rEq ta tb) env (.bl (decide (i = j))) := ee_eq h1 h2 rfl rfl rfl dec_int
theorem ee_eqS {s t : Str} (h1 : EvE K ta env (.str s)) (h2 : EvE K tb env (.str t)) : EvE K (tOp rEq ta tb) env (.bl (decide (s = t))) := ee_eq h1 h2 rfl rfl rfl dec_str
theorem ee_eqB {s t : Bool} (h1 : EvE K ta env (.bl s)) (h2 : EvE K tb env (.bl t)) : EvE K (tOp rEq ta tb) env (.bl (decide (s = t))) := ee_eq h1 h2 rfl rfl rfl dec_bl
theorem ee_neI (h1 : EvE K ta env (.int i)) (h2 : EvE K tb env (.int j)) : EvE K (tOp rNe ta tb) env (.bl (!decide (i = j))) := ee_ne h1 h2 rfl rfl rfl (by rw [dec_int])
theorem ee_neS {s t : Str} (h1 : EvE K ta env (.str s)) (h2 : EvE K tb env (.str t)) : EvE K (tOp rNe ta tb) env (.bl (!decide (s = t))) := ee_ne h1 h2 rfl rfl rfl (by rw [dec_str])
theorem ee_catS {s t : Str} (h1 : EvE K ta env (.str s)) (h2 : EvE K tb env (.str t)) (hz : s.length + t.length ≤ sizeLine) : EvE K (tOp (fun x y H Q => ∃ i j, x = .str i ∧ y = .str j ∧ i.length + j.length ≤ sizeLine ∧ Q (.str (i ++ j)) H) ta tb) env (.str (s ++ t)) :=
  ee_op h1 h2 fun B F x y hf r1 r2 Q q => by
    unfold Rep at r1 r2; subst r1 r2
    exact ⟨s, t, rfl, rfl, hz, q B F _ (Gr.refl hf) (rp_str B)⟩
theorem ee_inS {c : Nat} {s : Str} (h1 : EvE K ta env (.str ⟨#[c]⟩)) (h2 : EvE K tb env (.str s)) : EvE K (tOp (fun x y H Q => ∃ (c : Nat) (z : Str), x = .str ⟨#[c]⟩ ∧ y = .str z ∧ Q (.bl (decide (c ∈ z.cps.toList))) H) ta tb) env (.bl (decide (c ∈ s.cps.toList))) :=
  ee_op h1 h2 fun B F x y hf r1 r2 Q q => by
    unfold Rep at r1 r2; subst r1 r2
    exact ⟨c, s, rfl, rfl, q B F _ (Gr.refl hf) (rp_bl B)⟩
theorem ee_ninS {c : Nat} {s : Str} (h1 : EvE K ta env (.str ⟨#[c]⟩)) (h2 : EvE K tb env (.str s)) : EvE K (tOp (fun x y H Q => ∃ (c : Nat) (z : Str), x = .str ⟨#[c]⟩ ∧ y = .str z ∧ Q (.bl (!decide (c ∈ z.cps.toList))) H) ta tb) env (.bl (!decide (c ∈ s.cps.toList))) :=
  ee_op h1 h2 fun B F x y hf r1 r2 Q q => by
    unfold Rep at r1 r2; subst r1 r2
    exact ⟨c, s, rfl, rfl, q B F _ (Gr.refl hf) (rp_bl B)⟩
/-! tests -/
theorem et_B {b : Bool} (h : EvE K te env (.bl b)) : EvT K (tB te) env b := fun B F σ hs vs Q q => h B F σ hs vs _ fun B1 F1 x g r => by
  unfold Rep at r; exact ⟨b, r, q B1 F1 g⟩
theorem et_test {b : Bool} (h : EvE K te env (.bl b)) : EvT K (tTest te) env b := fun B F σ hs vs Q q => h B F σ hs vs _ fun B1 F1 x g r => by
  unfold Rep at r; exact ⟨b, r, q B1 F1 g⟩
theorem et_not {t : TT} {b : Bool} (h : EvT K t env b) : EvT K (tNot t) env (!b) := fun B F σ hs vs Q q => h B F σ hs vs _ fun B1 F1 g => q B1 F1 g
theorem et_and {t u : TT} {a b : Bool} (h : EvT K t env a) (h2 : a = true → EvT K u env b) : EvT K (tAnd t u) env (a && b) := fun B F σ hs vs Q q => h B F σ hs vs _ fun B1 F1 g => by
  cases a with
  | true => exact h2 rfl B1 F1 σ g.f (vs.grow g) _ fun B2 F2 g2 => q B2 F2 (g.trans g2)
  | false => exact q B1 F1 g
theorem et_or {t u : TT} {a b : Bool} (h : EvT K t env a) (h2 : a = false → EvT K u env b) : EvT K (tOr t u) env (a || b) := fun B F σ hs vs Q q => h B F σ hs vs _ fun B1 F1 g => by
  cases a with
  | true => exact q B1 F1 g
  | false => exact h2 rfl B1 F1 σ g.f (vs.grow g) _ fun B2 F2 g2 => q B2 F2 (g.trans g2)
theorem ee_andV {a b : Bool} (h : EvE K ta env (.bl a)) (h2 : a = true → EvE K tb env (.bl b)) : EvE K (tAndV ta tb) env (.bl (a && b)) := fun B F σ hs vs Q q => h B F σ hs vs _ fun B1 F1 x g r => by
  unfold Rep at r
  refine ⟨a, r, ?_⟩
  cases a with
  | true => exact h2 rfl B1 F1 σ g.f (vs.grow g) _ fun B2 F2 x g2 r2 => q B2 F2 x (g.trans g2) r2
  | false => exact q B1 F1 _ g (rp_bl B1)
theorem ee_orV {a b : Bool} (h : EvE K ta env (.bl a)) (h2 : a = false → EvE K tb env (.bl b)) : EvE K (tOrV ta tb) env (.bl (a || b)) := fun B F σ hs vs Q q => h B F σ hs vs _ fun B1 F1 x g r => by
  unfold Rep at r
  refine ⟨a, r, ?_⟩
  cases a with
  | false => exact h2 rfl B1 F1 σ g.f (vs.grow g) _ fun B2 F2 x g2 r2 => q B2 F2 x (g.trans g2) r2
  | true => exact q B1 F1 _ g (rp_bl B1)
theorem ee_notV {a : Bool} (h : EvE K ta env (.bl a)) : EvE K (tNotV ta) env (.bl (!a)) := fun B F σ hs vs Q q => h B F σ hs vs _ fun B1 F1 x g r => by
  unfold Rep at r
  exact ⟨a, r, q B1 F1 _ g (rp_bl B1)⟩
theorem ee_if {t : TT} {b : Bool} (h : EvT K t env b) (h1 : b = true → EvE K ta env d1) (h2 : b = false → EvE K tb env d2) : EvE K (tIf t ta tb) env (if b = true then d1 else d2) := fun B F σ hs vs Q q => h B F σ hs vs _ fun B1 F1 g => by
  cases b with
  | true => exact h1 rfl B1 F1 σ g.f (vs.grow g) _ fun B2 F2 x g2 r2 => q B2 F2 x (g.trans g2) (by simpa using r2)
  | false => exact h2 rfl B1 F1 σ g.f (vs.grow g) _ fun B2 F2 x g2 r2 => q B2 F2 x (g.trans g2) (by simpa using r2)
/-- both ways give d -/
theorem ee_ifE {t : TT} {b : Bool} (h : EvT K t env b) (h1 : b = true → EvE K ta env d) (h2 : b = false → EvE K tb env d) : EvE K (tIf t ta tb) env d := fun B F σ hs vs Q q => h B F σ hs vs _ fun B1 F1 g => by
  cases b with
  | true => exact h1 rfl B1 F1 σ g.f (vs.grow g) _ fun B2 F2 x g2 r2 => q B2 F2 x (g.trans g2) r2
  | false => exact h2 rfl B1 F1 σ g.f (vs.grow g) _ fun B2 F2 x g2 r2 => q B2 F2 x (g.trans g2) r2
/-- a < b <= c of ints (any two comparisons of ints) -/
theorem ee_chain {r r' : R2} {a b : Bool} (h1 : EvE K ta env d) (h2 : EvE K tb env d1)
    (hr : ∀ B F x y, Same B F → Rep K B d x → Rep K B d1 y → ∀ Q : VK, (∀ B' F' z, Gr B F B' F' → Rep K B' (.bl a) z → Q z F') → r x y F Q)
    (h3 : a = true → EvE K tc env d2) (hr' : a = true → ∀ B F x y, Same B F → Rep K B d1 x → Rep K B d2 y → ∀ Q : VK, (∀ B' F' z, Gr B F B' F' → Rep K B' (.bl b) z → Q z F') → r' x y F Q) : EvE K (tChain r r' ta tb tc) env (.bl (a && b)) := fun B F σ hs vs Q q =>
  h1 B F σ hs vs _ fun B1 F1 x g1 r1 => h2 B1 F1 σ g1.f (vs.grow g1) _ fun B2 F2 y g2 r2 => hr B2 F2 x y g2.f (r1.mono g2.b) r2 _ fun B3 F3 z g3 r3 => by
    unfold Rep at r3
    refine ⟨a, r3, ?_⟩
    have g := (g1.trans g2).trans g3
    cases a with
    | true =>
      exact h3 rfl B3 F3 σ g.f (vs.grow g) _ fun B4 F4 w g4 r4 => hr' rfl B4 F4 y w g4.f (r2.mono (g3.trans g4).b) r4 _ fun B5 F5 z5 g5 r5 => q B5 F5 z5 ((g.trans g4).trans g5) r5
    | false => exact q B3 F3 _ g (rp_bl B3)
theorem cmp_I0 {g : Int → Int → V} {i j : Int} {b : Bool} (hd : g i j = .bl b) : ∀ B F x y, Same B F → Rep K B (.int i) x → Rep K B (.int j) y → ∀ Q : VK, (∀ B' F' z, Gr B F B' F' → Rep K B' (.bl b) z → Q z F') → rI0 g x y F Q := fun B F x y hf r1 r2 Q q => by
    unfold Rep at r1 r2; subst r1 r2
    exact ⟨i, j, rfl, rfl, q B F _ (Gr.refl hf) (by rw [hd]; exact rp_bl B)⟩
/-! displays -/
theorem rep_new_lst {B : Hp} {p : Addr} {ds : List D} {vs : List V} (e : B p = none) (h : Reps K B ds vs) : Rep K (upd B p (.lst vs)) (.lst ds) (.ref p) := by
  unfold Rep
  exact ⟨p, vs, rfl, .inl (.inl upd_same), h.mono (same_new e)⟩
theorem rep_new_tup {B : Hp} {p : Addr} {ds : List D} {vs : List V} (e : B p = none) (h : Reps K B ds vs) : Rep K (upd B p (.tup vs)) (.tup ds) (.ref p) := by
  unfold Rep
  exact ⟨p, vs, rfl, .inl (.inl upd_same), h.mono (same_new e)⟩
theorem ee_tup {t : TA} {ds : List D} (h : EvA K t env ds) (hz : ds.length ≤ 1000) : EvE K (tTup t) env (.tup ds) := fun B F σ hs vs Q q => h B F σ hs vs _ fun B1 F1 xs g r =>
  ⟨by rw [r.len]; exact Nat.le_of_lt (small1000 hz), fun p hp => q _ _ _ (g.trans (Gr.new g.f hp)) (rep_new_tup (g.f.free hp) r)⟩
theorem ee_lst {t : TA} {ds : List D} (h : EvA K t env ds) (hz : ds.length ≤ 1000) : EvE K (tLst t) env (.lst ds) := fun B F σ hs vs Q q => h B F σ hs vs _ fun B1 F1 xs g r =>
  ⟨by rw [r.len]; exact Nat.le_of_lt (small1000 hz), fun p hp => q _ _ _ (g.trans (Gr.new g.f hp)) (rep_new_lst (g.f.free hp) r)⟩
/-! calls of built-ins by values -/
theorem ee_cb {r : List V → Hp → VK → Prop} {t : TA} {ds : List D} (h : EvA K t env ds) (hr : ∀ B F xs, Same B F → Reps K B ds xs → ∀ Q : VK, (∀ B' F' z, Gr B F B' F' → Rep K B' d z → Q z F') → r xs F Q) : EvE K (tCB r t) env d := fun B F σ hs vs Q q =>
  h B F σ hs vs _ fun B1 F1 xs g1 r1 => hr B1 F1 xs g1.f r1 _ fun B2 F2 y g2 r2 => q B2 F2 y (g1.trans g2) r2
theorem reps1 {H : Hp} {xs : List V} (h : Reps K H [d] xs) : ∃ x, xs = [x] ∧ Rep K H d x := by
  unfold Reps at h
  obtain ⟨x, ws, rfl, h2, h3⟩ := h
  unfold Reps at h3; subst h3
  exact ⟨x, rfl, h2⟩
theorem reps2 {H : Hp} {xs : List V} (h : Reps K H [d, d1] xs) : ∃ x y, xs = [x, y] ∧ Rep K H d x ∧ Rep K H d1 y := by
  unfold Reps at h
  obtain ⟨x, ws, rfl, h2, h3⟩ := h
  obtain ⟨y, rfl, h4⟩ := reps1 h3
  exact ⟨x, y, rfl, h2, h4⟩
abbrev rLen1 (K : PySem.W.Frag) : List V → Hp → VK → Prop := fun xs H Q => ∃ x n, xs = [x] ∧ LenV K x H n ∧ Q (.int n) H
theorem ee_lenL {ds : List D} (h : EvE K te env (.lst ds)) : EvE K (tCB (rLen1 K) (tCons te tNil)) env (.int ds.length) := ee_cb (ea_cons h ea_nil) fun B F xs hs r Q q => by
  obtain ⟨x, rfl, r1⟩ := reps1 r
  unfold Rep at r1
  obtain ⟨a, vs, rfl, h1, h2⟩ := r1
  refine ⟨_, vs.length, rfl, .inl ⟨vs, hs.seq h1, rfl⟩, q B F _ (Gr.refl hs) ?_⟩
  rw [h2.len]; exact rp_int B
theorem ee_lenT {ds : List D} (h : EvE K te env (.tup ds)) : EvE K (tCB (rLen1 K) (tCons te tNil)) env (.int ds.length) := ee_cb (ea_cons h ea_nil) fun B F xs hs r Q q => by
  obtain ⟨x, rfl, r1⟩ := reps1 r
  unfold Rep at r1
  obtain ⟨a, vs, rfl, h1, h2⟩ := r1
  refine ⟨_, vs.length, rfl, .inr ⟨vs, sqt_mono hs h1, rfl⟩, q B F _ (Gr.refl hs) ?_⟩
  rw [h2.len]; exact rp_int B
theorem ee_lenS {s : Str} (h : EvE K te env (.str s)) (hz : s.length ≤ sizeLine) : EvE K (tCB (rLen1 K) (tCons te tNil)) env (.int s.length) := ee_cb (ea_cons h ea_nil) fun B F xs hs r Q q => by
  obtain ⟨x, rfl, r1⟩ := reps1 r
  unfold Rep at r1; subst r1
  exact ⟨_, s.length, rfl, ⟨hz, rfl⟩, q B F _ (Gr.refl hs) (rp_int B)⟩
abbrev rInt1 : List V → Hp → VK → Prop := fun xs H Q => (∃ i, xs = [.int i] ∧ Q (.int i) H) ∨ ∃ k, xs = [.bl k] ∧ Q (.int (if k then 1 else 0)) H
theorem ee_intI (h : EvE K te env (.int i)) : EvE K (tCB rInt1 (tCons te tNil)) env (.int i) := ee_cb (ea_cons h ea_nil) fun B F xs hs r Q q => by
  obtain ⟨x, rfl, r1⟩ := reps1 r
  unfold Rep at r1; subst r1
  exact .inl ⟨i, rfl, q B F _ (Gr.refl hs) (rp_int B)⟩
theorem ee_intB {b : Bool} (h : EvE K te env (.bl b)) : EvE K (tCB rInt1 (tCons te tNil)) env (.int (if b then 1 else 0)) := ee_cb (ea_cons h ea_nil) fun B F xs hs r Q q => by
  obtain ⟨x, rfl, r1⟩ := reps1 r
  unfold Rep at r1; subst r1
  exact .inr ⟨b, rfl, q B F _ (Gr.refl hs) (rp_int B)⟩
theorem ee_max2 (h1 : EvE K ta env (.int i)) (h2 : EvE K tb env (.int j)) : EvE K (tCB (fun xs H Q => ∃ i j, xs = [.int i, .int j] ∧ Q (.int (if j > i then j else i)) H) (tCons ta (tCons tb tNil))) env (.int (max i j)) := ee_cb (ea_cons h1 (ea_cons h2 ea_nil)) fun B F xs hs r Q q => by
  obtain ⟨x, y, rfl, r1, r2⟩ := reps2 r
  unfold Rep at r1 r2; subst r1 r2
  refine ⟨i, j, rfl, q B F _ (Gr.refl hs) ?_⟩
  have : (if j > i then j else i) = max i j := by split <;> omega
  rw [this]; exact rp_int B
theorem ee_min2 (h1 : EvE K ta env (.int i)) (h2 : EvE K tb env (.int j)) : EvE K (tCB (fun xs H Q => ∃ i j, xs = [.int i, .int j] ∧ Q (.int (if j < i then j else i)) H) (tCons ta (tCons tb tNil))) env (.int (min i j)) := ee_cb (ea_cons h1 (ea_cons h2 ea_nil)) fun B F xs hs r Q q => by
  obtain ⟨x, y, rfl, r1, r2⟩ := reps2 r
  unfold Rep at r1 r2; subst r1 r2
  refine ⟨i, j, rfl, q B F _ (Gr.refl hs) ?_⟩
  have : (if j < i then j else i) = min i j := by split <;> omega
  rw [this]; exact rp_int B
theorem ee_all {bs : List Bool} (h : EvE K te env (.lst (bs.map .bl))) : EvE K (tCB (rAll K) (tCons te tNil)) env (.bl (bs.all id)) := ee_cb (ea_cons h ea_nil) fun B F xs hs r Q q => by
  obtain ⟨x, rfl, r1⟩ := reps1 r
  unfold Rep at r1
  obtain ⟨a, vs, rfl, h1, h2⟩ := r1
  have := h2.bls; subst this
  exact ⟨a, bs, rfl, hs.seq h1, q B F _ (Gr.refl hs) (rp_bl B)⟩
theorem ee_any {bs : List Bool} (h : EvE K te env (.lst (bs.map .bl))) : EvE K (tCB (rAny K) (tCons te tNil)) env (.bl (bs.any id)) := ee_cb (ea_cons h ea_nil) fun B F xs hs r Q q => by
  obtain ⟨x, rfl, r1⟩ := reps1 r
  unfold Rep at r1
  obtain ⟨a, vs, rfl, h1, h2⟩ := r1
  have := h2.bls; subst this
  exact ⟨a, bs, rfl, hs.seq h1, q B F _ (Gr.refl hs) (rp_bl B)⟩
theorem ee_sum {ns : List Int} (h : EvE K te env (.lst (ns.map .int))) : EvE K (tCB (rSum K) (tCons te tNil)) env (.int ns.sum) := ee_cb (ea_cons h ea_nil) fun B F xs hs r Q q => by
  obtain ⟨x, rfl, r1⟩ := reps1 r
  unfold Rep at r1
  obtain ⟨a, vs, rfl, h1, h2⟩ := r1
  have := h2.ints; subst this
  exact ⟨a, ns, rfl, hs.seq h1, q B F _ (Gr.refl hs) (rp_int B)⟩
abbrev rListOf (K : PySem.W.Frag) : List V → Hp → VK → Prop := fun xs H Q => ∃ p ys, xs = [.ref p] ∧ (SqL K H p ys ∨ SqT K H p ys) ∧ ∀ l, H l = none → Q (.ref l) (upd H l (.lst ys))
theorem ee_listL {ds : List D} (h : EvE K te env (.lst ds)) : EvE K (tCB (rListOf K) (tCons te tNil)) env (.lst ds) := ee_cb (ea_cons h ea_nil) fun B F xs hs r Q q => by
  obtain ⟨x, rfl, r1⟩ := reps1 r
  unfold Rep at r1
  obtain ⟨a, vs, rfl, h1, h2⟩ := r1
  exact ⟨a, vs, rfl, .inl (hs.seq h1), fun l hl => q _ _ _ (Gr.new hs hl) (rep_new_lst (hs.free hl) h2)⟩
theorem ee_listT {ds : List D} (h : EvE K te env (.tup ds)) : EvE K (tCB (rListOf K) (tCons te tNil)) env (.lst ds) := ee_cb (ea_cons h ea_nil) fun B F xs hs r Q q => by
  obtain ⟨x, rfl, r1⟩ := reps1 r
  unfold Rep at r1
  obtain ⟨a, vs, rfl, h1, h2⟩ := r1
  exact ⟨a, vs, rfl, .inr (sqt_mono hs h1), fun l hl => q _ _ _ (Gr.new hs hl) (rep_new_lst (hs.free hl) h2)⟩
abbrev rTupOf (K : PySem.W.Frag) : List V → Hp → VK → Prop := fun xs H Q => ∃ p ys, xs = [.ref p] ∧ ((SqL K H p ys ∧ ∀ l, H l = none → Q (.ref l) (upd H l (.tup ys))) ∨ (SqT K H p ys ∧ Q (.ref p) H))
theorem ee_tupL {ds : List D} (h : EvE K te env (.lst ds)) : EvE K (tCB (rTupOf K) (tCons te tNil)) env (.tup ds) := ee_cb (ea_cons h ea_nil) fun B F xs hs r Q q => by
  obtain ⟨x, rfl, r1⟩ := reps1 r
  unfold Rep at r1
  obtain ⟨a, vs, rfl, h1, h2⟩ := r1
  exact ⟨a, vs, rfl, .inl ⟨hs.seq h1, fun l hl => q _ _ _ (Gr.new hs hl) (rep_new_tup (hs.free hl) h2)⟩⟩
theorem ee_tupT {ds : List D} (h : EvE K te env (.tup ds)) : EvE K (tCB (rTupOf K) (tCons te tNil)) env (.tup ds) := ee_cb (ea_cons h ea_nil) fun B F xs hs r Q q => by
  obtain ⟨x, rfl, r1⟩ := reps1 r
  unfold Rep at r1
  obtain ⟨a, vs, rfl, h1, h2⟩ := r1
  refine ⟨a, vs, rfl, .inr ⟨sqt_mono hs h1, q B F _ (Gr.refl hs) ?_⟩⟩
  unfold Rep
  exact ⟨a, vs, rfl, h1, h2⟩
/-! subscripts -/
theorem atI_len {α β : Type} {xs : List α} {ys : List β} (h : xs.length = ys.length) {k : Int} {y : β} (e : atI ys k = some y) : ∃ m : Nat, ys[m]? = some y ∧ ∀ x, xs[m]? = some x → atI xs k = some x := by
  unfold atI at e ⊢
  rw [h]
  cases q : ixN ys.length k with
  | none => rw [q] at e; cases e
  | some m =>
    rw [q] at e
    exact ⟨m, e, fun x hx => hx⟩
theorem ee_ixL {ds : List D} {k : Int} (h1 : EvE K ta env (.lst ds)) (h2 : EvE K tb env (.int k)) (ha : atI ds k = some d) : EvE K (tOp (rIxL K) ta tb) env d :=
  ee_op h1 h2 fun B F x y hf r1 r2 Q q => by
    unfold Rep at r1 r2; subst r2
    obtain ⟨a, vs, rfl, h1, h2⟩ := r1
    obtain ⟨m, e1, e2⟩ := atI_len (xs := vs) h2.len ha
    obtain ⟨z, e3, r3⟩ := h2.get e1
    exact ⟨a, vs, k, z, rfl, rfl, hf.seq h1, e2 z e3, q B F _ (Gr.refl hf) r3⟩
theorem ee_ixT {ds : List D} {k : Int} (h1 : EvE K ta env (.tup ds)) (h2 : EvE K tb env (.int k)) (ha : atI ds k = some d) : EvE K (tOp (rIxT K) ta tb) env d :=
  ee_op h1 h2 fun B F x y hf r1 r2 Q q => by
    unfold Rep at r1 r2; subst r2
    obtain ⟨a, vs, rfl, h1, h2⟩ := r1
    obtain ⟨m, e1, e2⟩ := atI_len (xs := vs) h2.len ha
    obtain ⟨z, e3, r3⟩ := h2.get e1
    exact ⟨a, vs, k, z, rfl, rfl, sqt_mono hf h1, e2 z e3, q B F _ (Gr.refl hf) r3⟩
theorem ee_ixS {s : Str} {k : Int} {c : Nat} (h1 : EvE K ta env (.str s)) (h2 : EvE K tb env (.int k)) (hz : s.length ≤ sizeLine) (ha : atI s.cps.toList k = some c) : EvE K (tOp rIxS ta tb) env (.str ⟨#[c]⟩) :=
  ee_op h1 h2 fun B F x y hf r1 r2 Q q => by
    unfold Rep at r1 r2; subst r1 r2
    exact ⟨s, k, c, rfl, rfl, hz, ha, q B F _ (Gr.refl hf) (rp_str B)⟩
theorem eo_none : EvO K tNoPart env none := fun B F σ hs vs Q q => q B F (Gr.refl hs)
theorem eo_some (h : EvE K te env (.int i)) : EvO K (tPart te) env (some i) := fun B F σ hs vs Q q => h B F σ hs vs _ fun B1 F1 x g r => by
  unfold Rep at r; exact ⟨i, r, q B1 F1 g⟩
/-- a slice, as of V -/
def cutD {α : Type} (xs : List α) (lo hi : Option Int) : List α := (xs.drop (HT.sIx xs.length 0 lo)).take (HT.sIx xs.length xs.length hi - HT.sIx xs.length 0 lo)
theorem cut_reps {H : Hp} {ds : List D} {vs : List V} (h : Reps K H ds vs) (lo hi : Option Int) : Reps K H (cutD ds lo hi) (cutV vs lo hi) := by
  unfold cutD cutV
  rw [h.len]
  exact (h.drop _).take _
theorem cutD_map {α β : Type} (f : α → β) (xs : List α) (lo hi : Option Int) : cutD (xs.map f) lo hi = (cutD xs lo hi).map f := by
  unfold cutD
  simp [List.map_take, List.map_drop]
theorem ee_slL {tl th : TO} {ds : List D} {lo hi : Option Int} (h : EvE K te env (.lst ds)) (h1 : EvO K tl env lo) (h2 : EvO K th env hi) : EvE K (tSl (rSlL K) te tl th) env (.lst (cutD ds lo hi)) := fun B F σ hs vs Q q =>
  h B F σ hs vs _ fun B1 F1 x g1 r1 => h1 B1 F1 σ g1.f (vs.grow g1) _ fun B2 F2 g2 => h2 B2 F2 σ g2.f (vs.grow (g1.trans g2)) _ fun B3 F3 g3 => by
    have r3 := r1.mono (g2.trans g3).b
    unfold Rep at r3
    obtain ⟨a, ws, rfl, e1, e2⟩ := r3
    exact ⟨a, ws, rfl, g3.f.seq e1, fun p hp => q _ _ _ (((g1.trans g2).trans g3).trans (Gr.new g3.f hp)) (rep_new_lst (g3.f.free hp) (cut_reps e2 lo hi))⟩
theorem ee_slS {tl th : TO} {s : Str} {lo hi : Option Int} (h : EvE K te env (.str s)) (h1 : EvO K tl env lo) (h2 : EvO K th env hi) (hz : s.length ≤ sizeLine) : EvE K (tSl rSlS te tl th) env (.str (cutS s lo hi)) := fun B F σ hs vs Q q =>
  h B F σ hs vs _ fun B1 F1 x g1 r1 => h1 B1 F1 σ g1.f (vs.grow g1) _ fun B2 F2 g2 => h2 B2 F2 σ g2.f (vs.grow (g1.trans g2)) _ fun B3 F3 g3 => by
    unfold Rep at r1; subst r1
    exact ⟨s, rfl, hz, q _ _ _ ((g1.trans g2).trans g3) (rp_str B3)⟩
/-! methods of texts -/
theorem ee_m1 {r : V → List V → Hp → VK → Prop} {s : Str} (h1 : EvE K ta env (.str s)) (h2 : EvE K tb env d1)
    (hr : ∀ B F y, Same B F → Rep K B d1 y → ∀ Q : VK, (∀ B' F' z, Gr B F B' F' → Rep K B' d z → Q z F') → r (.str s) [y] F Q) : EvE K (tM1 r ta tb) env d := fun B F σ hs vs Q q =>
  h1 B F σ hs vs _ fun B1 F1 x g1 r1 => by
    unfold Rep at r1; subst r1
    exact ⟨⟨s, rfl⟩, h2 B1 F1 σ g1.f (vs.grow g1) _ fun B2 F2 y g2 r2 => hr B2 F2 y g2.f r2 _ fun B3 F3 z g3 r3 => q B3 F3 z ((g1.trans g2).trans g3) r3⟩
theorem ee_split {s t : Str} (h1 : EvE K ta env (.str s)) (h2 : EvE K tb env (.str t)) (ht : (t.length == 0) = false) (hz : s.length + 2 ≤ sizeLine) :
    EvE K (tM1 (fun x xs H Q => ∃ a b, x = .str a ∧ xs = [.str b] ∧ (b.length == 0) = false ∧ a.length + 2 ≤ sizeLine ∧ rNewStrs (Txt.split a b) H Q) ta tb) env (.lst ((Txt.split s t).map .str)) :=
  ee_m1 h1 h2 fun B F y hs r Q q => by
    unfold Rep at r; subst r
    exact ⟨s, t, rfl, rfl, ht, hz, fun p hp => q _ _ _ (Gr.new hs hp) (rep_new_lst (hs.free hp) (reps_strs _))⟩
theorem ee_join {s : Str} {ys : List Str} (h1 : EvE K ta env (.str s)) (h2 : EvE K tb env (.lst (ys.map .str))) (hz : (ys.map (·.length)).sum + ys.length * s.length ≤ 16777216) :
    EvE K (tM1 (fun x xs H Q => ∃ a p, ∃ ys : List Str, x = .str a ∧ xs = [.ref p] ∧ (SqL K H p (ys.map V.str) ∨ SqT K H p (ys.map V.str)) ∧ (ys.map (·.length)).sum + ys.length * a.length ≤ 16777216 ∧ Q (.str (Txt.join a ys)) H) ta tb) env (.str (Txt.join s ys)) :=
  ee_m1 h1 h2 fun B F y hs r Q q => by
    unfold Rep at r
    obtain ⟨a, vs, rfl, e1, e2⟩ := r
    have := e2.strs; subst this
    exact ⟨s, a, ys, rfl, rfl, .inl (hs.seq e1), hz, q _ _ _ (Gr.refl hs) (rp_str B)⟩
theorem ee_startswith {s t : Str} (h1 : EvE K ta env (.str s)) (h2 : EvE K tb env (.str t)) : EvE K (tM1 (fun x xs H Q => ∃ a b, x = .str a ∧ xs = [.str b] ∧ Q (.bl (Txt.startswith a b)) H) ta tb) env (.bl (Txt.startswith s t)) :=
  ee_m1 h1 h2 fun B F y hs r Q q => by
    unfold Rep at r; subst r
    exact ⟨s, t, rfl, rfl, q _ _ _ (Gr.refl hs) (rp_bl B)⟩
end
end Z

namespace Z
open PySem PySem.Spec PyProof.Rows L2
/-! ### targets -/
def setsV (σ : L2.St) : List Nat → List V → L2.St
  | j :: js, x :: xs => setsV (σ.set j (some x)) js xs
  | _, _ => σ
def sets (env : List Slot) : List (Nat × D) → List Slot
  | [] => env
  | (j, d) :: us => sets (env.set j (.val d)) us
def EvG (K : PySem.W.Frag) (g : TG) (d : D) (us : List (Nat × D)) : Prop :=
  ∀ B F σ x, Same B F → Rep K B d x → ∀ Q : L2.St → Hp → Prop, (∀ xs : List V, Reps K B (us.map (·.2)) xs → Q (setsV σ (us.map (·.1)) xs) F) → g x σ F Q
def EvGs (K : PySem.W.Frag) (g : TGs) (ds : List D) (us : List (Nat × D)) : Prop :=
  ∀ B F σ xs, Same B F → Reps K B ds xs → ∀ Q : L2.St → Hp → Prop, (∀ ys : List V, Reps K B (us.map (·.2)) ys → Q (setsV σ (us.map (·.1)) ys) F) → g xs σ F Q
section
variable {K : PySem.W.Frag} {B F : Hp}
theorem Vs.sets {σ : L2.St} : ∀ {us : List (Nat × D)} {env : List Slot} {xs : List V} {σ : L2.St}, Vs K B F σ env → Reps K B (us.map (·.2)) xs → Vs K B F (setsV σ (us.map (·.1)) xs) (sets env us)
  | [], env, xs, σ, h, r => by
    simp only [List.map_nil] at r
    unfold Reps at r; subst r
    simpa [setsV, Z.sets] using h
  | (j, d) :: us, env, xs, σ, h, r => by
    simp only [List.map_cons] at r
    unfold Reps at r
    obtain ⟨x, ws, rfl, h2, h3⟩ := r
    show Vs K B F (setsV (σ.set j (some x)) (us.map (·.1)) ws) (Z.sets (env.set j (.val d)) us)
    exact Vs.sets (σ := σ) (h.set h2) h3
theorem eg_name {j : Nat} {d : D} : EvG K (gName j) d [(j, d)] := fun B F σ x hs r Q q => q [x] (Reps.cons r Reps.nil)
theorem egs_nil : EvGs K gNil [] [] := fun B F σ xs hs r Q q => by
  unfold Reps at r; subst r
  exact ⟨rfl, q [] Reps.nil⟩
theorem egs_cons {j : Nat} {d : D} {ds : List D} {us : List (Nat × D)} {t : TGs} (h : EvGs K t ds us) : EvGs K (gCons (gName j) t) (d :: ds) ((j, d) :: us) := fun B F σ xs hs r Q q => by
  unfold Reps at r
  obtain ⟨x, ws, rfl, h2, h3⟩ := r
  refine ⟨x, ws, rfl, h B F _ ws hs h3 Q fun ys hy => ?_⟩
  exact q (x :: ys) (Reps.cons h2 hy)
theorem eg_tup {n : Nat} {t : TGs} {ds : List D} {us : List (Nat × D)} (h : EvGs K t ds us) (hn : ds.length = n) : EvG K (gTup K n t) (.tup ds) us := fun B F σ x hs r Q q => by
  unfold Rep at r
  obtain ⟨a, vs, rfl, e1, e2⟩ := r
  exact ⟨a, vs, rfl, sqt_mono hs e1, by rw [e2.len, hn], h B F σ vs hs e2 Q q⟩
theorem eg_lst {n : Nat} {t : TGs} {ds : List D} {us : List (Nat × D)} (h : EvGs K t ds us) (hn : ds.length = n) : EvG K (gUnl K n t) (.lst ds) us := fun B F σ x hs r Q q => by
  unfold Rep at r
  obtain ⟨a, vs, rfl, e1, e2⟩ := r
  exact ⟨a, vs, rfl, hs.seq e1, by rw [e2.len, hn], h B F σ vs hs e2 Q q⟩
end
/-! ### what is walked -/
structure Wk (K : PySem.W.Frag) (J : It) (B : Hp) (ds : List D) : Prop where
  w : ∃ (G : Hp → Prop) (Y : Nat → Hp → V → Hp → Prop), Walk J ds.length G Y ∧ (∀ F, Same B F → G F) ∧
    ∀ i B1 F1 x F2, Same B B1 → Same B1 F1 → Y i F1 x F2 → ∃ B2 d, Gr B1 F1 B2 F2 ∧ ds[i]? = some d ∧ Rep K B2 d x
def EvI (K : PySem.W.Frag) (wi : TI) (env : List Slot) (ds : List D) : Prop := ∀ B F σ, Same B F → Vs K B F σ env → ∀ R : It → Hp → Prop, (∀ B' F' J, Gr B F B' F' → Wk K J B' ds → R J F') → wi σ F R
section
variable {K : PySem.W.Frag} {env : List Slot} {ta tb te tc : TE} {d d1 d2 : D}
theorem ei_list {ds : List D} (h : EvE K te env (.lst ds)) : EvI K (iList K te) env ds := fun B F σ hs vs R q => h B F σ hs vs _ fun B1 F1 x g r => by
  unfold Rep at r
  obtain ⟨a, ws, rfl, e1, e2⟩ := r
  refine ⟨a, rfl, ⟨ws, g.f.seq e1⟩, q B1 F1 _ g ⟨fun F => SqL K F a ws, YAt ws, ?_, fun F hF => hF.seq e1, fun i B2 F2 x F3 s1 s2 y => ?_⟩⟩
  · rw [← e2.len]; exact walk_list
  · obtain ⟨rfl, ey⟩ := y
    have hi : i < ds.length := by rw [← e2.len]; exact (List.getElem?_eq_some_iff.mp ey).1
    obtain ⟨z, e3, e4⟩ := e2.get (List.getElem?_eq_getElem hi)
    rw [ey] at e3; cases e3
    exact ⟨B2, ds[i], Gr.refl s2, List.getElem?_eq_getElem hi, e4.mono s1⟩
theorem ei_tup {ds : List D} (h : EvE K te env (.tup ds)) : EvI K (iTup K te) env ds := fun B F σ hs vs R q => h B F σ hs vs _ fun B1 F1 x g r => by
  unfold Rep at r
  obtain ⟨a, ws, rfl, e1, e2⟩ := r
  refine ⟨a, rfl, ⟨ws, sqt_mono g.f e1⟩, q B1 F1 _ g ⟨fun F => SqT K F a ws, YAt ws, ?_, fun F hF => sqt_mono hF e1, fun i B2 F2 x F3 s1 s2 y => ?_⟩⟩
  · rw [← e2.len]; exact walk_tup
  · obtain ⟨rfl, ey⟩ := y
    have hi : i < ds.length := by rw [← e2.len]; exact (List.getElem?_eq_some_iff.mp ey).1
    obtain ⟨z, e3, e4⟩ := e2.get (List.getElem?_eq_getElem hi)
    rw [ey] at e3; cases e3
    exact ⟨B2, ds[i], Gr.refl s2, List.getElem?_eq_getElem hi, e4.mono s1⟩
def rng (lo : Int) (n : Nat) : List D := (List.range n).map fun (i : Nat) => D.int (lo + (i : Int))
theorem rng_len (lo : Int) (n : Nat) : (rng lo n).length = n := by simp [rng]
theorem wk_range {lo : Int} {n : Nat} {B : Hp} : Wk K (Itr lo n) B (rng lo n) := by
  refine ⟨fun _ => True, fun i H x H' => i < n ∧ H' = H ∧ x = .int (lo + i), ?_, fun _ _ => True.intro, fun i B2 F2 x F3 s1 s2 y => ?_⟩
  · rw [rng_len]; exact walk_range.mono (fun _ h => h) fun i H x H' hi _ y => ⟨hi, y⟩
  · obtain ⟨hi, rfl, rfl⟩ := y
    exact ⟨B2, .int (lo + i), Gr.refl s2, by simp [rng, hi], rp_int B2⟩
theorem ei_rng1 {n : Int} (h : EvE K te env (.int n)) (hn : -(2 ^ 62) ≤ n ∧ n < 2 ^ 62) : EvI K (iRng1 (tCons te tNil)) env (rng 0 n.toNat) := fun B F σ hs vs R q => (ea_cons h ea_nil) B F σ hs vs _ fun B1 F1 xs g r => by
  obtain ⟨x, rfl, r1⟩ := reps1 r
  unfold Rep at r1; subst r1
  exact ⟨n, rfl, hn.1, hn.2, q B1 F1 _ g wk_range⟩
theorem ei_rng2 {m n : Int} (h : EvE K ta env (.int m)) (h2 : EvE K tb env (.int n)) (hm : -(2 ^ 62) ≤ m ∧ m < 2 ^ 62) (hn : -(2 ^ 62) ≤ n ∧ n < 2 ^ 62) : EvI K (iRng2 (tCons ta (tCons tb tNil))) env (rng m (n - m).toNat) := fun B F σ hs vs R q => (ea_cons h (ea_cons h2 ea_nil)) B F σ hs vs _ fun B1 F1 xs g r => by
  obtain ⟨x, y, rfl, r1, r2⟩ := reps2 r
  unfold Rep at r1 r2; subst r1 r2
  exact ⟨m, n, rfl, ⟨hm.1, hm.2, hn.1, hn.2⟩, q B1 F1 _ g wk_range⟩
def chs (s : Str) : List D := s.cps.toList.map fun c => D.str ⟨#[c]⟩
theorem ei_str {s : Str} (h : EvE K te env (.str s)) : EvI K (iStr te) env (chs s) := fun B F σ hs vs R q => h B F σ hs vs _ fun B1 F1 x g r => by
  unfold Rep at r; subst r
  refine ⟨s, rfl, q B1 F1 _ g ⟨fun _ => True, fun i H v H' => H' = H ∧ ∃ c, s.cps[i]? = some c ∧ v = .str ⟨#[c]⟩, ?_, fun _ _ => True.intro, fun i B2 F2 x F3 s1 s2 y => ?_⟩⟩
  · have : (chs s).length = s.cps.size := by simp [chs]
    rw [this]; exact walk_str
  · obtain ⟨rfl, c, e, rfl⟩ := y
    refine ⟨B2, .str ⟨#[c]⟩, Gr.refl s2, ?_, rp_str B2⟩
    simp [chs, e]
def enum (ds : List D) : List D := (List.range ds.length).map fun i => D.tup [.int (i : Nat), ds.getD i .non]
theorem ei_enum {ds : List D} (h : EvE K te env (.lst ds)) : EvI K (iEnum K (tCons te tNil)) env (enum ds) := fun B F σ hs vs R q => (ea_cons h ea_nil) B F σ hs vs _ fun B1 F1 xs g r => by
  obtain ⟨x, rfl, r1⟩ := reps1 r
  unfold Rep at r1
  obtain ⟨a, ws, rfl, e1, e2⟩ := r1
  refine ⟨a, ws, rfl, g.f.seq e1, q B1 F1 _ g ⟨fun F => SqL K F a ws, fun i H x H' => i < ds.length ∧ YPair (fun i => some (.int (i : Nat))) (fun i => ws[i]?) i H x H', ?_, fun F hF => hF.seq e1, fun i B2 F2 x F3 s1 s2 y => ?_⟩⟩
  · have : (enum ds).length = ws.length := by simp [enum, e2.len]
    rw [this]
    exact walk_enum.mono (fun _ h => h) fun i H x H' hi _ y => ⟨by rw [← e2.len]; exact hi, y⟩
  · obtain ⟨hi, T, x1, y1, rfl, hT, rfl, h1, h2⟩ := y
    cases h1
    have h2 : ws[i]? = some y1 := h2
    obtain ⟨z, e3, e4⟩ := e2.get (List.getElem?_eq_getElem hi)
    rw [h2] at e3; cases e3
    refine ⟨_, .tup [.int (i : Nat), ds[i]], Gr.new s2 hT, ?_, rep_new_tup (s2.free hT) (Reps.cons (rp_int _) (Reps.cons (e4.mono s1) Reps.nil))⟩
    simp [enum, hi, List.getD_eq_getElem?_getD]
/-! ### comprehensions -/
theorem sub_wipe {σ : L2.St} {vs : List Nat} : ∀ i : Nat, (wipe σ vs)[i]? = if i ∈ vs ∧ i < σ.length then some none else σ[i]? := by
  intro i
  induction vs with
  | nil => simp [wipe]
  | cons v vs ih =>
    unfold wipe
    by_cases h : v = i
    · subst h
      by_cases hl : v < σ.length
      · rw [List.getElem?_set_self (by rw [wipe_length]; exact hl)]
        simp [hl]
      · rw [List.getElem?_eq_none (by simp [wipe_length]; omega)]
        simp [hl]
    · rw [List.getElem?_set_ne h, ih]
      have : (i ∈ v :: vs ↔ i ∈ vs) := by simp [Ne.symm h]
      simp [this]
theorem wipe_setsV {vs : List Nat} : ∀ {js : List Nat} {xs : List V} {σ : L2.St}, (∀ j ∈ js, j ∈ vs) → wipe (setsV σ js xs) vs = wipe σ vs
  | [], _, σ, _ => by simp [setsV]
  | j :: js, [], σ, _ => by simp [setsV]
  | j :: js, x :: xs, σ, h => by
    show wipe (setsV (σ.set j (some x)) js xs) vs = wipe σ vs
    rw [wipe_setsV fun k hk => h k (List.mem_cons_of_mem _ hk)]
    apply List.ext_getElem?
    intro i
    rw [sub_wipe, sub_wipe]
    have hj := h j List.mem_cons_self
    by_cases z : j = i
    · subst z
      by_cases hl : j < σ.length
      · simp [hj, hl]
      · simp [hl]
    · simp [List.getElem?_set_ne z]
theorem wipe_wipe {vs : List Nat} {σ : L2.St} : wipe (wipe σ vs) vs = wipe σ vs := by
  apply List.ext_getElem?
  intro i
  rw [sub_wipe, sub_wipe, wipe_length]
  split <;> rfl
def wipeE (env : List Slot) : List Nat → List Slot
  | [] => env
  | v :: vs => (wipeE env vs).set v .no
theorem wipeE_len (env : List Slot) : ∀ vs, (wipeE env vs).length = env.length
  | [] => rfl
  | v :: vs => by unfold wipeE; rw [List.length_set, wipeE_len env vs]
theorem wipeE_get {env : List Slot} {s : Slot} (hs : s ≠ .no) : ∀ {vs : List Nat} {i : Nat}, (wipeE env vs)[i]? = some s → env[i]? = some s ∧ i ∉ vs
  | [], i, h => ⟨h, by simp⟩
  | v :: vs, i, h => by
    unfold wipeE at h
    rcases get_set h with ⟨_, e, _⟩ | ⟨n, h⟩
    · exact absurd e.symm hs
    · obtain ⟨h1, h2⟩ := wipeE_get hs h
      exact ⟨h1, by simp [Ne.symm n, h2]⟩
theorem Vs.wiped {B F : Hp} {σ : L2.St} {env : List Slot} {vs : List Nat} (h : Vs K B F σ env) : Vs K B F (wipe σ vs) (wipeE env vs) := by
  have key : ∀ {i : Nat} {x : V}, i ∉ vs → σ[i]? = some (some x) → (wipe σ vs)[i]? = some (some x) := fun {i x} hi e => by
    rw [sub_wipe]; simp [hi, e]
  have back : ∀ {i : Nat} {x : V}, (wipe σ vs)[i]? = some (some x) → σ[i]? = some (some x) := fun {i x} e => (wipe_some e).1
  refine ⟨by rw [wipe_length, wipeE_len, h.len], fun i d q => ?_, fun i ds q => ?_, fun i j ds es p n q1 q2 e1 e2 => ?_⟩
  · obtain ⟨q, ni⟩ := wipeE_get (by simp) q
    obtain ⟨x, h1, h2⟩ := h.val i d q
    exact ⟨x, key ni h1, h2⟩
  · obtain ⟨q, ni⟩ := wipeE_get (by simp) q
    obtain ⟨p, ws, h1, h2⟩ := h.own i ds q
    exact ⟨p, ws, key ni h1, h2⟩
  · obtain ⟨q1, _⟩ := wipeE_get (by simp) q1
    obtain ⟨q2, _⟩ := wipeE_get (by simp) q2
    exact h.dis i j ds es p n q1 q2 (back e1) (back e2)
/-- a NEW list, not in the base -/
def EvN (K : PySem.W.Frag) (te : TE) (env : List Slot) (ds : List D) : Prop := ∀ B F σ, Same B F → Vs K B F σ env → ∀ Q : VK, (∀ B' F' p vs, Gr B F B' F' → F p = none → B' p = none → F' p = some (.lst vs) → Reps K B' ds vs → Q (.ref p) F') → te σ F Q
theorem Gr.freeze {H0 H1 B F : Hp} {p : Addr} {o : HO} (g : Gr H0 H1 B F) (h1 : H1 p = none) (hb : B p = none) (hf : F p = some o) : Gr H0 H1 (upd B p o) F :=
  ⟨g.b.trans (same_new hb), fun a u q => by
    by_cases z : a = p
    · subst z; rw [upd_same] at q; cases q; exact hf
    · rw [upd_ne z] at q; exact g.f _ _ q, g.s, fun a q1 q2 => by
    by_cases z : a = p
    · subst z; exact h1
    · rw [upd_ne z] at q1; exact g.n a q1 q2⟩
theorem EvN.ee {ds : List D} (h : EvN K te env ds) : EvE K te env (.lst ds) := fun B F σ hs vs Q q => h B F σ hs vs Q fun B' F' p ws g hF hB hp r =>
  q _ _ _ (g.freeze hF hB hp) (rep_new_lst hB r)
theorem en_lst {t : TA} {ds : List D} (h : EvA K t env ds) (hz : ds.length ≤ 1000) : EvN K (tLst t) env ds := fun B F σ hs vs Q q => h B F σ hs vs _ fun B1 F1 xs g r =>
  ⟨by rw [r.len]; exact Nat.le_of_lt (small1000 hz), fun p hp => q B1 _ p xs ⟨g.b, same_out g.f (g.f.free hp), g.s.trans (same_new hp), g.n⟩ (g.s.free hp) (g.f.free hp) upd_same r⟩
theorem en_listL {ds : List D} (h : EvE K te env (.lst ds)) : EvN K (tCB (rListOf K) (tCons te tNil)) env ds := fun B F σ hs vs Q q => (ea_cons h ea_nil) B F σ hs vs _ fun B1 F1 xs g r => by
  obtain ⟨x, rfl, r1⟩ := reps1 r
  unfold Rep at r1
  obtain ⟨a, vs, rfl, h1, h2⟩ := r1
  exact ⟨a, vs, rfl, .inl (g.f.seq h1), fun p hp => q B1 _ p vs ⟨g.b, same_out g.f (g.f.free hp), g.s.trans (same_new hp), g.n⟩ (g.s.free hp) (g.f.free hp) upd_same h2⟩
theorem en_listT {ds : List D} (h : EvE K te env (.tup ds)) : EvN K (tCB (rListOf K) (tCons te tNil)) env ds := fun B F σ hs vs Q q => (ea_cons h ea_nil) B F σ hs vs _ fun B1 F1 xs g r => by
  obtain ⟨x, rfl, r1⟩ := reps1 r
  unfold Rep at r1
  obtain ⟨a, vs, rfl, h1, h2⟩ := r1
  exact ⟨a, vs, rfl, .inr (sqt_mono g.f h1), fun p hp => q B1 _ p vs ⟨g.b, same_out g.f (g.f.free hp), g.s.trans (same_new hp), g.n⟩ (g.s.free hp) (g.f.free hp) upd_same h2⟩
theorem en_slL {tl th : TO} {ds : List D} {lo hi : Option Int} (h : EvE K te env (.lst ds)) (h1 : EvO K tl env lo) (h2 : EvO K th env hi) : EvN K (tSl (rSlL K) te tl th) env (cutD ds lo hi) := fun B F σ hs vs Q q =>
  h B F σ hs vs _ fun B1 F1 x g1 r1 => h1 B1 F1 σ g1.f (vs.grow g1) _ fun B2 F2 g2 => h2 B2 F2 σ g2.f (vs.grow (g1.trans g2)) _ fun B3 F3 g3 => by
    have r3 := r1.mono (g2.trans g3).b
    have g := (g1.trans g2).trans g3
    unfold Rep at r3
    obtain ⟨a, ws, rfl, e1, e2⟩ := r3
    exact ⟨a, ws, rfl, g3.f.seq e1, fun p hp => q B3 _ p _ ⟨g.b, same_out g.f (g.f.free hp), g.s.trans (same_new hp), g.n⟩ (g.s.free hp) (g.f.free hp) upd_same (cut_reps e2 lo hi)⟩
/-- list comprehension over anything walked, by the turn -/
def picked (f : Nat → Bool) (v : Nat → D) : Nat → List D
  | 0 => []
  | n + 1 => picked f v n ++ (if f n = true then [v n] else [])
theorem picked_len (f : Nat → Bool) (v : Nat → D) : ∀ n, (picked f v n).length ≤ n
  | 0 => Nat.le_refl _
  | n + 1 => by
    unfold picked
    have := picked_len f v n
    rw [List.length_append]
    split <;> simp <;> omega
theorem en_lcI {wi : TI} {g : TG} {tt : TT} {vs : List Nat} {ds : List D} (us : Nat → List (Nat × D)) (f : Nat → Bool) (v : Nat → D) (hi : EvI K wi env ds) (hz : ds.length ≤ 1000)
    (hg : ∀ i d, ds[i]? = some d → EvG K g d (us i)) (hj : ∀ i, i < ds.length → ∀ j ∈ (us i).map (·.1), j ∈ vs)
    (ht : ∀ i, i < ds.length → EvT K tt (sets (wipeE env vs) (us i)) (f i)) (he : ∀ i, i < ds.length → f i = true → EvE K te (sets (wipeE env vs) (us i)) (v i)) : EvN K (tLc wi g tt te vs) env (picked f v ds.length) := fun B F σ hs vS Q q =>
  hi B F σ hs vS _ fun B1 F1 J g1 w L hL => by
    obtain ⟨G, Y, wk, hG, hY⟩ := w.w
    have bL := g1.f.free hL
    have vW : ∀ B' F', Gr B F B' F' → Vs K B' F' (wipe σ vs) (wipeE env vs) := fun B' F' g => (vS.grow g).wiped
    refine lc_it wk (fun i F' => ∃ B' ws, Gr B1 F1 B' F' ∧ B' L = none ∧ F' L = some (.lst ws) ∧ Reps K B' (picked f v i) ws) ?_ ?_ ?_ ?_
    · exact ⟨B1, [], ⟨Same.refl _, same_out g1.f bL, same_new hL, fun a h1 h2 => absurd h2 h1⟩, bL, upd_same, Reps.nil⟩
    · rintro i F' _ ⟨B', ws, g2, _⟩
      exact hG F' (g2.b.trans g2.f)
    · rintro i x F2 F3 hi ⟨B2, ws, g2, b2, e2, r2⟩ hy
      obtain ⟨B3, d, g3, ed, rx⟩ := hY i B2 F2 x F3 g2.b g2.f hy
      refine hg i d ed B3 F3 _ x g3.f rx _ fun xs rxs => ?_
      refine ⟨(wipe_setsV (hj i hi)).trans wipe_wipe, ?_⟩
      have vs3 := (vW B3 F3 ((g1.trans g2).trans g3)).sets (σ := σ) rxs
      refine ht i hi B3 F3 _ g3.f vs3 _ fun B4 F4 g4 => ?_
      have g24 := g3.trans g4
      cases hf : f i with
      | true =>
        show te _ F4 _
        refine he i hi hf B4 F4 _ g4.f (vs3.grow g4) _ fun B5 F5 y g5 r5 => ?_
        have g25 := g24.trans g5
        refine ⟨ws, g25.s _ _ e2, ?_, B5, ws ++ [y], ⟨(g2.trans g25).b, same_out g5.f (g25.out b2 e2), same_out ((g2.trans g25).s) hL, (g2.trans g25).n⟩, g25.out b2 e2, upd_same, ?_⟩
        · rw [r2.len]
          exact Nat.lt_of_le_of_lt (Nat.le_trans (picked_len f v i) (Nat.le_of_lt hi)) (small1000 hz)
        · unfold picked
          simp only [hf, if_pos]
          exact (r2.mono g25.b).append (Reps.cons r5 Reps.nil)
      | false =>
        show ∃ B' ws, _
        refine ⟨B4, ws, g2.trans g24, g24.out b2 e2, g24.s _ _ e2, ?_⟩
        unfold picked
        simp only [hf]
        simpa using r2.mono g24.b
    · rintro F2 ⟨B2, ws, g2, b2, e2, r2⟩
      exact q B2 F2 L ws (g1.trans g2) (g1.s.free hL) b2 e2 r2
theorem et_yes : EvT K tYes env true := fun B F σ hs vs Q q => q B F (Gr.refl hs)
theorem picked_take {α : Type} (xs : List α) (f : α → Bool) (w : α → D) : ∀ n, n ≤ xs.length → picked (fun i => (xs[i]?.map f).getD false) (fun i => (xs[i]?.map w).getD .non) n = ((xs.take n).filter f).map w
  | 0, _ => by simp [picked]
  | n + 1, hn => by
    have hl : n < xs.length := by omega
    unfold picked
    rw [picked_take xs f w n (by omega), List.take_add_one, List.filter_append, List.map_append, List.getElem?_eq_getElem hl]
    congr 1
    show (if f xs[n] = true then [w xs[n]] else []) = List.map w (List.filter f [xs[n]])
    by_cases h : f xs[n] = true <;> simp [h]
/-- the typed form -/
theorem en_lcF {α : Type} {wi : TI} {g : TG} {tt : TT} {vs : List Nat} {rep : α → D} {xs : List α} (us : α → List (Nat × D)) (f : α → Bool) (w : α → D) (hi : EvI K wi env (xs.map rep)) (hz : xs.length ≤ 1000)
    (hg : ∀ x ∈ xs, EvG K g (rep x) (us x)) (hj : ∀ x ∈ xs, ∀ j ∈ (us x).map (·.1), j ∈ vs)
    (ht : ∀ x ∈ xs, EvT K tt (sets (wipeE env vs) (us x)) (f x)) (he : ∀ x ∈ xs, f x = true → EvE K te (sets (wipeE env vs) (us x)) (w x)) : EvN K (tLc wi g tt te vs) env ((xs.filter f).map w) := by
  have key := en_lcI (K := K) (te := te) (tt := tt) (g := g) (vs := vs) (fun i => (xs[i]?.map us).getD []) (fun i => (xs[i]?.map f).getD false) (fun i => (xs[i]?.map w).getD .non) hi (by simpa using hz)
    (fun i d h => by
      rw [List.getElem?_map] at h
      cases e : xs[i]? with
      | none => rw [e] at h; cases h
      | some x => rw [e] at h; cases h; exact hg x (List.mem_of_getElem? e))
    (fun i h => by
      have h : i < xs.length := by simpa using h
      simp only [List.getElem?_eq_getElem h]
      exact hj _ (List.getElem_mem h))
    (fun i h => by
      have h : i < xs.length := by simpa using h
      simp only [List.getElem?_eq_getElem h]
      exact ht _ (List.getElem_mem h))
    (fun i h hf => by
      have h : i < xs.length := by simpa using h
      simp only [List.getElem?_eq_getElem h] at hf ⊢
      exact he _ (List.getElem_mem h) hf)
  rw [List.length_map, picked_take xs f w xs.length (Nat.le_refl _), List.take_length] at key
  exact key
theorem en_lcM {α : Type} {wi : TI} {g : TG} {vs : List Nat} {rep : α → D} {xs : List α} (us : α → List (Nat × D)) (w : α → D) (hi : EvI K wi env (xs.map rep)) (hz : xs.length ≤ 1000)
    (hg : ∀ x ∈ xs, EvG K g (rep x) (us x)) (hj : ∀ x ∈ xs, ∀ j ∈ (us x).map (·.1), j ∈ vs) (he : ∀ x ∈ xs, EvE K te (sets (wipeE env vs) (us x)) (w x)) : EvN K (tLc wi g tYes te vs) env (xs.map w) := by
  have := en_lcF (K := K) (te := te) (tt := tYes) (g := g) (vs := vs) us (fun _ => true) w hi hz hg hj (fun _ _ => et_yes) (fun x hx _ => he x hx)
  have e : List.filter (fun _ => true) xs = xs := by simp
  rw [e] at this
  exact this
/-- one name -/
theorem en_lc1 {α : Type} {wi : TI} {j : Nat} {vs : List Nat} {rep : α → D} {xs : List α} (w : α → D) (hi : EvI K wi env (xs.map rep)) (hj : j ∈ vs) (hz : xs.length ≤ 1000)
    (he : ∀ x ∈ xs, EvE K te ((wipeE env vs).set j (.val (rep x))) (w x)) : EvN K (tLc wi (gName j) tYes te vs) env (xs.map w) :=
  en_lcM (fun x => [(j, rep x)]) w hi hz (fun _ _ => eg_name) (fun x _ k hk => by simp at hk; subst hk; exact hj) he
theorem en_lc1F {α : Type} {wi : TI} {j : Nat} {tt : TT} {vs : List Nat} {rep : α → D} {xs : List α} (f : α → Bool) (w : α → D) (hi : EvI K wi env (xs.map rep)) (hj : j ∈ vs) (hz : xs.length ≤ 1000)
    (ht : ∀ x ∈ xs, EvT K tt ((wipeE env vs).set j (.val (rep x))) (f x)) (he : ∀ x ∈ xs, f x = true → EvE K te ((wipeE env vs).set j (.val (rep x))) (w x)) : EvN K (tLc wi (gName j) tt te vs) env ((xs.filter f).map w) :=
  en_lcF (fun x => [(j, rep x)]) f w hi hz (fun _ _ => eg_name) (fun x _ k hk => by simp at hk; subst hk; exact hj) ht he
end
/-! ### own slots read -/
section
variable {K : PySem.W.Frag} {env : List Slot} {ta tb te tc : TE} {d d1 d2 : D}
theorem Vs.freeze {B F : Hp} {σ : L2.St} {i : Nat} {ds : List D} (h : Vs K B F σ env) (e : env[i]? = some (.own ds)) {p : Addr} {vs : List V} (hp : σ[i]? = some (some (.ref p))) (hb : B p = none) (hf : F p = some (.lst vs)) (r : Reps K B ds vs) :
    Vs K (upd B p (.lst vs)) F σ (env.set i (.val (.lst ds))) := by
  have sb : Same B (upd B p (.lst vs)) := same_new hb
  refine ⟨by rw [List.length_set, h.len], fun j d q => ?_, fun j es q => ?_, fun j k es fs q n q1 q2 e1 e2 => ?_⟩
  · rcases get_set q with ⟨rfl, e', hj⟩ | ⟨n, q⟩
    · cases e'; exact ⟨_, hp, rep_new_lst hb r⟩
    · obtain ⟨x, h1, h2⟩ := h.val j d q; exact ⟨x, h1, h2.mono sb⟩
  · rcases get_set q with ⟨rfl, e', hj⟩ | ⟨n, q⟩
    · cases e'
    · obtain ⟨p', ws, h1, h2, h3, h4⟩ := h.own j es q
      refine ⟨p', ws, h1, ?_, h3, h4.mono sb⟩
      have : p' ≠ p := fun z => by subst z; exact h.dis i j ds es p' n e q hp h1
      rw [upd_ne this]; exact h2
  · rcases get_set q1 with ⟨rfl, e', hj⟩ | ⟨n1, q1⟩
    · cases e'
    · rcases get_set q2 with ⟨rfl, e', hj⟩ | ⟨n2, q2⟩
      · cases e'
      · exact h.dis j k es fs q n q1 q2 e1 e2
/-- a list of one's own, read for a scalar -/
theorem ee_peek (i : Nat) {ds : List D} {v : V} (e : env[i]? = some (.own ds)) (h : EvE K te (env.set i (.val (.lst ds))) d) (hv : sV d = some v) : EvE K te env d := fun B F σ hs vs Q q => by
  obtain ⟨p, ws, h1, h2, h3, h4⟩ := vs.own i ds e
  have sF : Same (upd B p (.lst ws)) F := fun a u z => by
    by_cases k : a = p
    · subst k; rw [upd_same] at z; cases z; exact h3
    · rw [upd_ne k] at z; exact hs _ _ z
  refine h _ F σ sF (vs.freeze e h1 h2 h3 h4) Q fun B' F' x g r => ?_
  refine q B F' x ⟨Same.refl _, hs.trans g.s, g.s, fun a z1 z2 => absurd z2 z1⟩ ?_
  have hx := r.sc hv
  subst hx
  cases d <;> unfold sV at hv <;> cases hv <;> (unfold Rep; rfl)
theorem et_peek (i : Nat) {tt : TT} {ds : List D} {b : Bool} (e : env[i]? = some (.own ds)) (h : EvT K tt (env.set i (.val (.lst ds))) b) : EvT K tt env b := fun B F σ hs vs Q q => by
  obtain ⟨p, ws, h1, h2, h3, h4⟩ := vs.own i ds e
  have sF : Same (upd B p (.lst ws)) F := fun a u z => by
    by_cases k : a = p
    · subst k; rw [upd_same] at z; cases z; exact h3
    · rw [upd_ne k] at z; exact hs _ _ z
  exact h _ F σ sF (vs.freeze e h1 h2 h3 h4) Q fun B' F' g => q B F' ⟨Same.refl _, hs.trans g.s, g.s, fun a z1 z2 => absurd z2 z1⟩
theorem ee_ixO (i : Nat) {ds : List D} {k : Int} (e : env[i]? = some (.own ds)) (h2 : EvE K tb env (.int k)) (ha : atI ds k = some d) : EvE K (tOp (rIxL K) (tVar i) tb) env d := fun B F σ hs vs Q q => by
  obtain ⟨p, ws, e1, e2, e3, e4⟩ := vs.own i ds e
  refine ⟨_, e1, h2 B F σ hs vs _ fun B1 F1 y g1 r1 => ?_⟩
  unfold Rep at r1; subst r1
  obtain ⟨m, z1, z2⟩ := atI_len (xs := ws) e4.len ha
  obtain ⟨z, z3, z4⟩ := e4.get z1
  exact ⟨p, ws, k, z, rfl, rfl, .inl (.inl (g1.s _ _ e3)), z2 z z3, q B1 F1 _ g1 (z4.mono g1.b)⟩
/-! ### calls -/
def spR (K : PySem.W.Frag) (R : List D → D → Prop) : Sp := fun vs F Q _ => ∃ B ds r, Same B F ∧ Reps K B ds vs ∧ R ds r ∧ ∀ B' F' x, Gr B F B' F' → Rep K B' r x → Q x F'
theorem ee_call {R : List D → D → Prop} {E : XK} {t : TA} {ds : List D} (h : EvA K t env ds) (hr : R ds d) : EvE K (tCall (spR K R) [] E t) env d := fun B F σ hs vs Q q => h B F σ hs vs _ fun B1 F1 xs g r => by
  refine ⟨B1, ds, d, g.f, by simpa using r, hr, fun B2 F2 x g2 r2 => q B2 F2 x (g.trans g2) r2⟩
end
/-! ### statements -/
structure State (K : PySem.W.Frag) (H0 H1 B F : Hp) (σ : L2.St) (env : List Slot) : Prop where
  gr : Gr H0 H1 B F
  vs : Vs K B F σ env
  fr : ∀ (i : Nat) (ds : List D) (p : Addr), env[i]? = some (.own ds) → σ[i]? = some (some (.ref p)) → H1 p = none
def Nx (K : PySem.W.Frag) (H0 H1 : Hp) (n : L2.St → Hp → Prop) (env : List Slot) : Prop := ∀ B F σ, State K H0 H1 B F σ env → n σ F
def Go (K : PySem.W.Frag) (H0 H1 : Hp) (t : TS) (E : Ends) (env : List Slot) : Prop := Nx K H0 H1 (t E) env
section
variable {K : PySem.W.Frag} {H0 H1 : Hp} {env : List Slot} {ta tb te tc : TE} {d d1 d2 : D} {E : Ends} {t u : TS}
theorem State.grow {B F B' F' : Hp} {σ : L2.St} (h : State K H0 H1 B F σ env) (g : Gr B F B' F') : State K H0 H1 B' F' σ env := ⟨h.gr.trans g, h.vs.grow g, h.fr⟩
theorem State.set {B F : Hp} {σ : L2.St} (h : State K H0 H1 B F σ env) {j : Nat} {x : V} (r : Rep K B d x) : State K H0 H1 B F (σ.set j (some x)) (env.set j (.val d)) :=
  ⟨h.gr, h.vs.set r, fun i ds p q e => by
    rcases get_set q with ⟨rfl, e', hj⟩ | ⟨n, q⟩
    · cases e'
    · rw [List.getElem?_set_ne n] at e; exact h.fr i ds p q e⟩
theorem State.sets : ∀ {us : List (Nat × D)} {env : List Slot} {xs : List V} {B F : Hp} {σ : L2.St}, State K H0 H1 B F σ env → Reps K B (us.map (·.2)) xs → State K H0 H1 B F (setsV σ (us.map (·.1)) xs) (Z.sets env us)
  | [], env, xs, B, F, σ, h, r => by
    simp only [List.map_nil] at r
    unfold Reps at r; subst r
    simpa [setsV, Z.sets] using h
  | (j, d) :: us, env, xs, B, F, σ, h, r => by
    simp only [List.map_cons] at r
    unfold Reps at r
    obtain ⟨x, ws, rfl, h2, h3⟩ := r
    show State K H0 H1 B F (setsV (σ.set j (some x)) (us.map (·.1)) ws) (Z.sets (env.set j (.val d)) us)
    exact State.sets (h.set h2) h3
theorem State.freeze {B F : Hp} {σ : L2.St} {i : Nat} {ds : List D} (h : State K H0 H1 B F σ env) (e : env[i]? = some (.own ds)) : ∃ B', State K H0 H1 B' F σ (env.set i (.val (.lst ds))) := by
  obtain ⟨p, ws, h1, h2, h3, h4⟩ := h.vs.own i ds e
  exact ⟨_, h.gr.freeze (h.fr i ds p e h1) h2 h3, h.vs.freeze e h1 h2 h3 h4, fun j es q z1 z2 => by
    rcases get_set z1 with ⟨rfl, e', hj⟩ | ⟨n, z1⟩
    · cases e'
    · exact h.fr j es q z1 z2⟩
/-- env' says less than env -/
def Sub (env env' : List Slot) : Prop := env.length = env'.length ∧ ∀ (i : Nat) (s : Slot), env'[i]? = some s → s = .no ∨ env[i]? = some s
theorem Sub.refl (env : List Slot) : Sub env env := ⟨rfl, fun _ _ h => .inr h⟩
theorem State.sub {B F : Hp} {σ : L2.St} {env' : List Slot} (h : State K H0 H1 B F σ env) (s : Sub env env') : State K H0 H1 B F σ env' := by
  have back : ∀ {i : Nat} {x : Slot}, x ≠ .no → env'[i]? = some x → env[i]? = some x := fun hx e => (s.2 _ _ e).resolve_left hx
  exact ⟨h.gr, ⟨h.vs.len.trans s.1, fun i d q => h.vs.val i d (back (by simp) q), fun i ds q => h.vs.own i ds (back (by simp) q), fun i j ds es p n q1 q2 => h.vs.dis i j ds es p n (back (by simp) q1) (back (by simp) q2)⟩,
    fun i ds p q => h.fr i ds p (back (by simp) q)⟩
theorem nx_sub {n : L2.St → Hp → Prop} {env' : List Slot} (s : Sub env env') (h : Nx K H0 H1 n env') : Nx K H0 H1 n env := fun B F σ st => h B F σ (st.sub s)
theorem nx_freeze {n : L2.St → Hp → Prop} (i : Nat) {ds : List D} (e : env[i]? = some (.own ds)) (h : Nx K H0 H1 n (env.set i (.val (.lst ds)))) : Nx K H0 H1 n env := fun B F σ st => by
  obtain ⟨B', st'⟩ := st.freeze e
  exact h B' F σ st'
theorem go_seq (h : Go K H0 H1 t { E with nx := u E } env) : Go K H0 H1 (tSeq t u) E env := h
theorem go_next (h : Nx K H0 H1 E.nx env) : Go K H0 H1 tNext E env := h
theorem go_break (h : Nx K H0 H1 E.bk env) : Go K H0 H1 tBreak E env := h
theorem go_cont (h : Nx K H0 H1 E.ct env) : Go K H0 H1 tCont E env := h
theorem go_asg {i : Nat} (h : EvE K te env d) (k : Nx K H0 H1 E.nx (env.set i (.val d))) : Go K H0 H1 (tAsg te (gName i)) E env := fun B F σ st =>
  h B F σ st.gr.f st.vs _ fun B' F' x g r => k B' F' _ ((st.grow g).set r)
theorem go_asgG {g : TG} {us : List (Nat × D)} (h : EvE K te env d) (hg : EvG K g d us) (k : Nx K H0 H1 E.nx (sets env us)) : Go K H0 H1 (tAsg te g) E env := fun B F σ st =>
  h B F σ st.gr.f st.vs _ fun B' F' x gg r => hg B' F' σ x gg.f r _ fun xs rx => k B' F' _ ((st.grow gg).sets rx)
theorem go_own {i : Nat} {ds : List D} (h : EvN K te env ds) (k : Nx K H0 H1 E.nx (env.set i (.own ds))) : Go K H0 H1 (tAsg te (gName i)) E env := fun B F σ st =>
  h B F σ st.gr.f st.vs _ fun B' F' p vs g hF hB hp r => k B' F' _ (by
    have st' := st.grow g
    have nx : ∀ (j : Nat) (es : List D), env[j]? = some (.own es) → σ[j]? ≠ some (some (.ref p)) := fun j es e z => by
      obtain ⟨q, ws, h1, h2, h3, h4⟩ := st.vs.own j es e
      rw [h1] at z; cases z
      rw [hF] at h3; cases h3
    refine ⟨st'.gr, ⟨by simp [st'.vs.len], fun j d q => ?_, fun j es q => ?_, fun j k es fs q n q1 q2 e1 e2 => ?_⟩, fun j es q z1 z2 => ?_⟩
    · rcases get_set q with ⟨rfl, e', hj⟩ | ⟨n, q⟩
      · cases e'
      · rw [List.getElem?_set_ne n]; exact st'.vs.val j d q
    · rcases get_set q with ⟨rfl, e', hj⟩ | ⟨n, q⟩
      · cases e'
        exact ⟨p, vs, List.getElem?_set_self (by rw [st'.vs.len]; exact hj), hB, hp, r⟩
      · rw [List.getElem?_set_ne n]; exact st'.vs.own j es q
    · rcases get_set q1 with ⟨rfl, e', hj⟩ | ⟨n1, q1⟩
      · rcases get_set q2 with ⟨rfl, e'', hk⟩ | ⟨n2, q2⟩
        · exact n rfl
        · rw [List.getElem?_set_self (by rw [st'.vs.len]; exact hj)] at e1
          cases e1
          rw [List.getElem?_set_ne n2] at e2
          exact nx k fs q2 e2
      · rw [List.getElem?_set_ne n1] at e1
        rcases get_set q2 with ⟨rfl, e'', hk⟩ | ⟨n2, q2⟩
        · rw [List.getElem?_set_self (by rw [st'.vs.len]; exact hk)] at e2
          cases e2
          exact nx j es q1 e1
        · rw [List.getElem?_set_ne n2] at e2
          exact st'.vs.dis j k es fs q n q1 q2 e1 e2
    · rcases get_set z1 with ⟨rfl, e', hj⟩ | ⟨n, z1⟩
      · rw [List.getElem?_set_self (by rw [st'.vs.len]; exact hj)] at z2
        cases z2
        exact st.gr.s.free hF
      · rw [List.getElem?_set_ne n] at z2; exact st'.fr j es q z1 z2)
/-- a list of one's own is written -/
theorem State.put {B F : Hp} {σ : L2.St} {i : Nat} {ds es : List D} {vs ws : List V} {p : Addr} (h : State K H0 H1 B F σ env) (e : env[i]? = some (.own ds)) (hp : σ[i]? = some (some (.ref p))) (hb : B p = none) (r : Reps K B es ws) :
    State K H0 H1 B (upd F p (.lst ws)) σ (env.set i (.own es)) := by
  have h1 := h.fr i ds p e hp
  have hi : i < env.length := (List.getElem?_eq_some_iff.mp e).1
  refine ⟨⟨h.gr.b, same_out h.gr.f hb, same_out h.gr.s h1, h.gr.n⟩, ⟨by rw [List.length_set, h.vs.len], fun j d q => ?_, fun j es' q => ?_, fun j k es' fs q n q1 q2 e1 e2 => ?_⟩, fun j es' q z1 z2 => ?_⟩
  · rcases get_set q with ⟨rfl, e', hj⟩ | ⟨n, q⟩
    · cases e'
    · exact h.vs.val j d q
  · rcases get_set q with ⟨rfl, e', hj⟩ | ⟨n, q⟩
    · cases e'
      exact ⟨p, ws, hp, hb, upd_same, r⟩
    · obtain ⟨q', us, g1, g2, g3, g4⟩ := h.vs.own j es' q
      refine ⟨q', us, g1, g2, ?_, g4⟩
      have : q' ≠ p := fun z => by subst z; exact h.vs.dis i j ds es' q' n e q hp g1
      rw [upd_ne this]; exact g3
  · have old : ∀ (m : Nat) (fs : List D), (env.set i (.own es))[m]? = some (.own fs) → ∃ gs, env[m]? = some (.own gs) := fun m fs z => by
      rcases get_set z with ⟨rfl, e', hj⟩ | ⟨n, z⟩
      · exact ⟨ds, e⟩
      · exact ⟨fs, z⟩
    obtain ⟨_, a1⟩ := old j es' q1
    obtain ⟨_, a2⟩ := old k fs q2
    exact h.vs.dis j k _ _ q n a1 a2 e1 e2
  · rcases get_set z1 with ⟨rfl, e', hj⟩ | ⟨n, z1⟩
    · rw [hp] at z2; cases z2; exact h1
    · exact h.fr j es' q z1 z2
theorem go_app {i : Nat} {ds : List D} (e : env[i]? = some (.own ds)) (h : EvE K te env d) (hz : ds.length ≤ 1000) (k : Nx K H0 H1 E.nx (env.set i (.own (ds ++ [d])))) :
    Go K H0 H1 (tDrop (tBM K "list" rAppend (tVar i) (tCons te tNil))) E env := fun B F σ st => by
  obtain ⟨p, ws, h1, h2, h3, h4⟩ := st.vs.own i ds e
  refine ⟨_, h1, .inl ⟨rfl, ws, .inl (.inl h3)⟩, h B F σ st.gr.f st.vs _ fun B1 F1 x g r => ?_⟩
  have st1 := st.grow g
  refine ⟨p, ws, x, rfl, rfl, g.s _ _ h3, ?_, ?_⟩
  · rw [h4.len]; exact small1000 hz
  · exact k B1 _ σ (st1.put (vs := ws) e h1 (g.out h2 h3) ((h4.mono g.b).append (Reps.cons r Reps.nil)))
theorem go_setL {i : Nat} {ds : List D} {k : Nat} {tk : TE} (e : env[i]? = some (.own ds)) (h : EvE K te env d) (hk : EvE K tk env (.int (k : Int))) (hb : k < ds.length) (q : Nx K H0 H1 E.nx (env.set i (.own (ds.set k d)))) :
    Go K H0 H1 (tAsg te (gSub (tVar i) tk rSetL)) E env := fun B F σ st => h B F σ st.gr.f st.vs _ fun B1 F1 x g r => by
  have st1 := st.grow g
  obtain ⟨p, ws, h1, h2, h3, h4⟩ := st1.vs.own i ds e
  refine ⟨_, h1, hk B1 F1 σ st1.gr.f st1.vs _ fun B2 F2 y g2 r2 => ?_⟩
  unfold Rep at r2; subst r2
  have st2 := st1.grow g2
  refine ⟨p, ws, (k : Int), k, rfl, rfl, g2.s _ _ h3, Evl.ixN_nat (by rw [h4.len]; exact hb), ?_⟩
  exact q B2 _ σ (st2.put (vs := ws) e h1 (g2.out h2 h3) (Reps.set (r.mono g2.b) k (h4.mono g2.b)))
theorem go_drop (h : EvE K te env d) (k : Nx K H0 H1 E.nx env) : Go K H0 H1 (tDrop te) E env := fun B F σ st => h B F σ st.gr.f st.vs _ fun B' F' x g r => k B' F' σ (st.grow g)
def Rt (K : PySem.W.Frag) (H0 H1 : Hp) (rt : VK) (d : D) : Prop := ∀ B F x, Gr H0 H1 B F → Rep K B d x → rt x F
theorem go_ret (h : EvE K te env d) (k : Rt K H0 H1 E.rt d) : Go K H0 H1 (tRet te) E env := fun B F σ st => h B F σ st.gr.f st.vs _ fun B' F' x g r => k B' F' x (st.gr.trans g) r
theorem Rt.is {rt : VK} {d' : D} (h : Rt K H0 H1 rt d) (e : d' = d) : Rt K H0 H1 rt d' := e ▸ h
theorem go_if {tt : TT} {b : Bool} (h : EvT K tt env b) (h1 : b = true → Go K H0 H1 t E env) (h2 : b = false → Go K H0 H1 u E env) : Go K H0 H1 (tIfS tt t u) E env := fun B F σ st => h B F σ st.gr.f st.vs _ fun B' F' g => by
  cases b with
  | true => exact h1 rfl B' F' σ (st.grow g)
  | false => exact h2 rfl B' F' σ (st.grow g)
/-- both ways meet in env' -/
theorem go_ifJ {tt : TT} {b : Bool} (env' : List Slot) (h : EvT K tt env b) (k : Nx K H0 H1 E.nx env') (h1 : Nx K H0 H1 E.nx env' → b = true → Go K H0 H1 t E env) (h2 : Nx K H0 H1 E.nx env' → b = false → Go K H0 H1 u E env) : Go K H0 H1 (tIfS tt t u) E env := go_if h (h1 k) (h2 k)
/-- if c: x = e -/
theorem go_ifAsg {tt : TT} {b : Bool} {i : Nat} {old : D} (h : EvT K tt env b) (ho : env[i]? = some (.val old)) (h1 : b = true → EvE K te env d) (k : Nx K H0 H1 E.nx (env.set i (.val (if b = true then d else old)))) : Go K H0 H1 (tIfS tt (tAsg te (gName i)) tNext) E env :=
  go_if h (fun hb => go_asg (h1 hb) (by simpa [hb] using k)) (fun hb => go_next (by
    have e : env.set i (.val old) = env := by
      apply List.ext_getElem?
      intro j
      by_cases z : i = j
      · subst z
        rw [List.getElem?_set_self (List.getElem?_eq_some_iff.mp ho).1, ho]
      · rw [List.getElem?_set_ne z]
    have e2 : (if b = true then d else old) = old := by simp [hb]
    rw [e2, e] at k
    exact k))
theorem Gr.rebase {H0 H1 B1 F1 B F : Hp} (g : Gr H0 H1 B1 F1) (h : Gr B1 H1 B F) : Gr H0 H1 B F :=
  ⟨g.b.trans h.b, h.f, h.s, fun a h1 h2 => by
    by_cases z : B1 a = none
    · exact h.n a h1 z
    · exact g.n a z h2⟩
/-- a loop, the slots and a fact told by the turn -/
theorem go_forP {wi : TI} {g : TG} {ds : List D} (Pn : Nat → Prop) (en : Nat → List Slot) (us : Nat → List (Nat × D)) (hi : EvI K wi env ds) (p0 : Pn 0) (h0 : Sub env (en 0)) (hg : ∀ i d, ds[i]? = some d → EvG K g d (us i))
    (hs : ∀ i, i < ds.length → Pn i → ∀ (G0 : Hp) (E' : Ends), (∀ r, Rt K H0 H1 E.rt r → Rt K G0 H1 E'.rt r) → (∀ ev, Nx K H0 H1 E.nx ev → Nx K G0 H1 E'.bk ev) →
      (Pn (i + 1) → Nx K G0 H1 E'.nx (en (i + 1))) → (Pn (i + 1) → Nx K G0 H1 E'.ct (en (i + 1))) → Go K G0 H1 t E' (sets (en i) (us i))) (hd : Pn ds.length → Nx K H0 H1 E.nx (en ds.length)) : Go K H0 H1 (tFor wi g t) E env := fun B F σ st =>
  hi B F σ st.gr.f st.vs _ fun B1 F1 J g1 w => by
    obtain ⟨G, Y, wk, hG, hY⟩ := w.w
    have st1 := st.grow g1
    have sta : State K B1 H1 B1 F1 σ (en 0) := (⟨⟨Same.refl _, st1.gr.f, st1.gr.s, fun a h1 h2 => absurd h2 h1⟩, st1.vs, st1.fr⟩ : State K B1 H1 B1 F1 σ env).sub h0
    refine for_it wk (fun i σ' F' => Pn i ∧ ∃ B', State K B1 H1 B' F' σ' (en i)) ⟨p0, B1, sta⟩ ?_ ?_ ?_
    · rintro i σ' F' _ ⟨_, B', st'⟩
      exact hG F' (st'.gr.b.trans st'.gr.f)
    · rintro i x σ' F2 F3 hl ⟨pi, B2, st2⟩ hy
      obtain ⟨B3, d, g3, ed, rx⟩ := hY i B2 F2 x F3 st2.gr.b st2.gr.f hy
      refine hg i d ed B3 F3 _ x g3.f rx _ fun xs rxs => ?_
      have st3 := (st2.grow g3).sets rxs
      exact hs i hl pi B1 { E with nx := fun σ' F' => Pn (i + 1) ∧ ∃ B', State K B1 H1 B' F' σ' (en (i + 1)), ct := fun σ' F' => Pn (i + 1) ∧ ∃ B', State K B1 H1 B' F' σ' (en (i + 1)), bk := E.nx } (fun r hr B F x g => hr B F x (st1.gr.rebase g)) (fun ev hn B F σ s => hn B F σ ⟨st1.gr.rebase s.gr, s.vs, s.fr⟩)
        (fun pn B F σ s => ⟨pn, B, s⟩) (fun pn B F σ s => ⟨pn, B, s⟩) B3 F3 _ st3
    · rintro σ' F2 ⟨pn, B2, st2⟩
      exact hd pn B2 F2 σ' ⟨st1.gr.rebase st2.gr, st2.vs, st2.fr⟩
theorem go_for {wi : TI} {g : TG} {ds : List D} (en : Nat → List Slot) (us : Nat → List (Nat × D)) (hi : EvI K wi env ds) (h0 : Sub env (en 0)) (hg : ∀ i d, ds[i]? = some d → EvG K g d (us i))
    (hs : ∀ i, i < ds.length → ∀ (G0 : Hp) (E' : Ends), (∀ r, Rt K H0 H1 E.rt r → Rt K G0 H1 E'.rt r) → (∀ ev, Nx K H0 H1 E.nx ev → Nx K G0 H1 E'.bk ev) →
      Nx K G0 H1 E'.nx (en (i + 1)) → Nx K G0 H1 E'.ct (en (i + 1)) → Go K G0 H1 t E' (sets (en i) (us i))) (hd : Nx K H0 H1 E.nx (en ds.length)) : Go K H0 H1 (tFor wi g t) E env :=
  go_forP (fun _ => True) en us hi trivial h0 hg (fun i hl _ G0 E' h1 h2 h3 h4 => hs i hl G0 E' h1 h2 (h3 trivial) (h4 trivial)) (fun _ => hd)
theorem go_for1P {α : Type} {wi : TI} {j : Nat} {rep : α → D} {xs : List α} (Pn : Nat → Prop) (en : Nat → List Slot) (hi : EvI K wi env (xs.map rep)) (p0 : Pn 0) (h0 : Sub env (en 0))
    (hs : ∀ i x, xs[i]? = some x → Pn i → ∀ (G0 : Hp) (E' : Ends), (∀ r, Rt K H0 H1 E.rt r → Rt K G0 H1 E'.rt r) → (∀ ev, Nx K H0 H1 E.nx ev → Nx K G0 H1 E'.bk ev) →
      (Pn (i + 1) → Nx K G0 H1 E'.nx (en (i + 1))) → (Pn (i + 1) → Nx K G0 H1 E'.ct (en (i + 1))) → Go K G0 H1 t E' ((en i).set j (.val (rep x)))) (hd : Pn xs.length → Nx K H0 H1 E.nx (en xs.length)) : Go K H0 H1 (tFor wi (gName j) t) E env := by
  refine go_forP Pn en (fun i => (xs[i]?.map fun x => [(j, rep x)]).getD []) hi p0 h0 (fun i d h => ?_) (fun i hl pi G0 E' h1 h2 h3 h4 => ?_) (by simpa using hd)
  · rw [List.getElem?_map] at h
    cases e : xs[i]? with
    | none => rw [e] at h; cases h
    | some x => rw [e] at h; cases h; exact eg_name
  · have hl : i < xs.length := by simpa using hl
    have e := List.getElem?_eq_getElem hl
    rw [e]
    exact hs i xs[i] e pi G0 E' h1 h2 h3 h4
/-- one name for the turn's item, typed -/
theorem go_for1 {α : Type} {wi : TI} {j : Nat} {rep : α → D} {xs : List α} (en : Nat → List Slot) (hi : EvI K wi env (xs.map rep)) (h0 : Sub env (en 0))
    (hs : ∀ i x, xs[i]? = some x → ∀ (G0 : Hp) (E' : Ends), (∀ r, Rt K H0 H1 E.rt r → Rt K G0 H1 E'.rt r) → (∀ ev, Nx K H0 H1 E.nx ev → Nx K G0 H1 E'.bk ev) →
      Nx K G0 H1 E'.nx (en (i + 1)) → Nx K G0 H1 E'.ct (en (i + 1)) → Go K G0 H1 t E' ((en i).set j (.val (rep x)))) (hd : Nx K H0 H1 E.nx (en xs.length)) : Go K H0 H1 (tFor wi (gName j) t) E env := by
  refine go_for en (fun i => (xs[i]?.map fun x => [(j, rep x)]).getD []) hi h0 (fun i d h => ?_) (fun i hl G0 E' h1 h2 h3 h4 => ?_) (by simpa using hd)
  · rw [List.getElem?_map] at h
    cases e : xs[i]? with
    | none => rw [e] at h; cases h
    | some x => rw [e] at h; cases h; exact eg_name
  · have hl : i < xs.length := by simpa using hl
    have e := List.getElem?_eq_getElem hl
    rw [e]
    exact hs i xs[i] e G0 E' h1 h2 h3 h4
theorem go_range {j : Nat} {n : Int} (m : Nat) (en : Nat → List Slot) (h : EvE K te env (.int n)) (hm : n.toNat = m) (hn : n < 2 ^ 62 ∧ -(2 ^ 62) ≤ n) (h0 : Sub env (en 0))
    (hs : ∀ i : Nat, i < m → ∀ (G0 : Hp) (E' : Ends), (∀ r, Rt K H0 H1 E.rt r → Rt K G0 H1 E'.rt r) → (∀ ev, Nx K H0 H1 E.nx ev → Nx K G0 H1 E'.bk ev) →
      Nx K G0 H1 E'.nx (en (i + 1)) → Nx K G0 H1 E'.ct (en (i + 1)) → Go K G0 H1 t E' ((en i).set j (.val (.int (i : Int))))) (hd : Nx K H0 H1 E.nx (en m)) : Go K H0 H1 (tFor (iRng1 (tCons te tNil)) (gName j) t) E env := by
  subst hm
  have e : rng 0 n.toNat = (List.range n.toNat).map (fun (i : Nat) => D.int (i : Int)) := by simp [rng]
  have hi := ei_rng1 h ⟨hn.2, hn.1⟩
  rw [e] at hi
  refine go_for1 (rep := fun (i : Nat) => D.int (i : Int)) en hi h0 (fun i x hx => ?_) (by simpa using hd)
  have hl : i < n.toNat := by
    have := (List.getElem?_eq_some_iff.mp hx).1
    simpa using this
  have : i = x := by simpa [hl] using hx
  subst this
  exact hs i hl
/-! ### the same, something behind -/
theorem q_asg {i : Nat} (h : EvE K te env d) (k : Go K H0 H1 u E (env.set i (.val d))) : Go K H0 H1 (tSeq (tAsg te (gName i)) u) E env := go_asg (E := { E with nx := u E }) h k
theorem q_asgG {g : TG} {us : List (Nat × D)} (h : EvE K te env d) (hg : EvG K g d us) (k : Go K H0 H1 u E (sets env us)) : Go K H0 H1 (tSeq (tAsg te g) u) E env := go_asgG (E := { E with nx := u E }) h hg k
theorem q_own {i : Nat} {ds : List D} (h : EvN K te env ds) (k : Go K H0 H1 u E (env.set i (.own ds))) : Go K H0 H1 (tSeq (tAsg te (gName i)) u) E env := go_own (E := { E with nx := u E }) h k
theorem q_app {i : Nat} {ds : List D} (e : env[i]? = some (.own ds)) (h : EvE K te env d) (hz : ds.length ≤ 1000) (k : Go K H0 H1 u E (env.set i (.own (ds ++ [d])))) :
    Go K H0 H1 (tSeq (tDrop (tBM K "list" rAppend (tVar i) (tCons te tNil))) u) E env := go_app (E := { E with nx := u E }) e h hz k
theorem q_setL {i : Nat} {ds : List D} {k : Nat} {tk : TE} (e : env[i]? = some (.own ds)) (h : EvE K te env d) (hk : EvE K tk env (.int (k : Int))) (hb : k < ds.length) (q : Go K H0 H1 u E (env.set i (.own (ds.set k d)))) :
    Go K H0 H1 (tSeq (tAsg te (gSub (tVar i) tk rSetL)) u) E env := go_setL (E := { E with nx := u E }) e h hk hb q
theorem q_freeze (i : Nat) {ds : List D} (e : env[i]? = some (.own ds)) (h : Go K H0 H1 u E (env.set i (.val (.lst ds)))) : Go K H0 H1 u E env := nx_freeze i e h
theorem q_sub {env' : List Slot} (s : Sub env env') (h : Go K H0 H1 u E env') : Go K H0 H1 u E env := nx_sub s h
theorem q_drop (h : EvE K te env d) (k : Go K H0 H1 u E env) : Go K H0 H1 (tSeq (tDrop te) u) E env := go_drop (E := { E with nx := u E }) h k
theorem q_if {tt : TT} {b : Bool} {v : TS} (h : EvT K tt env b) (h1 : b = true → Go K H0 H1 t { E with nx := v E } env) (h2 : b = false → Go K H0 H1 u { E with nx := v E } env) : Go K H0 H1 (tSeq (tIfS tt t u) v) E env := go_if (E := { E with nx := v E }) h h1 h2
/-- an if without else, left by every way through it -/
theorem q_leave {tt : TT} {b : Bool} {v : TS} (h : EvT K tt env b) (h1 : b = true → Go K H0 H1 t { E with nx := v E } env) (h2 : b = false → Go K H0 H1 v E env) : Go K H0 H1 (tSeq (tIfS tt t tNext) v) E env := go_if (E := { E with nx := v E }) h h1 h2
theorem q_ifAsg {tt : TT} {b : Bool} {i : Nat} {old : D} (h : EvT K tt env b) (ho : env[i]? = some (.val old)) (h1 : b = true → EvE K te env d) (k : Go K H0 H1 u E (env.set i (.val (if b = true then d else old)))) : Go K H0 H1 (tSeq (tIfS tt (tAsg te (gName i)) tNext) u) E env :=
  go_ifAsg (E := { E with nx := u E }) h ho h1 k
/-- both ways meet in env' -/
theorem q_ifJ {tt : TT} {b : Bool} {v : TS} (env' : List Slot) (h : EvT K tt env b) (h1 : ∀ E' : Ends, E'.rt = E.rt → E'.bk = E.bk → E'.ct = E.ct → Nx K H0 H1 E'.nx env' → b = true → Go K H0 H1 t E' env) (h2 : ∀ E' : Ends, E'.rt = E.rt → E'.bk = E.bk → E'.ct = E.ct → Nx K H0 H1 E'.nx env' → b = false → Go K H0 H1 u E' env) (k : Go K H0 H1 v E env') : Go K H0 H1 (tSeq (tIfS tt t u) v) E env :=
  go_if (E := { E with nx := v E }) h (h1 _ rfl rfl rfl k) (h2 _ rfl rfl rfl k)
theorem q_for1 {α : Type} {wi : TI} {j : Nat} {rep : α → D} {xs : List α} (en : Nat → List Slot) (hi : EvI K wi env (xs.map rep)) (h0 : Sub env (en 0))
    (hs : ∀ i x, xs[i]? = some x → ∀ (G0 : Hp) (E' : Ends), (∀ r, Rt K H0 H1 E.rt r → Rt K G0 H1 E'.rt r) → (∀ ev, Go K H0 H1 u E ev → Nx K G0 H1 E'.bk ev) →
      Nx K G0 H1 E'.nx (en (i + 1)) → Nx K G0 H1 E'.ct (en (i + 1)) → Go K G0 H1 t E' ((en i).set j (.val (rep x)))) (hd : Go K H0 H1 u E (en xs.length)) : Go K H0 H1 (tSeq (tFor wi (gName j) t) u) E env := go_for1 (E := { E with nx := u E }) en hi h0 hs hd
theorem q_for {wi : TI} {g : TG} {ds : List D} (en : Nat → List Slot) (us : Nat → List (Nat × D)) (hi : EvI K wi env ds) (h0 : Sub env (en 0)) (hg : ∀ i d, ds[i]? = some d → EvG K g d (us i))
    (hs : ∀ i, i < ds.length → ∀ (G0 : Hp) (E' : Ends), (∀ r, Rt K H0 H1 E.rt r → Rt K G0 H1 E'.rt r) → (∀ ev, Go K H0 H1 u E ev → Nx K G0 H1 E'.bk ev) →
      Nx K G0 H1 E'.nx (en (i + 1)) → Nx K G0 H1 E'.ct (en (i + 1)) → Go K G0 H1 t E' (sets (en i) (us i))) (hd : Go K H0 H1 u E (en ds.length)) : Go K H0 H1 (tSeq (tFor wi g t) u) E env := go_for (E := { E with nx := u E }) en us hi h0 hg hs hd
theorem q_range {j : Nat} {n : Int} (m : Nat) (en : Nat → List Slot) (h : EvE K te env (.int n)) (hm : n.toNat = m) (hn : n < 2 ^ 62 ∧ -(2 ^ 62) ≤ n) (h0 : Sub env (en 0))
    (hs : ∀ i : Nat, i < m → ∀ (G0 : Hp) (E' : Ends), (∀ r, Rt K H0 H1 E.rt r → Rt K G0 H1 E'.rt r) → (∀ ev, Go K H0 H1 u E ev → Nx K G0 H1 E'.bk ev) →
      Nx K G0 H1 E'.nx (en (i + 1)) → Nx K G0 H1 E'.ct (en (i + 1)) → Go K G0 H1 t E' ((en i).set j (.val (.int (i : Int))))) (hd : Go K H0 H1 u E (en m)) : Go K H0 H1 (tSeq (tFor (iRng1 (tCons te tNil)) (gName j) t) u) E env := go_range (E := { E with nx := u E }) m en h hm hn h0 hs hd
theorem q_for1P {α : Type} {wi : TI} {j : Nat} {rep : α → D} {xs : List α} (Pn : Nat → Prop) (en : Nat → List Slot) (hi : EvI K wi env (xs.map rep)) (p0 : Pn 0) (h0 : Sub env (en 0))
    (hs : ∀ i x, xs[i]? = some x → Pn i → ∀ (G0 : Hp) (E' : Ends), (∀ r, Rt K H0 H1 E.rt r → Rt K G0 H1 E'.rt r) → (∀ ev, Go K H0 H1 u E ev → Nx K G0 H1 E'.bk ev) →
      (Pn (i + 1) → Nx K G0 H1 E'.nx (en (i + 1))) → (Pn (i + 1) → Nx K G0 H1 E'.ct (en (i + 1))) → Go K G0 H1 t E' ((en i).set j (.val (rep x)))) (hd : Pn xs.length → Go K H0 H1 u E (en xs.length)) : Go K H0 H1 (tSeq (tFor wi (gName j) t) u) E env := go_for1P (E := { E with nx := u E }) Pn en hi p0 h0 hs hd
/-- Sub, decided slot by slot -/
theorem sub_nil : Sub [] [] := Sub.refl []
theorem sub_cons {s : Slot} {a b : List Slot} (h : Sub a b) : Sub (s :: a) (s :: b) := ⟨by simp [h.1], fun i x e => by
  cases i with
  | zero => simp at e; right; simp [e]
  | succ i => simp at e; have := h.2 i x e; simpa using this⟩
theorem sub_no {s : Slot} {a b : List Slot} (h : Sub a b) : Sub (s :: a) (.no :: b) := ⟨by simp [h.1], fun i x e => by
  cases i with
  | zero => simp at e; left; exact e.symm
  | succ i => simp at e; have := h.2 i x e; simpa using this⟩
end
/-! ### a def -/
structure Cal (P : Program) (w : World) (K : PySem.W.Frag) (mg : Str → Option Value) (base : Heap) (x : Str) (k : Nat) (ps : List Str) (sp : Sp) : Prop where
  h : ∃ (f : Addr) (fd : FuncData), mg x = some (.ref f) ∧ PySem.W.keepIn K (.ref f) = true ∧ FnOk P w K mg base CX0 k f fd ps sp ∧ Binds K fd ps [] ∧ ∀ ws : List Value, ws.length = ps.length → bindArgs fd ⟨[], ps.zip ws⟩ = pure (ps.zip ws)
def startE (N : List Str) (ds : List D) : List Slot := ds.map .val ++ List.replicate (N.length - ds.length) .no
section
variable {P : Program} {w : World} {K : PySem.W.Frag} {mg : Str → Option Value} {base : Heap}
theorem Reps.getB {H : Hp} : ∀ {ds : List D} {vs : List V} {i : Nat} {d : D}, Reps K H ds vs → ds[i]? = some d → ∃ x, vs[i]? = some x ∧ Rep K H d x := Reps.get
theorem start_state {N : List Str} {H0 H1 : Hp} {ds : List D} {vs : List V} (s : Same H0 H1) (r : Reps K H0 ds vs) : State K H0 H1 H0 H1 (L2.start N vs) (startE N ds) := by
  have hl := r.len
  have noO : ∀ (i : Nat) (es : List D), (startE N ds)[i]? ≠ some (.own es) := fun i es h => by
    unfold startE at h
    have := List.mem_of_getElem? h
    simp at this
  refine ⟨Gr.refl s, ⟨by simp [L2.start, startE, hl], fun i d h => ?_, fun i es h => absurd h (noO i es), fun i j es fs p n h => absurd h (noO i es)⟩, fun i es p h => absurd h (noO i es)⟩
  unfold startE at h
  by_cases hi : i < ds.length
  · rw [List.getElem?_append_left (by simpa using hi)] at h
    simp [hi] at h
    obtain ⟨x, h1, h2⟩ := r.get (List.getElem?_eq_getElem hi)
    refine ⟨x, ?_, by rw [← h]; exact h2⟩
    unfold L2.start
    rw [List.getElem?_append_left (by simp [hl, hi])]
    simp [h1]
  · rw [List.getElem?_append_right (by simpa using hi)] at h
    have := List.mem_of_getElem? h
    simp at this
/-- THE RULE for a def -/
theorem ok_def {x qual : Str} {st : Stmt} {f : Addr} {fd : FuncData} {N ps : List Str} {k : Nat} {R : List D → D → Prop} (F : Fun K x qual st f fd) (S : FnScope N ps (defScope st)) (len : ∀ ds r, R ds r → ds.length = ps.length)
    (hbody : ∀ (cdv : Value) (A : Around) (outer : List Env) (s : Shared) (H : Hp) (E : XK), Room k (A.deeper (envOfC qual (defScope st) s.heap.objs.size f cdv)) →
      ∃ t, PSs (cxOf CX0 P w K mg base N qual (defScope st) f cdv A outer s H E).nox (defBody st) t ∧ ∀ ds r, R ds r → ∀ H0 H1 E, Rt K H0 H1 E.rt r → Go K H0 H1 t E (startE N ds)) : FnOk P w K mg base CX0 (k + 1) f fd ps (spR K R) := by
  refine F.ok S (fun vs H Q E h => ?_) (fun cdv A outer s H vs Q E hr h => ?_)
  · obtain ⟨B, ds, r, _, h2, h3, _⟩ := h
    rw [h2.len, len ds r h3]
  · obtain ⟨t, ht, hg⟩ := hbody cdv A outer s H E hr
    obtain ⟨B, ds, r, h1, h2, h3, h4⟩ := h
    exact ⟨t, ht, hg ds r h3 B H { nx := fun _ H' => Q .non H', rt := Q } (fun B' F' x g rx => h4 B' F' x g rx) B H _ (start_state h1 h2)⟩
theorem Cal.mk' {x qual : Str} {st : Stmt} {f : Addr} {fd : FuncData} {ps : List Str} {k : Nat} {sp : Sp} (F : Fun K x qual st f fd) (g : mg x = some (.ref f)) (ok : FnOk P w K mg base CX0 k f fd ps sp)
    (h : ∀ (kV doc pm : Value) (an : Option Addr) (cdv ct : Value) (us : List Value), us.length = ps.length → bindArgs (PySem.W.fnOf x qual (defArgs st) (defBody st) (defScope st) .none kV doc pm an cdv ct) ⟨us, []⟩ = pure (ps.zip us))
    (hk : ∀ (kV doc pm : Value) (an : Option Addr) (cdv ct : Value) (us : List Value), us.length = ps.length → bindArgs (PySem.W.fnOf x qual (defArgs st) (defBody st) (defScope st) .none kV doc pm an cdv ct) ⟨[], ps.zip us⟩ = pure (ps.zip us)) : Cal P w K mg base x k ps sp := by
  refine ⟨f, fd, g, F.kp, ok, F.binds h, ?_⟩
  obtain ⟨oc, od, kV, doc, pm, an, cdv, ct, osl, rfl, lk, hcd⟩ := F.ex
  exact hk kV doc pm an cdv ct
theorem Cal.mono {x : Str} {ps : List Str} {j k : Nat} {sp : Sp} (c : Cal P w K mg base x j ps sp) (h : j ≤ k) : Cal P w K mg base x k ps sp := by
  obtain ⟨f, fd, h1, h2, h3, h4, h5⟩ := c.h
  exact ⟨f, fd, h1, h2, h3.mono h, h4, h5⟩
end
section
variable {X : Cx}
theorem pe_cal {x : Str} {k : Nat} {ps : List Str} {sp : Sp} {p pos : Pos} {e : Expr} {es : List Expr} {t : TA} (c : Cal X.prog X.w X.K X.mg X.base x k ps sp) (hr : Room k X.A) (hg : Gl X x) (h : PA X (e :: es) t) (hdb : (x == ("__debug__" : Str)) = false := by decide) (he : starEach (e :: es) X.env = (false, eval e X.env) :: starEach es X.env := by rfl) (hpl : (backTo pos (starEach es X.env)).any (·.1) = false := by rfl) :
    PE X (.Call (.Name x p) (e :: es) [] pos) (tCall sp [] E0 t) := by
  obtain ⟨f, fd, h1, h2, h3, h4, _⟩ := c.h
  exact pe_call h3 hr hg h1 h2 h4 .nil pass0 h hdb he hpl
/-- all arguments by name, in the parameters' order -/
theorem pe_calK {x : Str} {k : Nat} {ps : List Str} {sp : Sp} {p pos : Pos} {kws : List Keyword} {t : TA} (c : Cal X.prog X.w X.K X.mg X.base x k ps sp) (hr : Room k X.A) (hg : Gl X x) (hkw : PK X kws t)
    (hall : (backToKw pos (keywordEach kws X.env)).all (·.1.isSome) = true := by rfl) (hks : (backToKw pos (keywordEach kws X.env)).filterMap (·.1) = ps := by rfl) (hdb : (x == ("__debug__" : Str)) = false := by decide)
    (hpl : ((backTo pos (starEach [] X.env)).any (·.1) || (backToKw pos (keywordEach kws X.env)).any (·.1.isNone)) = false := by rfl) : PE X (.Call (.Name x p) [] kws pos) (tCall sp [] E0 t) := by
  obtain ⟨f, fd, h1, h2, F, h4, kb⟩ := c.h
  refine ⟨fun pins s σ H Q I h => ?_⟩
  refine wpAny_Call_Name_kw (ld_glob I hg h1 ?_ hdb)
  refine PySem.W.callWith_KW0 (h₀ := X.base) I.ok.mod.kin h2 hall ?_ hpl
  refine thn (hkw.run pos pins s σ H _ I h) fun ws s2 ⟨zs, H2, I2, rz, q2⟩ => ⟨I2.kIn, ?_⟩
  rw [hks]
  have q2 : sp zs H2 Q E0 := by simpa using q2
  have hl : ws.length = ps.length := by rw [← rz.length]; exact F.len _ _ _ _ q2
  refine wpAny_call (codeAny_mono (F.run X.A X.stack s2 H2 ⟨[], ps.zip ws⟩ ws zs Q E0 hr I2.env0 (.of_eq (kb ws hl)) rz q2) fun r s' hq => ?_)
  cases r with
  | error e => exact (hq : False).elim
  | ok fl =>
    cases fl with
    | ret u => exact I2.after hq
    | next => exact False.elim hq
    | brk => exact False.elim hq
    | cont => exact False.elim hq
end
end Z

namespace Z
open PySem PySem.Spec PyProof.Rows L2
/-! ### texts by their signs -/
abbrev S (l : List Nat) : Str := SX.S l
def stx (l : List Nat) : D := .str (S l)
theorem S_len (l : List Nat) : (S l).length = l.length := SX.S_len l
theorem sz100 {n : Nat} (h : n ≤ 100000) : n ≤ sizeLine := Nat.le_trans h (by decide)
theorem S_dec {a b : List Nat} : decide (S a = S b) = decide (a = b) := by
  by_cases h : a = b
  · simp [h]
  · have : ¬ S a = S b := fun e => h (SX.S_inj e)
    simp [h, this]
theorem S_cut (l : List Nat) (lo hi : Option Int) : cutS (S l) lo hi = S (cutD l lo hi) := by
  unfold cutS cutD
  rw [S_len]
theorem cutD_length {α : Type} (l : List α) (lo hi : Option Int) : (cutD l lo hi).length ≤ l.length := by
  unfold cutD
  rw [List.length_take, List.length_drop]; omega
theorem cut_from {α : Type} (l : List α) (k : Nat) : cutD l (some (k : Int)) none = l.drop k := by
  unfold cutD
  rw [HT.sIx_nat, HT.sIx_none]
  by_cases h : k ≤ l.length
  · rw [Nat.min_eq_left h, List.take_of_length_le (by rw [List.length_drop]; omega)]
  · rw [Nat.min_eq_right (by omega), List.drop_of_length_le (Nat.le_refl _), List.drop_of_length_le (by omega)]; simp
theorem cut_to {α : Type} (l : List α) (k : Nat) : cutD l none (some (k : Int)) = l.take k := by
  unfold cutD
  rw [HT.sIx_nat, HT.sIx_none, List.drop_zero, Nat.sub_zero]
  by_cases h : k ≤ l.length
  · rw [Nat.min_eq_left h]
  · rw [Nat.min_eq_right (by omega), List.take_of_length_le (Nat.le_refl _), List.take_of_length_le (by omega)]
theorem cut_mid {α : Type} (l : List α) (j k : Nat) : cutD l (some (j : Int)) (some (k : Int)) = (l.take k).drop j := by
  unfold cutD
  rw [HT.sIx_nat, HT.sIx_nat]
  apply List.ext_getElem?
  intro i
  simp only [List.getElem?_take, List.getElem?_drop]
  by_cases h : j ≤ l.length
  · rw [Nat.min_eq_left h]
    by_cases h2 : k ≤ l.length
    · rw [Nat.min_eq_left h2]
      by_cases h3 : i < k - j
      · rw [if_pos h3, if_pos (by omega)]
      · rw [if_neg h3, if_neg (by omega)]
    · rw [Nat.min_eq_right (by omega)]
      by_cases h3 : i < l.length - j
      · rw [if_pos h3, if_pos (by omega)]
      · rw [if_neg h3]
        split
        · rw [List.getElem?_eq_none (by omega)]
        · rfl
  · have e1 : min j l.length = l.length := Nat.min_eq_right (by omega)
    rw [e1, List.getElem?_eq_none (l := l) (i := l.length + i) (by omega)]
    have e : l[j + i]? = none := List.getElem?_eq_none (by omega)
    rw [e]; simp
section
variable {K : PySem.W.Frag} {env : List Slot} {ta tb te tc : TE} {d d1 d2 : D} {a b l : List Nat}
theorem ee_lenX (h : EvE K te env (.str (S l))) (hz : l.length ≤ 100000) : EvE K (tCB (rLen1 K) (tCons te tNil)) env (.int (l.length : Nat)) := by
  have := ee_lenS h (by rw [S_len]; exact sz100 hz)
  rw [S_len] at this
  exact this
theorem ee_catX (h1 : EvE K ta env (.str (S a))) (h2 : EvE K tb env (.str (S b))) (hz : a.length + b.length ≤ 100000) : EvE K (tOp (fun x y H Q => ∃ i j, x = .str i ∧ y = .str j ∧ i.length + j.length ≤ sizeLine ∧ Q (.str (i ++ j)) H) ta tb) env (.str (S (a ++ b))) := by
  have := ee_catS h1 h2 (by rw [S_len, S_len]; exact sz100 hz)
  rw [SX.S_cat] at this
  exact this
theorem ee_ixX {k : Int} {c : Nat} (h1 : EvE K ta env (.str (S l))) (h2 : EvE K tb env (.int k)) (hz : l.length ≤ 100000) (ha : atI l k = some c) : EvE K (tOp rIxS ta tb) env (.str (S [c])) :=
  ee_ixS h1 h2 (by rw [S_len]; exact sz100 hz) ha
theorem ee_slX {tl th : TO} {lo hi : Option Int} (h : EvE K te env (.str (S l))) (h1 : EvO K tl env lo) (h2 : EvO K th env hi) (hz : l.length ≤ 100000) : EvE K (tSl rSlS te tl th) env (.str (S (cutD l lo hi))) := by
  have := ee_slS h h1 h2 (by rw [S_len]; exact sz100 hz)
  rw [S_cut] at this
  exact this
theorem ee_splitX {c : Nat} (h1 : EvE K ta env (.str (S l))) (h2 : EvE K tb env (.str (S [c]))) (hc : c < 256) (hz : l.length ≤ 100000) :
    EvE K (tM1 (fun x xs H Q => ∃ a b, x = .str a ∧ xs = [.str b] ∧ (b.length == 0) = false ∧ a.length + 2 ≤ sizeLine ∧ rNewStrs (Txt.split a b) H Q) ta tb) env (.lst ((TL.spl [c] 0 [] l).map stx)) := by
  have := ee_split h1 h2 (by rw [S_len]; rfl) (by rw [S_len]; exact Nat.le_trans (Nat.add_le_add_right hz 2) (by decide))
  rw [SX.split_S (by simp) (by simp [hc]), List.map_map] at this
  exact this
theorem S_sum : ∀ ys : List (List Nat), ((ys.map S).map (·.length)).sum = (ys.map (·.length)).sum
  | [] => rfl
  | y :: ys => by
    show (S y).length + ((ys.map S).map (·.length)).sum = y.length + (ys.map (·.length)).sum
    rw [S_len, S_sum ys]
theorem ee_joinX {ys : List (List Nat)} (h1 : EvE K ta env (.str (S a))) (h2 : EvE K tb env (.lst (ys.map stx))) (hz : (ys.map (·.length)).sum + ys.length * a.length ≤ 100000) :
    EvE K (tM1 (fun x xs H Q => ∃ a p, ∃ ys : List Str, x = .str a ∧ xs = [.ref p] ∧ (SqL K H p (ys.map V.str) ∨ SqT K H p (ys.map V.str)) ∧ (ys.map (·.length)).sum + ys.length * a.length ≤ 16777216 ∧ Q (.str (Txt.join a ys)) H) ta tb) env (.str (S (TL.joinL a ys))) := by
  have e : ys.map stx = (ys.map S).map .str := by rw [List.map_map]; rfl
  rw [e] at h2
  have := ee_join h1 h2 (by rw [S_sum, List.length_map, S_len]; omega)
  rw [SX.join_S] at this
  exact this
theorem ei_strX (h : EvE K te env (.str (S l))) : EvI K (iStr te) env (l.map fun c => stx [c]) := by
  have := ei_str h
  unfold chs at this
  exact this
theorem ee_inX {c : Nat} (h1 : EvE K ta env (.str (S [c]))) (h2 : EvE K tb env (.str (S l))) : EvE K (tOp (fun x y H Q => ∃ (c : Nat) (z : Str), x = .str ⟨#[c]⟩ ∧ y = .str z ∧ Q (.bl (decide (c ∈ z.cps.toList))) H) ta tb) env (.bl (decide (c ∈ l))) := ee_inS h1 h2
theorem ee_ninX {c : Nat} (h1 : EvE K ta env (.str (S [c]))) (h2 : EvE K tb env (.str (S l))) : EvE K (tOp (fun x y H Q => ∃ (c : Nat) (z : Str), x = .str ⟨#[c]⟩ ∧ y = .str z ∧ Q (.bl (!decide (c ∈ z.cps.toList))) H) ta tb) env (.bl (!decide (c ∈ l))) := ee_ninS h1 h2
theorem ee_eqX (h1 : EvE K ta env (.str (S a))) (h2 : EvE K tb env (.str (S b))) : EvE K (tOp rEq ta tb) env (.bl (decide (a = b))) := by
  have := ee_eqS h1 h2
  rw [S_dec] at this
  exact this
theorem ee_neX (h1 : EvE K ta env (.str (S a))) (h2 : EvE K tb env (.str (S b))) : EvE K (tOp rNe ta tb) env (.bl (!decide (a = b))) := by
  have := ee_neS h1 h2
  rw [S_dec] at this
  exact this
theorem starts1 (l : List Nat) (c : Nat) : Txt.startswith (S l) (S [c]) = decide (l.head? = some c) := by
  unfold Txt.startswith
  rw [S_len, S_len, PySem.StrLaws.subAt_eq]
  cases l with
  | nil => simp
  | cons x r =>
    show (decide (0 + 1 ≤ r.length + 1) && ([x] == [c])) = decide (some x = some c)
    have e : decide (0 + 1 ≤ r.length + 1) = true := decide_eq_true (by omega)
    rw [e, Bool.true_and]
    by_cases h : x = c
    · subst h; simp
    · have h2 : ¬ some x = some c := fun z => h (Option.some.inj z)
      rw [decide_eq_false h2]
      simp [h]
theorem ee_startsX {c : Nat} (h1 : EvE K ta env (.str (S l))) (h2 : EvE K tb env (.str (S [c]))) : EvE K (tM1 (fun x xs H Q => ∃ a b, x = .str a ∧ xs = [.str b] ∧ Q (.bl (Txt.startswith a b)) H) ta tb) env (.bl (decide (l.head? = some c))) := by
  have := ee_startswith h1 h2
  rw [starts1] at this
  exact this
/-- a written text, by its signs -/
theorem ee_strX {s : Str} (h : s.cps.toList = l) : EvE K (tC (.str s)) env (.str (S l)) := by
  have e : s = S l := by subst h; exact (SX.S_tl s).symm
  rw [e]; exact ee_str
/-! isinstance of scalars -/
theorem ee_isi {v : V} {n : String} {t : String} {b : Bool} (h : EvE K te env d) (hv : sV d = some v) (ht : ∀ H, TyX K H v (.type t)) (hb : PySem.W.kitOne K (.type t) (.type n) = some b) :
    EvE K (tCB (rIsi K) (tCons te (tCons (tC (.ty n)) tNil))) env (.bl b) := ee_cb (ea_cons h (ea_cons (d := .v (.ty n)) ee_v ea_nil)) fun B F xs hs r Q q => by
  obtain ⟨x, y, rfl, r1, r2⟩ := reps2 r
  have := r1.sc hv; subst this
  unfold Rep at r2; subst r2
  exact ⟨x, _, _, _, b, rfl, .ty n, ht F, hb, q B F _ (Gr.refl hs) (rp_bl B)⟩
end
/-! ### the rules that name the written part, told it -/
section
variable (K : PySem.W.Frag) {X : Cx}
theorem k_call_len (h : X.K = K := by rfl) : CallR X (.builtin "len") (rLen1 K) := by subst h; exact call_len
theorem k_list_of (h : X.K = K := by rfl) : CallR X (.type "list") (rListOf K) := by subst h; exact call_list_of
theorem k_tuple_of (h : X.K = K := by rfl) : CallR X (.type "tuple") (rTupOf K) := by subst h; exact call_tuple_of
theorem k_all (h : X.K = K := by rfl) (hc : X.calm = true := by rfl) : CallR X (.builtin "all") (rAll K) := by subst h; exact cr_all hc
theorem k_any (h : X.K = K := by rfl) (hc : X.calm = true := by rfl) : CallR X (.builtin "any") (rAny K) := by subst h; exact cr_any hc
theorem k_sum (h : X.K = K := by rfl) (hc : X.calm = true := by rfl) : CallR X (.builtin "sum") (rSum K) := by subst h; exact cr_sum hc
theorem k_maxL (h : X.K = K := by rfl) (hc : X.calm = true := by rfl) : CallR X (.builtin "max") (rMax K) := by subst h; exact cr_max hc
theorem k_minL (h : X.K = K := by rfl) (hc : X.calm = true := by rfl) : CallR X (.builtin "min") (rMin K) := by subst h; exact cr_min hc
theorem k_isi (h : X.K = K := by rfl) : CallR X (.builtin "isinstance") (rIsi K) := by subst h; exact call_isi
theorem k_ix_list (h : X.K = K := by rfl) : IxR X (rIxL K) := by subst h; exact ix_list
theorem k_ix_tup (h : X.K = K := by rfl) : IxR X (rIxT K) := by subst h; exact ix_tup
theorem k_sl_list (h : X.K = K := by rfl) : SlR X (rSlL K) := by subst h; exact sl_list
theorem k_in_seq (h : X.K = K := by rfl) : OpR X (compareOp .In) (rIn K false) := by subst h; exact op_in_seq
theorem k_notIn_seq (h : X.K = K := by rfl) : OpR X (compareOp .NotIn) (rIn K true) := by subst h; exact op_notIn_seq
theorem k_eqD (hu : X.A.units + 64 < cLine) (h : X.K = K := by rfl) : OpR X (compareOp .Eq) (rEqD K) := by subst h; exact op_eqD hu
theorem k_neD (hu : X.A.units + 64 < cLine) (h : X.K = K := by rfl) : OpR X (compareOp .NotEq) (rNeD K) := by subst h; exact op_neD hu
theorem k_pi_list {tg e : Expr} {te : TE} (he : PE X e te) (h : X.K = K := by rfl) : PI X tg e (iList K te) := by subst h; exact pi_list he
theorem k_pi_tup {tg e : Expr} {te : TE} (he : PE X e te) (h : X.K = K := by rfl) : PI X tg e (iTup K te) := by subst h; exact pi_tup he
theorem k_pg_tup {es : List Expr} {k : Nat} {t : TGs} {n : Nat} {pos : Pos} (hc : X.calm = true) (h : PGs X es t) (hn : (assignEach es X.env).length = n := by rfl) (hst : (assignEach es X.env).findIdx? (·.1) = none := by rfl) (hK : X.K = K := by rfl) : PG X (.Tuple es k pos) (gTup K n t) := by
  subst hK; exact pg_tup hc h hn hst
theorem k_pg_unl {es : List Expr} {k : Nat} {t : TGs} {n : Nat} {pos : Pos} (hc : X.calm = true) (h : PGs X es t) (hn : (assignEach es X.env).length = n := by rfl) (hst : (assignEach es X.env).findIdx? (·.1) = none := by rfl) (hK : X.K = K := by rfl) : PG X (.Tuple es k pos) (gUnl K n t) := by
  subst hK; exact pg_unl hc h hn hst
theorem k_pi_enum {e : Expr} {ta : TA} {p pos tpos : Pos} {elts : List Expr} {kk : Nat} (hg : Gl X "enumerate") (hm : X.mg "enumerate" = none) (ha : PA X [e] ta) (hs : starEach [e] X.env = [(false, eval e X.env)] := by rfl) (hK : X.K = K := by rfl) :
    PI X (.Tuple elts kk tpos) (.Call (.Name "enumerate" p) [e] [] pos) (iEnum K ta) := by subst hK; exact pi_enum hg hm ha hs
theorem k_pi_zip {e e2 : Expr} {ta : TA} {p pos tpos : Pos} {elts : List Expr} {kk : Nat} (hg : Gl X "zip") (hm : X.mg "zip" = none) (ha : PA X [e, e2] ta)
    (hs : starEach [e, e2] X.env = (false, eval e X.env) :: starEach [e2] X.env := by rfl) (hpl : (backTo pos (starEach [e2] X.env)).any (·.1) = false := by rfl) (hK : X.K = K := by rfl) :
    PI X (.Tuple elts kk tpos) (.Call (.Name "zip" p) [e, e2] [] pos) (iZip K ta) := by subst hK; exact pi_zip hg hm ha hs hpl
theorem k_mt_join (h : X.K = K := by rfl) : MtR X "str.join" (fun x xs H Q => ∃ a p, ∃ ys : List Str, x = .str a ∧ xs = [.ref p] ∧ (SqL K H p (ys.map V.str) ∨ SqT K H p (ys.map V.str)) ∧ (ys.map (·.length)).sum + ys.length * a.length ≤ 16777216 ∧ Q (.str (Txt.join a ys)) H) := by
  subst h; exact mt_join
end
theorem atI_pos {α : Type} {l : List α} {k : Int} {x : α} (h0 : 0 ≤ k) (h : l[k.toNat]? = some x) : atI l k = some x := by
  have e : k = ((k.toNat : Nat) : Int) := by omega
  rw [e]; exact atI_nat h
theorem sum_ones {α : Type} : ∀ l : List α, (l.map fun _ => 1).sum = l.length
  | [] => rfl
  | x :: l => by
    show 1 + (l.map fun _ => 1).sum = l.length + 1
    rw [sum_ones l]; omega
theorem rng_nat (n : Nat) : rng 0 ((n : Nat) : Int).toNat = (List.range n).map (fun (i : Nat) => D.int (i : Int)) := by simp [rng]
section
variable {K : PySem.W.Frag} {env : List Slot} {te : TE}
/-- range(n), n a length -/
theorem ei_rngN {n : Nat} (h : EvE K te env (.int (n : Int))) (hn : n ≤ 100000) : EvI K (iRng1 (tCons te tNil)) env ((List.range n).map fun (i : Nat) => D.int (i : Int)) := by
  have := ei_rng1 h ⟨by omega, by omega⟩
  rw [rng_nat] at this
  exact this
end
theorem get_getD {α : Type} {l : List α} {i : Nat} {d : α} (h : i < l.length) : l[i]? = some (l.getD i d) := by simp [List.getD_eq_getElem?_getD, h]
section
variable {K : PySem.W.Frag} {H0 H1 : Hp} {env : List Slot} {te : TE} {d old : D} {E : Ends} {u : TS}
/-- if c: x = e, told by what x holds behind it -/
theorem q_ifSet {tt : TT} {b : Bool} {i : Nat} (h : EvT K tt env b) (ho : env[i]? = some (.val old)) (h1 : b = true → EvE K te env d) (h2 : b = false → old = d) (k : Go K H0 H1 u E (env.set i (.val d))) : Go K H0 H1 (tSeq (tIfS tt (tAsg te (gName i)) tNext) u) E env := by
  cases b with
  | true => exact q_ifAsg h ho h1 (by simpa using k)
  | false =>
    have e := h2 rfl
    subst e
    exact q_ifAsg (d := old) h ho (fun z => by cases z) (by simpa using k)
end
theorem law_start {K : PySem.W.Frag} {H : Hp} {a : Addr} {ns : List Int} {R : List D → D → Prop} (hS : SqL K H a (ns.map V.int)) (h : R [.lst (ns.map .int)] (.bl true)) {E : XK} : spR K R [.ref a] H (fun v _ => v = .bl true) E :=
  ⟨H, [.lst (ns.map .int)], .bl true, Same.refl _, Reps.cons (by unfold Rep; exact ⟨a, _, rfl, hS, reps_ints ns⟩) Reps.nil, h, fun B' F' x g rx => by unfold Rep at rx; exact rx⟩
end Z

/-! Z4: wide ints, gcd and lcm, stars, list + list, truth, a, b = .., new lists that a call returns. -/
namespace Z
open PySem PySem.Spec PyProof.Rows L2 StX
section
variable {X : Cx}
def CFd (_ j : Int) : Prop := j ≠ 0 ∧ j.natAbs.log2 < 9000
theorem op_fdvX : OpR X (binaryOp .FloorDiv) (rI CFd fun i j => .int (i.fdiv j)) := opI fun i j _ _ _ _ _ hc q => floordiv_int hc.1 q (.inl (PyProof.noPylong_of_log2 hc.2))
def rLcm : List V → Hp → VK → Prop := fun vs H Q => ∃ a b : Int, vs = [.int a, .int b] ∧ a.natAbs.log2 < 9000 ∧ b.natAbs.log2 < 9000 ∧ Q (.int ((Nat.lcm a.natAbs b.natAbs : Nat) : Int)) H
theorem lcm_fits {a b : Nat} (ha : a.log2 < 9000) (hb : b.log2 < 9000) : ((((Nat.lcm 1 a).lcm b : Nat) : Int)).natAbs.log2 < bitsLine := by
  rw [PySem.W.mc_lcm_one, Int.natAbs_natCast]
  have e : bitsLine = 134217728 := by decide
  have h1 : a < 2 ^ 9000 := Nat.lt_of_lt_of_le Nat.lt_log2_self (Nat.pow_le_pow_right (by decide) (by omega))
  have h2 : b < 2 ^ 9000 := Nat.lt_of_lt_of_le Nat.lt_log2_self (Nat.pow_le_pow_right (by decide) (by omega))
  have h3 : a.lcm b < 2 ^ 18000 := by
    refine Nat.lt_of_le_of_lt (PySem.W.mc_lcm_le a b) ?_
    rw [show 18000 = 9000 + 9000 from rfl, Nat.pow_add]
    exact Nat.mul_lt_mul'' h1 h2
  have := PySem.Flt.log2_lt_of (k := 18000) (by decide) h3
  omega
theorem cr_lcm : CallR X (.builtin "math.lcm") rLcm := by
  intro pins s σ H vs us Q I r h
  obtain ⟨a, b, rfl, ha, hb, q⟩ := h
  obtain ⟨t, u, rfl⟩ := Vals.int2 r
  have mx : ∀ x y : Nat, x.log2 < 9000 → y.log2 < 9000 → ¬ (max x y).log2 / 30 + 1 > 450 := fun x y hx hy => by
    rcases Nat.le_total x y with h | h
    · rw [Nat.max_eq_right h]; omega
    · rw [Nat.max_eq_left h]; omega
  exact call_function_meets PySem.W.MGF.kind_lcm PySem.W.MGF.plain_lcm PySem.W.MGF.entry_lcm (PySem.W.MGF.args_lcm _ _) (PySem.W.mg_run_lcm a t b u (mx 1 _ (by decide) ha) (mx _ _ ha hb) (lcm_fits ha hb)).meets
    ⟨.int _, H, I.tok _, ⟨_, rfl⟩, by rw [PySem.W.mc_lcm_one]; exact q⟩
/-- list + list, written ones too -/
def rCatS (K : PySem.W.Frag) : R2 := fun x y H Q => ∃ l b xs zs, x = .ref l ∧ y = .ref b ∧ SqL K H l xs ∧ SqL K H b zs ∧ xs.length + zs.length ≤ sizeLine ∧ ∀ p, H p = none → Q (.ref p) (upd H p (.lst (xs ++ zs)))
theorem op_catS : OpR X (binaryOp .Add) (rCatS X.K) := by
  intro pins s σ H x y v u Q I rx ry h
  obtain ⟨l, b, xs, zs, rfl, rfl, hH, hB, hz, q⟩ := h
  cases rx
  cases ry
  obtain ⟨its, r, ⟨⟨cls, dd, data, sl⟩, n, ho, hc, hd0, hd⟩, _⟩ := I.list hH
  obtain ⟨its2, r2, ⟨⟨cls2, dd2, data2, sl2⟩, n2, ho2, hc2, hd20, hd2⟩, _⟩ := I.list hB
  simp only at hc hd hc2 hd2
  subst hc hd hc2 hd2
  have hl1 := r.length
  have hl2 := r2.length
  refine concat_meets ⟨_, ho, rfl⟩ ⟨_, ho2, rfl⟩ noFill_list_add seq_list_add PySem.F.slot_list_add PySem.F.entry_list_add (PySem.F.args_list_add_2 _ _) (list_addW l b its.toArray its2.toArray n n2 dd dd2 sl sl2 (by rw [List.size_toArray, List.size_toArray]; omega)) ⟨ho, ho2, ?_⟩
  have ea : its.toArray ++ its2.toArray = (its ++ its2).toArray := by simp
  rw [ea]
  exact ⟨.ref _, _, I.lnew (t' := s.toks) (r.append r2) (by rw [List.length_append]; omega), rfl, q _ I.fresh⟩
end
theorem k_catS (K : PySem.W.Frag) {X : Cx} (h : X.K = K := by rfl) : OpR X (binaryOp .Add) (rCatS K) := by subst h; exact op_catS
theorem k_starA (K : PySem.W.Frag) {X : Cx} {e : Expr} {es : List Expr} {p : Pos} {te : TE} {t : TA} (he : PE X e te) (hr : PA X es t) (h : X.K = K := by rfl) (hs : starEach (.Starred e p :: es) X.env = (true, eval e X.env) :: starEach es X.env := by rfl) : PA X (.Starred e p :: es) (tStar K te t) := by subst h; exact pa_star he hr hs
section
variable {K : PySem.W.Frag} {env : List Slot} {ta tb te tc : TE} {d d1 d2 : D} {i j : Int}
theorem ee_fdv (h1 : EvE K ta env (.int i)) (h2 : EvE K tb env (.int j)) (hc : CFd i j) : EvE K (tOp (rI CFd fun i j => .int (i.fdiv j)) ta tb) env (.int (i.fdiv j)) := ee_I h1 h2 hc rp_int
theorem ee_mulW (h1 : EvE K ta env (.int i)) (h2 : EvE K tb env (.int j)) (hc : CMulW i j) : EvE K (tOp (rI CMulW fun i j => .int (i * j)) ta tb) env (.int (i * j)) := ee_I h1 h2 hc rp_int
theorem ee_gcd (h1 : EvE K ta env (.int i)) (h2 : EvE K tb env (.int j)) : EvE K (tCB rGcd (tCons ta (tCons tb tNil))) env (.int ((Nat.gcd i.natAbs j.natAbs : Nat) : Int)) := ee_cb (ea_cons h1 (ea_cons h2 ea_nil)) fun B F xs hs r Q q => by
  obtain ⟨x, y, rfl, r1, r2⟩ := reps2 r
  unfold Rep at r1 r2; subst r1; subst r2
  exact ⟨i, j, rfl, q B F _ (Gr.refl hs) (rp_int B)⟩
theorem ee_lcm (h1 : EvE K ta env (.int i)) (h2 : EvE K tb env (.int j)) (hi : i.natAbs.log2 < 9000) (hj : j.natAbs.log2 < 9000) : EvE K (tCB rLcm (tCons ta (tCons tb tNil))) env (.int ((Nat.lcm i.natAbs j.natAbs : Nat) : Int)) := ee_cb (ea_cons h1 (ea_cons h2 ea_nil)) fun B F xs hs r Q q => by
  obtain ⟨x, y, rfl, r1, r2⟩ := reps2 r
  unfold Rep at r1 r2; subst r1; subst r2
  exact ⟨i, j, rfl, hi, hj, q B F _ (Gr.refl hs) (rp_int B)⟩
theorem ee_abs (h1 : EvE K ta env (.int i)) : EvE K (tCB (fun xs H Q => ∃ i, xs = [.int i] ∧ Q (.int (if i < 0 then -i else i)) H) (tCons ta tNil)) env (.int (i.natAbs : Int)) := ee_cb (ea_cons h1 ea_nil) fun B F xs hs r Q q => by
  obtain ⟨x, rfl, r1⟩ := reps1 r
  unfold Rep at r1; subst r1
  have e : (if i < 0 then -i else i) = (i.natAbs : Int) := by split <;> omega
  refine ⟨i, rfl, ?_⟩
  rw [e]
  exact q B F _ (Gr.refl hs) (rp_int B)
theorem ee_bits (h1 : EvE K ta env (.int i)) : EvE K (tBits ta) env (.int (Builtin.Int.intBits i : Nat)) := fun B F σ hs vs Q q => h1 B F σ hs vs _ fun B1 F1 x g r => by
  unfold Rep at r; subst r
  exact ⟨i, rfl, q B1 F1 _ g (rp_int B1)⟩
theorem ea_starL {t : TA} {ds es : List D} (h1 : EvE K te env (.lst ds)) (h2 : EvA K t env es) : EvA K (tStar K te t) env (ds ++ es) := fun B F σ hs vs Q q => h1 B F σ hs vs _ fun B1 F1 x g r => by
  have r' := r
  unfold Rep at r'
  obtain ⟨a, ws, rfl, e1, e2⟩ := r'
  exact ⟨a, ws, rfl, .inr (g.f.seq e1), h2 B1 F1 σ g.f (vs.grow g) _ fun B2 F2 ys g2 r2 => q B2 F2 _ (g.trans g2) ((e2.mono g2.b).append r2)⟩
theorem ea_starT {t : TA} {ds es : List D} (h1 : EvE K te env (.tup ds)) (h2 : EvA K t env es) : EvA K (tStar K te t) env (ds ++ es) := fun B F σ hs vs Q q => h1 B F σ hs vs _ fun B1 F1 x g r => by
  have r' := r
  unfold Rep at r'
  obtain ⟨a, ws, rfl, e1, e2⟩ := r'
  exact ⟨a, ws, rfl, .inl (sqt_mono g.f e1), h2 B1 F1 σ g.f (vs.grow g) _ fun B2 F2 ys g2 r2 => q B2 F2 _ (g.trans g2) ((e2.mono g2.b).append r2)⟩
theorem en_cat {ds es : List D} (h1 : EvE K ta env (.lst ds)) (h2 : EvE K tb env (.lst es)) (hz : ds.length + es.length ≤ 1000) : EvN K (tOp (rCatS K) ta tb) env (ds ++ es) := fun B F σ hs vs Q q =>
  h1 B F σ hs vs _ fun B1 F1 x g1 r1 => h2 B1 F1 σ g1.f (vs.grow g1) _ fun B2 F2 y g2 r2 => by
    have r1 := r1.mono g2.b
    have g := g1.trans g2
    unfold Rep at r1 r2
    obtain ⟨a, ws, rfl, e1, e2⟩ := r1
    obtain ⟨b, zs, rfl, e3, e4⟩ := r2
    refine ⟨a, b, ws, zs, rfl, rfl, g2.f.seq e1, g2.f.seq e3, by rw [e2.len, e4.len]; exact Nat.le_of_lt (small1000 hz), fun p hp => ?_⟩
    exact q B2 _ p _ ⟨g.b, same_out g.f (g.f.free hp), g.s.trans (same_new hp), g.n⟩ (g.s.free hp) (g.f.free hp) upd_same (e2.append e4)
theorem tru_len {ds : List D} {ws : List V} {H : Hp} (r : Reps K H ds ws) : (!ws.isEmpty) = !ds.isEmpty := by
  have := r.len
  cases ws <;> cases ds <;> simp_all
theorem et_truL {ds : List D} (h : EvE K te env (.lst ds)) : EvT K (fun σ H Q => te σ H fun x H' => ∃ k, TruV K x H' k ∧ Q k H') env (!ds.isEmpty) := fun B F σ hs vs Q q => h B F σ hs vs _ fun B1 F1 x g r => by
  unfold Rep at r
  obtain ⟨a, ws, rfl, e1, e2⟩ := r
  exact ⟨_, .inl ⟨ws, g.f.seq e1, (tru_len e2).symm⟩, q B1 F1 g⟩
theorem et_truT {ds : List D} (h : EvE K te env (.tup ds)) : EvT K (fun σ H Q => te σ H fun x H' => ∃ k, TruV K x H' k ∧ Q k H') env (!ds.isEmpty) := fun B F σ hs vs Q q => h B F σ hs vs _ fun B1 F1 x g r => by
  unfold Rep at r
  obtain ⟨a, ws, rfl, e1, e2⟩ := r
  exact ⟨_, .inr (.inl ⟨ws, sqt_mono g.f e1, (tru_len e2).symm⟩), q B1 F1 g⟩
end
section
variable {K : PySem.W.Frag} {H0 H1 : Hp} {env : List Slot} {ta tb te tc : TE} {d d1 d2 : D} {E : Ends} {t u : TS}
theorem go_par {i j : Nat} {t : TA} (h : EvA K t env [d1, d2]) (k : Nx K H0 H1 E.nx ((env.set i (.val d1)).set j (.val d2))) : Go K H0 H1 (tPar i j t) E env := fun B F σ st => h B F σ st.gr.f st.vs _ fun B' F' xs g r => by
  obtain ⟨x, y, rfl, r1, r2⟩ := reps2 r
  exact ⟨x, y, rfl, k B' F' _ (((st.grow g).set r1).set r2)⟩
theorem q_par {i j : Nat} {t : TA} (h : EvA K t env [d1, d2]) (k : Go K H0 H1 u E ((env.set i (.val d1)).set j (.val d2))) : Go K H0 H1 (tSeq (tPar i j t) u) E env := go_par (E := { E with nx := u E }) h k
/-- a list of ints that is made while a list of one's own is looked at -/
theorem en_peek (i : Nat) {ds : List D} {ns : List Int} (e : env[i]? = some (.own ds)) (h : EvN K te (env.set i (.val (.lst ds))) (ns.map .int)) : EvN K te env (ns.map .int) := fun B F σ hs vs Q q => by
  obtain ⟨p, ws, h1, h2, h3, h4⟩ := vs.own i ds e
  have sF : Same (upd B p (.lst ws)) F := fun a u z => by
    by_cases k : a = p
    · subst k; rw [upd_same] at z; cases z; exact h3
    · rw [upd_ne k] at z; exact hs _ _ z
  refine h _ F σ sF (vs.freeze e h1 h2 h3 h4) Q fun B' F' p' vs' g hF hB hp r => ?_
  have := r.ints
  subst this
  exact q B F' p' _ ⟨Same.refl _, hs.trans g.s, g.s, fun a z1 z2 => absurd z2 z1⟩ hF (hs.free hF) hp (reps_ints ns)
theorem Reps.erase {K : PySem.W.Frag} {H : Hp} : ∀ {ds : List D} {vs : List V} (n : Nat), Reps K H ds vs → Reps K H (ds.eraseIdx n) (vs.eraseIdx n)
  | [], vs, n, h => by unfold Reps at h; subst h; simpa using Reps.nil
  | d :: ds, vs, 0, h => by
    unfold Reps at h
    obtain ⟨x, ws, rfl, h1, h2⟩ := h
    simpa using h2
  | d :: ds, vs, n + 1, h => by
    unfold Reps at h
    obtain ⟨x, ws, rfl, h1, h2⟩ := h
    simpa using Reps.cons h1 (Reps.erase n h2)
/-- a call with what is popped from a list of one's own -/
theorem go_popCall {i j k : Nat} {ds : List D} {d0 : D} {R : List D → D → Prop} (e : env[i]? = some (.own ds)) (hk : EvE K te env (.int (k : Int))) (hd : ds[k]? = some d0) (hz : k < 2 ^ 62) (hR : R [d0] d) (q : Nx K H0 H1 E.nx ((env.set i (.own (ds.eraseIdx k))).set j (.val d))) :
    Go K H0 H1 (tAsg (tCall (spR K R) [] E0 (tCons (tBM K "list" rPopAt (tVar i) (tCons te tNil)) tNil)) (gName j)) E env := fun B F σ st => by
  obtain ⟨p, ws, h1, h2, h3, h4⟩ := st.vs.own i ds e
  refine ⟨_, h1, .inl ⟨rfl, ws, .inl (.inl h3)⟩, hk B F σ st.gr.f st.vs _ fun B1 F1 x g r => ?_⟩
  unfold Rep at r; subst r
  have st1 := st.grow g
  have r4 := h4.mono g.b
  obtain ⟨y, hy, ry⟩ := r4.get hd
  have hlt : k < ws.length := (List.getElem?_eq_some_iff.mp hy).1
  refine ⟨p, ws, (k : Int), k, y, rfl, rfl, g.s _ _ h3, by omega, by omega, ?_, hy, ?_⟩
  · unfold seqIndex?
    have e1 : ¬ ((k : Int) < 0) := by omega
    rw [if_neg e1]
    simp [hlt]
  · have st2 := st1.put (vs := ws) e h1 (g.out h2 h3) (r4.erase k)
    refine ⟨B1, [d0], d, st2.gr.f, Reps.cons ry Reps.nil, hR, fun B2 F2 z g2 rz => ?_⟩
    exact q B2 F2 _ ((st2.grow g2).set rz)
theorem q_popCall {i j k : Nat} {ds : List D} {d0 : D} {R : List D → D → Prop} (e : env[i]? = some (.own ds)) (hk : EvE K te env (.int (k : Int))) (hd : ds[k]? = some d0) (hz : k < 2 ^ 62) (hR : R [d0] d) (q : Go K H0 H1 u E ((env.set i (.own (ds.eraseIdx k))).set j (.val d))) :
    Go K H0 H1 (tSeq (tAsg (tCall (spR K R) [] E0 (tCons (tBM K "list" rPopAt (tVar i) (tCons te tNil)) tNil)) (gName j)) u) E env := go_popCall (E := { E with nx := u E }) e hk hd hz hR q
end
/-! ### calls that return a new list -/
def spN (K : PySem.W.Frag) (R : List D → List D → Prop) : Sp := fun vs F Q _ => ∃ B ds r, Same B F ∧ Reps K B ds vs ∧ R ds r ∧ ∀ B' F' p ws, Gr B F B' F' → F p = none → B' p = none → F' p = some (.lst ws) → Reps K B' r ws → Q (.ref p) F'
section
variable {K : PySem.W.Frag} {env : List Slot} {ta tb te tc : TE} {d d1 d2 : D}
theorem en_call {R : List D → List D → Prop} {E : XK} {t : TA} {ds r : List D} (h : EvA K t env ds) (hr : R ds r) : EvN K (tCall (spN K R) [] E t) env r := fun B F σ hs vs Q q => h B F σ hs vs _ fun B1 F1 xs g rx => by
  refine ⟨B1, ds, r, g.f, by simpa using rx, hr, fun B2 F2 p ws g2 hF hB hp r2 => q B2 F2 p ws (g.trans g2) (g.s.free hF) hB hp r2⟩
end
def RtN (K : PySem.W.Frag) (H0 H1 : Hp) (rt : VK) (r : List D) : Prop := ∀ B F p ws, Gr H0 H1 B F → H1 p = none → B p = none → F p = some (.lst ws) → Reps K B r ws → rt (.ref p) F
section
variable {K : PySem.W.Frag} {H0 H1 : Hp} {env : List Slot} {ta tb te tc : TE} {d d1 d2 : D} {E : Ends} {t u : TS}
theorem go_retN {r : List D} (h : EvN K te env r) (k : RtN K H0 H1 E.rt r) : Go K H0 H1 (tRet te) E env := fun B F σ st => h B F σ st.gr.f st.vs _ fun B' F' p ws g hF hB hp r => k B' F' p ws (st.gr.trans g) (st.gr.s.free hF) hB hp r
theorem go_retO (i : Nat) {r : List D} (e : env[i]? = some (.own r)) (k : RtN K H0 H1 E.rt r) : Go K H0 H1 (tRet (tVar i)) E env := fun B F σ st => by
  obtain ⟨p, ws, h1, h2, h3, h4⟩ := st.vs.own i r e
  exact ⟨_, h1, k B F p ws st.gr (st.fr i r p e h1) h2 h3 h4⟩
theorem RtN.is {rt : VK} {r r' : List D} (h : RtN K H0 H1 rt r) (e : r' = r) : RtN K H0 H1 rt r' := e ▸ h
variable {P : Program} {w : World} {mg : Str → Option Value} {base : Heap}
theorem ok_defN {x qual : Str} {st : Stmt} {f : Addr} {fd : FuncData} {N ps : List Str} {k : Nat} {R : List D → List D → Prop} (F : Fun K x qual st f fd) (S : FnScope N ps (defScope st)) (len : ∀ ds r, R ds r → ds.length = ps.length)
    (hbody : ∀ (cdv : Value) (A : Around) (outer : List Env) (s : Shared) (H : Hp) (E : XK), Room k (A.deeper (envOfC qual (defScope st) s.heap.objs.size f cdv)) →
      ∃ t, PSs (cxOf CX0 P w K mg base N qual (defScope st) f cdv A outer s H E).nox (defBody st) t ∧ ∀ ds r, R ds r → ∀ H0 H1 E, RtN K H0 H1 E.rt r → Go K H0 H1 t E (startE N ds)) : FnOk P w K mg base CX0 (k + 1) f fd ps (spN K R) := by
  refine F.ok S (fun vs H Q E h => ?_) (fun cdv A outer s H vs Q E hr h => ?_)
  · obtain ⟨B, ds, r, _, h2, h3, _⟩ := h
    rw [h2.len, len ds r h3]
  · obtain ⟨t, ht, hg⟩ := hbody cdv A outer s H E hr
    obtain ⟨B, ds, r, h1, h2, h3, h4⟩ := h
    exact ⟨t, ht, hg ds r h3 B H { nx := fun _ H' => Q .non H', rt := Q } (fun B' F' p ws g hF hB hp rx => h4 B' F' p ws g hF hB hp rx) B H _ (start_state h1 h2)⟩
end
/-! ### lists or tuples -/
/-- data of a list or a tuple -/
def seqD (b : Bool) (ds : List D) : D := if b = true then .lst ds else .tup ds
section
variable {X : Cx}
def rIxQ (K : PySem.W.Frag) : R2 := fun x y H Q => rIxL K x y H Q ∨ rIxT K x y H Q
theorem k_ix_seq (K : PySem.W.Frag) (h : X.K = K := by rfl) : IxR X (rIxQ K) := by
  subst h
  intro value slice pins s σ H x y v u Q I rx ry h hs
  rcases h with h | h
  · exact ix_list value slice pins s σ H x y v u Q I rx ry h hs
  · exact ix_tup value slice pins s σ H x y v u Q I rx ry h hs
def iSeq (K : PySem.W.Frag) (tl : TE) : TI := fun σ H R => tl σ H fun x H1 => ∃ a, x = .ref a ∧ (((∃ xs, SqL K H1 a xs) ∧ R (Itl K a) H1) ∨ ((∃ xs, SqT K H1 a xs) ∧ R (Itt K a) H1))
theorem k_pi_seq (K : PySem.W.Frag) {tg l : Expr} {tl : TE} (hl : PE X l tl) (h : X.K = K := by rfl) : PI X tg l (iSeq K tl) := by
  subst h
  refine ⟨fun pins s σ H R I h => ?_⟩
  refine thn (hl.run pins s σ H _ I h) fun v s1 ⟨x, H1, I1, r1, q1⟩ => ?_
  obtain ⟨a, e, q1⟩ := q1
  subst e
  cases r1
  rcases q1 with ⟨⟨xs, hq⟩, q⟩ | ⟨⟨xs, hq⟩, q⟩
  · obtain ⟨its, rv, p, hz⟩ := I1.list hq
    refine wpAny_pyIter_list p.isList ?_
    refine ⟨s1.heap.objs.size, [s1.heap.objs.size], _, _, H1, rfl, I1.kept (t' := s1.toks) fun b o e => Heap.get?_push_of_some _ e, turn_list a _, ⟨_, Heap.get?_push_size _ rfl, rfl, rfl⟩, fun b hb => ?_, q⟩
    have e : b = s1.heap.objs.size := by simpa using hb
    subst e
    exact I1.fpOk (Nat.le_refl _) (I1.hok.fresh (Nat.le_refl _))
  · obtain ⟨its, rv, p, hz⟩ := I1.tuple hq
    refine wpAny_pyIter_tuple (show s1.heap.IsTuple a its.toArray from p) ?_
    refine ⟨s1.heap.objs.size, [s1.heap.objs.size], _, _, H1, rfl, I1.kept (t' := s1.toks) fun b o e => Heap.get?_push_of_some _ e, turn_tuple a _, ⟨_, Heap.get?_push_size _ rfl, rfl, rfl⟩, fun b hb => ?_, q⟩
    have e : b = s1.heap.objs.size := by simpa using hb
    subst e
    exact I1.fpOk (Nat.le_refl _) (I1.hok.fresh (Nat.le_refl _))
end
section
variable {K : PySem.W.Frag} {env : List Slot} {ta tb te tc : TE} {d d1 d2 : D}
theorem ee_ixQ {b : Bool} {ds : List D} {k : Int} (h1 : EvE K ta env (seqD b ds)) (h2 : EvE K tb env (.int k)) (ha : atI ds k = some d) : EvE K (tOp (rIxQ K) ta tb) env d := by
  refine ee_op h1 h2 fun B F x y hf r1 r2 Q q => ?_
  cases b with
  | true =>
    have r1 : Rep K B (.lst ds) x := r1
    unfold Rep at r1 r2; subst r2
    obtain ⟨a, vs, rfl, h1, h2⟩ := r1
    obtain ⟨m, e1, e2⟩ := atI_len (xs := vs) h2.len ha
    obtain ⟨z, e3, r3⟩ := h2.get e1
    exact .inl ⟨a, vs, k, z, rfl, rfl, hf.seq h1, e2 z e3, q B F _ (Gr.refl hf) r3⟩
  | false =>
    have r1 : Rep K B (.tup ds) x := r1
    unfold Rep at r1 r2; subst r2
    obtain ⟨a, vs, rfl, h1, h2⟩ := r1
    obtain ⟨m, e1, e2⟩ := atI_len (xs := vs) h2.len ha
    obtain ⟨z, e3, r3⟩ := h2.get e1
    exact .inr ⟨a, vs, k, z, rfl, rfl, sqt_mono hf h1, e2 z e3, q B F _ (Gr.refl hf) r3⟩
theorem ee_lenQ {b : Bool} {ds : List D} (h : EvE K te env (seqD b ds)) : EvE K (tCB (rLen1 K) (tCons te tNil)) env (.int ds.length) := by
  cases b with
  | true => exact ee_lenL h
  | false => exact ee_lenT h
theorem en_listQ {b : Bool} {ds : List D} (h : EvE K te env (seqD b ds)) : EvN K (tCB (rListOf K) (tCons te tNil)) env ds := by
  cases b with
  | true => exact en_listL h
  | false => exact en_listT h
theorem et_truQ {b : Bool} {ds : List D} (h : EvE K te env (seqD b ds)) : EvT K (fun σ H Q => te σ H fun x H' => ∃ k, TruV K x H' k ∧ Q k H') env (!ds.isEmpty) := by
  cases b with
  | true => exact et_truL h
  | false => exact et_truT h
theorem ei_seq {b : Bool} {ds : List D} (h : EvE K te env (seqD b ds)) : EvI K (iSeq K te) env ds := by
  cases b with
  | true =>
      intro B F σ hs vs R q
      refine h B F σ hs vs _ fun B1 F1 x g r => ?_
      have r0 : Rep K B1 (.lst ds) x := r
      unfold Rep at r0
      obtain ⟨a, ws, rfl, e1, e2⟩ := r0
      refine ⟨a, rfl, .inl ⟨⟨ws, g.f.seq e1⟩, q B1 F1 _ g ⟨fun F => SqL K F a ws, YAt ws, ?_, fun F hF => hF.seq e1, fun i B2 F2 x F3 s1 s2 y => ?_⟩⟩⟩
      · rw [← e2.len]; exact walk_list
      · obtain ⟨rfl, ey⟩ := y
        have hi : i < ds.length := by rw [← e2.len]; exact (List.getElem?_eq_some_iff.mp ey).1
        obtain ⟨z, e3, e4⟩ := e2.get (List.getElem?_eq_getElem hi)
        rw [ey] at e3; cases e3
        exact ⟨B2, ds[i], Gr.refl s2, List.getElem?_eq_getElem hi, e4.mono s1⟩
  | false =>
      intro B F σ hs vs R q
      refine h B F σ hs vs _ fun B1 F1 x g r => ?_
      have r0 : Rep K B1 (.tup ds) x := r
      unfold Rep at r0
      obtain ⟨a, ws, rfl, e1, e2⟩ := r0
      refine ⟨a, rfl, .inr ⟨⟨ws, sqt_mono g.f e1⟩, q B1 F1 _ g ⟨fun F => SqT K F a ws, YAt ws, ?_, fun F hF => sqt_mono hF e1, fun i B2 F2 x F3 s1 s2 y => ?_⟩⟩⟩
      · rw [← e2.len]; exact walk_tup
      · obtain ⟨rfl, ey⟩ := y
        have hi : i < ds.length := by rw [← e2.len]; exact (List.getElem?_eq_some_iff.mp ey).1
        obtain ⟨z, e3, e4⟩ := e2.get (List.getElem?_eq_getElem hi)
        rw [ey] at e3; cases e3
        exact ⟨B2, ds[i], Gr.refl s2, List.getElem?_eq_getElem hi, e4.mono s1⟩
theorem ei_zip {ds es : List D} (h : EvE K ta env (.lst ds)) (h2 : EvE K tb env (.lst es)) (hz : ds.length = es.length) : EvI K (iZip K (tCons ta (tCons tb tNil))) env ((ds.zip es).map fun q => D.tup [q.1, q.2]) := fun B F σ hs vs R q => (ea_cons h (ea_cons h2 ea_nil)) B F σ hs vs _ fun B1 F1 xs g r => by
  obtain ⟨x, y, rfl, r1, r2⟩ := reps2 r
  unfold Rep at r1 r2
  obtain ⟨a, ws, rfl, e1, e2⟩ := r1
  obtain ⟨b, zs, rfl, e3, e4⟩ := r2
  have l1 := e2.len
  have l2 := e4.len
  refine ⟨a, b, ws, zs, rfl, g.f.seq e1, g.f.seq e3, q B1 F1 _ g ⟨fun F => SqL K F a ws ∧ SqL K F b zs, fun i H x H' => i < ds.length ∧ YPair (fun i => ws[i]?) (fun i => zs[i]?) i H x H', ?_, fun F hF => ⟨hF.seq e1, hF.seq e3⟩, fun i B2 F2 x F3 s1 s2 y => ?_⟩⟩
  · have : ((ds.zip es).map fun q => D.tup [q.1, q.2]).length = ds.length := by simp [hz]
    rw [this]
    exact (walk_zip (by omega)).mono (fun _ h => h) fun i H x H' hi _ y => ⟨hi, y⟩
  · obtain ⟨hi, T, x1, y1, rfl, hT, rfl, h1, h2⟩ := y
    have h1 : ws[i]? = some x1 := h1
    have h2 : zs[i]? = some y1 := h2
    obtain ⟨z1, e5, e6⟩ := e2.get (List.getElem?_eq_getElem hi)
    obtain ⟨z2, e7, e8⟩ := e4.get (List.getElem?_eq_getElem (show i < es.length by omega))
    rw [h1] at e5; cases e5
    rw [h2] at e7; cases e7
    refine ⟨_, .tup [ds[i], es[i]], Gr.new s2 hT, ?_, rep_new_tup (s2.free hT) (Reps.cons (e6.mono s1) (Reps.cons (e8.mono s1) Reps.nil))⟩
    rw [List.getElem?_map, List.getElem?_eq_getElem (by simp; omega)]
    simp
end
end Z

/-! M1: determinants by expansion, spans, leads. -/
namespace M
abbrev V := Nat → Int

/-- the expansion along a column -/
def dl (j : Nat) : (List V → Int) → List V → Int
  | _, [] => 0
  | g, x :: xs => x j * g xs - dl j (fun ys => g (x :: ys)) xs

theorem dl_lin (j : Nat) (a b : Int) (xs : List V) : ∀ (g k : List V → Int), dl j (fun ys => a * g ys + b * k ys) xs = a * dl j g xs + b * dl j k xs := by
  induction xs with
  | nil => intro g k; simp [dl]
  | cons x xs ih =>
    intro g k
    simp only [dl]
    rw [ih (fun ys => g (x :: ys)) (fun ys => k (x :: ys))]
    grind

theorem dl_sub (j : Nat) (a : Int) (xs : List V) (g k : List V → Int) : dl j (fun ys => a * g ys - k ys) xs = a * dl j g xs - dl j k xs := by
  have := dl_lin j a (-1) xs g k
  rw [show (fun ys => a * g ys - k ys) = (fun ys => a * g ys + (-1) * k ys) from funext fun ys => by omega, this]
  omega

theorem dl_neg (j : Nat) (xs : List V) (g : List V → Int) : dl j (fun ys => - g ys) xs = - dl j g xs := by
  have := dl_lin j (-1) 0 xs g g
  rw [show (fun ys => - g ys) = (fun ys => (-1) * g ys + 0 * g ys) from funext fun ys => by omega, this]
  omega

theorem dl_anti (a b : Nat) (xs : List V) : ∀ (g : List V → Int), dl a (dl b g) xs = - dl b (dl a g) xs := by
  induction xs with
  | nil => intro g; simp [dl]
  | cons x xs ih =>
    intro g
    simp only [dl]
    rw [dl_sub a (x b) xs g, dl_sub b (x a) xs g, ih (fun ys => g (x :: ys))]
    grind

/-- the minor of the columns (last first) and the vectors (last first) -/
def h : List Nat → List V → Int
  | [], _ => 1
  | j :: cs, xs => dl j (h cs) xs

theorem h_perm {cs cs' : List Nat} (p : cs.Perm cs') : (∀ xs, h cs xs = h cs' xs) ∨ (∀ xs, h cs xs = - h cs' xs) := by
  induction p with
  | nil => exact .inl fun _ => rfl
  | cons x p ih =>
    rcases ih with e | e
    · exact .inl fun xs => by simp only [h]; rw [funext e]
    · exact .inr fun xs => by simp only [h]; rw [show h _ = (fun ys => - h _ ys) from funext e, dl_neg]
  | swap x y l => exact .inr fun xs => by simp only [h]; exact dl_anti _ _ _ _
  | trans p q ih1 ih2 =>
    rcases ih1 with e | e <;> rcases ih2 with f | f
    · exact .inl fun xs => by rw [e, f]
    · exact .inr fun xs => by rw [e, f]
    · exact .inr fun xs => by rw [e, f]
    · exact .inl fun xs => by rw [e, f]; omega

theorem h_dup {j : Nat} {cs : List Nat} (hj : j ∈ cs) (xs : List V) : h (j :: cs) xs = 0 := by
  have p : (j :: cs).Perm (j :: j :: cs.erase j) := (List.perm_cons_erase hj).cons j
  have z : h (j :: j :: cs.erase j) xs = 0 := by
    have := dl_anti j j xs (h (cs.erase j))
    show dl j (dl j (h (cs.erase j))) xs = 0
    omega
  rcases h_perm p with e | e
  · rw [e, z]
  · rw [e, z]; rfl

/-- sums of whole multiples -/
def Sp : List V → V → Prop
  | [], w => ∀ j, w j = 0
  | u :: us, w => ∃ (a : Int) (w' : V), Sp us w' ∧ ∀ j, w j = a * u j + w' j

theorem Sp.zero : ∀ (us : List V), Sp us (fun _ => 0)
  | [] => fun _ => rfl
  | _ :: us => ⟨0, fun _ => 0, Sp.zero us, fun j => by dsimp only; omega⟩
theorem Sp.ext {us : List V} {w w' : V} (s : Sp us w) (e : ∀ j, w' j = w j) : Sp us w' := by
  rw [show w' = w from funext e]; exact s
theorem Sp.lin {us : List V} : ∀ {w w' : V} (a b : Int), Sp us w → Sp us w' → Sp us (fun j => a * w j + b * w' j) := by
  induction us with
  | nil => intro w w' a b s s' j; show a * w j + b * w' j = 0; rw [s j, s' j]; omega
  | cons u us ih =>
    rintro w w' a b ⟨x, v, s, e⟩ ⟨x', v', s', e'⟩
    exact ⟨a * x + b * x', _, ih a b s s', fun j => by show a * w j + b * w' j = _; rw [e j, e' j]; grind⟩
theorem Sp.tail {u : V} {us : List V} {w : V} (s : Sp us w) : Sp (u :: us) w := ⟨0, w, s, fun j => by omega⟩
theorem Sp.head (u : V) (us : List V) : Sp (u :: us) u := ⟨1, fun _ => 0, Sp.zero us, fun j => by dsimp only; omega⟩
theorem Sp.mem {us : List V} {u : V} (hu : u ∈ us) : Sp us u := by
  induction us with
  | nil => cases hu
  | cons x us ih =>
    rcases List.mem_cons.1 hu with e | e
    · subst e; exact Sp.head _ _
    · exact (ih e).tail

theorem dl_sp (us : List V) : ∀ (g : List V → Int), Sp us (fun j => dl j g us) := by
  induction us with
  | nil => intro g j; rfl
  | cons u us ih =>
    intro g
    exact ⟨g us, fun j => - dl j (fun ys => g (u :: ys)) us, ((ih (fun ys => g (u :: ys))).lin (-1) 0 (Sp.zero _)).ext fun j => by omega, fun j => by simp only [dl]; grind⟩

/-- the vector reduced by us at cs -/
def W (us : List V) (cs : List Nat) (v : V) : V := fun j => h (j :: cs) (v :: us)

theorem W_sp (us : List V) (cs : List Nat) (v : V) : ∃ s, Sp us s ∧ ∀ j, W us cs v j = h cs us * v j + s j :=
  ⟨fun j => - dl j (fun ys => h cs (v :: ys)) us, ((dl_sp us (fun ys => h cs (v :: ys))).lin (-1) 0 (Sp.zero _)).ext fun j => by omega, fun j => by simp only [W, h, dl]; grind⟩
theorem W_zero {us : List V} {cs : List Nat} {v : V} {j : Nat} (hj : j ∈ cs) : W us cs v j = 0 := h_dup hj _

inductive Good : List V → List Nat → Prop
  | nil : Good [] []
  | cons {us cs v c} : Good us cs → W us cs v c ≠ 0 → Good (v :: us) (c :: cs)

theorem Good.ne {us cs} (g : Good us cs) : h cs us ≠ 0 := by
  cases g with
  | nil => simp [h]
  | cons g e => exact e
theorem Good.nodup {us cs} (g : Good us cs) : cs.Nodup := by
  induction g with
  | nil => exact List.nodup_nil
  | cons g e ih => exact List.nodup_cons.2 ⟨fun hm => e (W_zero hm), ih⟩
theorem Good.len {us cs} (g : Good us cs) : us.length = cs.length := by
  induction g with
  | nil => rfl
  | cons g e ih => simp [ih]

theorem Good.uniq {us cs} (g : Good us cs) : ∀ {w : V}, Sp us w → (∀ c ∈ cs, w c = 0) → ∀ j, w j = 0 := by
  induction g with
  | nil => intro w s _; exact s
  | @cons us cs v c g e ih =>
    rintro w ⟨a, w', s', ew⟩ z
    obtain ⟨s, hs, es⟩ := W_sp us cs v
    have hD := g.ne
    have k : ∀ j, h cs us * w j = a * W us cs v j + (h cs us * w' j + (-a) * s j) := fun j => by rw [ew j, es j]; grind
    have z' := ih (Sp.lin (h cs us) (-a) s' hs) (fun c' hc' => by
      have k1 := k c'
      rw [z c' (List.mem_cons_of_mem _ hc'), W_zero hc'] at k1
      show h cs us * w' c' + (-a) * s c' = 0
      omega)
    have kc := k c
    have zc := z' c
    try dsimp only at zc
    rw [z c List.mem_cons_self, zc] at kc
    have ha : a = 0 := by
      rcases Int.mul_eq_zero.1 (show a * W us cs v c = 0 by omega) with x | x
      · exact x
      · exact absurd x e
    intro j
    have kj := k j
    have zj := z' j
    try dsimp only at zj
    rw [zj, ha] at kj
    rcases Int.mul_eq_zero.1 (show h cs us * w j = 0 by omega) with x | x
    · exact absurd x hD
    · exact x

/-- one step of the elimination -/
theorem W_step {us cs} (g : Good us cs) {u : V} {c : Nat} (hc : W us cs u c ≠ 0) (v : V) (j : Nat) :
    W us cs u c * W us cs v j - W us cs v c * W us cs u j = h cs us * W (u :: us) (c :: cs) v j := by
  have g' : Good (u :: us) (c :: cs) := .cons g hc
  obtain ⟨s1, p1, e1⟩ := W_sp us cs u
  obtain ⟨s2, p2, e2⟩ := W_sp us cs v
  obtain ⟨s3, p3, e3⟩ := W_sp (u :: us) (c :: cs) v
  have hh : h (c :: cs) (u :: us) = W us cs u c := rfl
  have q1 : Sp (u :: us) (fun j => h cs us * u j + s1 j) := ((Sp.head u us).lin (h cs us) 1 p1.tail).ext fun j => by omega
  have X : Sp (u :: us) (fun j => W us cs u c * W us cs v j - W us cs v c * W us cs u j - h cs us * W (u :: us) (c :: cs) v j) := by
    have q2 := (p2.tail (u := u)).lin (W us cs u c) (- W us cs v c) q1
    have q3 := q2.lin 1 (- h cs us) p3
    refine q3.ext fun j => ?_
    try dsimp only
    rw [e3 j, e2 j, e1 j, hh]
    grind
  have := g'.uniq X (fun c' hc' => by
    try dsimp only
    rw [W_zero (us := u :: us) hc']
    rcases List.mem_cons.1 hc' with x | x
    · subst x; grind
    · rw [W_zero x, W_zero x]; omega) j
  try dsimp only at this
  omega
end M

/-! M2: spans by fractions, leads, equal numbers of rows. -/
namespace M

inductive Qs (S : V → Prop) : V → Prop
  | mem {u} : S u → Qs S u
  | zero : Qs S (fun _ => 0)
  | lin {w w'} (a b : Int) : Qs S w → Qs S w' → Qs S (fun j => a * w j + b * w' j)
  | div {w} (m : Int) : m ≠ 0 → Qs S (fun j => m * w j) → Qs S w

theorem Qs.ext {S : V → Prop} {w w' : V} (s : Qs S w) (e : ∀ j, w' j = w j) : Qs S w' := by
  rw [show w' = w from funext e]; exact s
theorem Qs.trans {S T : V → Prop} (st : ∀ x, S x → Qs T x) {w : V} (s : Qs S w) : Qs T w := by
  induction s with
  | mem hx => exact st _ hx
  | zero => exact .zero
  | lin a b _ _ i1 i2 => exact .lin a b i1 i2
  | div m hm _ i => exact .div m hm i
theorem Qs.mono {S T : V → Prop} (st : ∀ x, S x → T x) {w : V} (s : Qs S w) : Qs T w := s.trans fun x hx => .mem (st x hx)
/-- from a multiple -/
theorem Qs.of_mul {S : V → Prop} {w w' : V} {a b : Int} (ha : a ≠ 0) (s : Qs S w') (e : ∀ j, a * w j = b * w' j) : Qs S w :=
  .div a ha ((Qs.lin b 0 s .zero).ext fun j => by simp only [e j]; omega)
theorem Qs.norm {us : List V} {w : V} (s : Qs (· ∈ us) w) : ∃ m : Int, m ≠ 0 ∧ Sp us (fun j => m * w j) := by
  induction s with
  | mem hu => exact ⟨1, by decide, (Sp.mem hu).ext fun j => by omega⟩
  | zero => exact ⟨1, by decide, (Sp.zero us).ext fun j => by simp⟩
  | @lin w w' a b _ _ i1 i2 =>
    obtain ⟨m, hm, s⟩ := i1
    obtain ⟨m', hm', s'⟩ := i2
    exact ⟨m * m', Int.mul_ne_zero hm hm', (Sp.lin (m' * a) (m * b) s s').ext fun j => by grind⟩
  | @div w m hm _ i =>
    obtain ⟨m', hm', s'⟩ := i
    exact ⟨m' * m, Int.mul_ne_zero hm' hm, s'.ext fun j => by grind⟩
theorem Qs.of_sp {S : V → Prop} : ∀ {us : List V} {w : V}, (∀ u ∈ us, Qs S u) → Sp us w → Qs S w
  | [], w, _, s => Qs.zero.ext fun j => s j
  | u :: us, w, hu, ⟨a, w', s, e⟩ => (Qs.lin a 1 (hu u List.mem_cons_self) (Qs.of_sp (fun x hx => hu x (List.mem_cons_of_mem _ hx)) s)).ext fun j => by rw [e j]; omega
theorem Good.quniq {us cs} (g : Good us cs) {w : V} (s : Qs (· ∈ us) w) (z : ∀ c ∈ cs, w c = 0) : ∀ j, w j = 0 := by
  obtain ⟨m, hm, s⟩ := s.norm
  intro j
  have := g.uniq s (fun c hc => by rw [z c hc]; omega) j
  exact (Int.mul_eq_zero.1 this).resolve_left hm

/-- the first place that is not 0 -/
def Ld (w : V) (c : Nat) : Prop := (∀ j < c, w j = 0) ∧ w c ≠ 0
theorem Ld.eq {w : V} {c c' : Nat} (l : Ld w c) (l' : Ld w c') : c = c' := by
  rcases Nat.lt_trichotomy c c' with x | x | x
  · exact absurd (l'.1 c x) l.2
  · exact x
  · exact absurd (l.1 c' x) l'.2
theorem ld_of_ne {w : V} : ∀ {n : Nat}, w n ≠ 0 → ∃ c ≤ n, Ld w c := by
  intro n
  induction n using Nat.strongRecOn with
  | _ n ih =>
    intro hn
    by_cases hz : ∀ j < n, w j = 0
    · exact ⟨n, Nat.le_refl _, hz, hn⟩
    · obtain ⟨j, hj⟩ := Classical.not_forall.1 hz
      have hj' := Classical.not_imp.1 hj
      obtain ⟨c, hc, l⟩ := ih j hj'.1 hj'.2
      exact ⟨c, by omega, l⟩

/-- rows with leads of their own -/
inductive Led : List (Nat × V) → Prop
  | nil : Led []
  | cons {c r l} : Ld r c → (∀ p ∈ l, p.1 ≠ c) → Led l → Led ((c, r) :: l)

theorem Led.sp {l : List (Nat × V)} (L : Led l) : ∀ {w : V}, Sp (l.map (·.2)) w → (∀ j, w j = 0) ∨ ∃ c ∈ l.map (·.1), Ld w c := by
  induction L with
  | nil => intro w s; exact .inl s
  | @cons c r l ld hd _ ih =>
    rintro w ⟨a, w', s, e⟩
    replace e : ∀ j, w j = a * r j + w' j := e
    by_cases ha : a = 0
    · subst ha
      have ew : ∀ j, w j = w' j := fun j => by rw [e j]; omega
      rcases ih s with z | ⟨c', hc, l'⟩
      · exact .inl fun j => by rw [ew, z]
      · exact .inr ⟨c', List.mem_cons_of_mem _ hc, fun j hj => by rw [ew]; exact l'.1 j hj, by rw [ew]; exact l'.2⟩
    · have hne : a * r c ≠ 0 := Int.mul_ne_zero ha ld.2
      rcases ih s with z | ⟨c', hc, l'⟩
      · exact .inr ⟨c, List.mem_cons_self, fun j hj => by rw [e j, z j, ld.1 j hj]; omega, by rw [e c, z c]; omega⟩
      · have hcc : c' ≠ c := by
          obtain ⟨p, hp, rfl⟩ := List.mem_map.1 hc
          exact hd p hp
        rcases Nat.lt_or_gt_of_ne hcc with x | x
        · exact .inr ⟨c', List.mem_cons_of_mem _ hc, fun j hj => by rw [e j, l'.1 j hj, ld.1 j (by omega)]; omega, by rw [e c', ld.1 c' x]; have := l'.2; omega⟩
        · exact .inr ⟨c, List.mem_cons_self, fun j hj => by rw [e j, l'.1 j (by omega), ld.1 j hj]; omega, by rw [e c, l'.1 c x]; omega⟩
theorem Led.qs {l : List (Nat × V)} (L : Led l) {w : V} (s : Qs (· ∈ l.map (·.2)) w) : (∀ j, w j = 0) ∨ ∃ c ∈ l.map (·.1), Ld w c := by
  obtain ⟨m, hm, s⟩ := s.norm
  have k : ∀ j, m * w j = 0 → w j = 0 := fun j e => (Int.mul_eq_zero.1 e).resolve_left hm
  rcases L.sp s with z | ⟨c, hc, l1, l2⟩
  · exact .inl fun j => k j (z j)
  · exact .inr ⟨c, hc, fun j hj => k j (l1 j hj), fun e => l2 (by dsimp only; rw [e]; omega)⟩
theorem Led.nodup {l : List (Nat × V)} (L : Led l) : (l.map (·.1)).Nodup := by
  induction L with
  | nil => exact List.nodup_nil
  | cons ld hd _ ih =>
    refine List.nodup_cons.2 ⟨fun hm => ?_, ih⟩
    obtain ⟨p, hp, e⟩ := List.mem_map.1 hm
    exact hd p hp e
theorem Led.ld {l : List (Nat × V)} (L : Led l) : ∀ p ∈ l, Ld p.2 p.1 := by
  induction L with
  | nil => intro p hp; cases hp
  | cons ld hd _ ih =>
    intro p hp
    rcases List.mem_cons.1 hp with e | e
    · subst e; exact ld
    · exact ih p e

theorem Led.sub {l l' : List (Nat × V)} (L : Led l) (L' : Led l') (hs : ∀ p ∈ l, Qs (· ∈ l'.map (·.2)) p.2) : ∀ c ∈ l.map (·.1), c ∈ l'.map (·.1) := by
  intro c hc
  obtain ⟨p, hp, rfl⟩ := List.mem_map.1 hc
  rcases L'.qs (hs p hp) with z | ⟨c', hc', ld⟩
  · exact absurd (z p.1) (L.ld p hp).2
  · rw [(L.ld p hp).eq ld]; exact hc'
/-- two families of led rows that span the same are equally many -/
theorem Led.len {l l' : List (Nat × V)} (L : Led l) (L' : Led l') (h1 : ∀ p ∈ l, Qs (· ∈ l'.map (·.2)) p.2) (h2 : ∀ p ∈ l', Qs (· ∈ l.map (·.2)) p.2) : l.length = l'.length := by
  have p := (List.perm_ext_iff_of_nodup L.nodup L'.nodup).2 fun c => ⟨L.sub L' h1 c, L'.sub L h2 c⟩
  have := p.length_eq
  simpa using this

/-- proportional -/
def Pr (f g : V) : Prop := ∃ a b : Int, a ≠ 0 ∧ b ≠ 0 ∧ ∀ j, a * f j = b * g j
theorem Pr.refl (f : V) : Pr f f := ⟨1, 1, by decide, by decide, fun _ => rfl⟩
theorem Pr.symm {f g : V} : Pr f g → Pr g f := fun ⟨a, b, ha, hb, e⟩ => ⟨b, a, hb, ha, fun j => (e j).symm⟩
theorem Pr.trans {f g k : V} : Pr f g → Pr g k → Pr f k := fun ⟨a, b, ha, hb, e⟩ ⟨a', b', ha', hb', e'⟩ =>
  ⟨a' * a, b * b', Int.mul_ne_zero ha' ha, Int.mul_ne_zero hb hb', fun j => by rw [show a' * a * f j = a' * (a * f j) by grind, e j, show a' * (b * g j) = b * (a' * g j) by grind, e' j]; grind⟩
theorem Pr.zero {f g : V} (p : Pr f g) (j : Nat) : f j = 0 ↔ g j = 0 := by
  obtain ⟨a, b, ha, hb, e⟩ := p
  constructor
  · intro h
    have := e j
    rw [h] at this
    exact (Int.mul_eq_zero.1 (by omega)).resolve_left hb
  · intro h
    have := e j
    rw [h] at this
    exact (Int.mul_eq_zero.1 (by omega)).resolve_left ha
theorem Pr.qs {S : V → Prop} {f g : V} (p : Pr f g) (s : Qs S g) : Qs S f := by
  obtain ⟨a, b, ha, hb, e⟩ := p
  exact .of_mul ha s e
/-- one step, for rows that are proportional -/
theorem W_clear {us cs} (g : Good us cs) {u v : V} {c : Nat} {p r : V} (hp : Pr p (W us cs u)) (hr : Pr r (W us cs v)) (hc : p c ≠ 0) :
    Pr (fun j => p c * r j - r c * p j) (W (u :: us) (c :: cs) v) := by
  have hcW : W us cs u c ≠ 0 := fun e => hc ((hp.zero c).2 e)
  obtain ⟨a, b, ha, hb, e⟩ := hp
  obtain ⟨a', b', ha', hb', e'⟩ := hr
  refine ⟨a * a', b * b' * h cs us, Int.mul_ne_zero ha ha', Int.mul_ne_zero (Int.mul_ne_zero hb hb') g.ne, fun j => ?_⟩
  have k := W_step g hcW v j
  have e1 := e j
  have e2 := e c
  have e3 := e' j
  have e4 := e' c
  have x1 : a * a' * (p c * r j - r c * p j) = (a * p c) * (a' * r j) - (a' * r c) * (a * p j) := by grind
  rw [x1, e1, e2, e3, e4, Int.mul_assoc (b * b'), ← k]
  grind
theorem W_keep {us cs} (g : Good us cs) {u v : V} {c : Nat} {r : V} (hc : W us cs u c ≠ 0) (hr : Pr r (W us cs v)) (hz : r c = 0) : Pr r (W (u :: us) (c :: cs) v) := by
  have z := (hr.zero c).1 hz
  refine hr.trans ⟨W us cs u c, h cs us, hc, g.ne, fun j => ?_⟩
  have k := W_step g hc v j
  rw [z] at k
  omega

/-- the column put in the place of another one -/
def Y (us : List V) (cs : List Nat) (c : Nat) : V := fun j => h (j :: cs.erase c) us
theorem Y_pr {us cs} (g : Good us cs) {c : Nat} (hc : c ∈ cs) {r : V} (s : Qs (· ∈ us) r) (hr : r c ≠ 0) (z : ∀ c' ∈ cs, c' ≠ c → r c' = 0) : (h cs us = Y us cs c c ∨ h cs us = - Y us cs c c) ∧ ∀ j, Y us cs c c * r j = r c * Y us cs c j := by
  have pc : (h cs us = Y us cs c c ∨ h cs us = - Y us cs c c) := by
    rcases h_perm (List.perm_cons_erase hc) with e | e
    · exact .inl (e us)
    · exact .inr (e us)
  refine ⟨pc, fun j => ?_⟩
  have sy : Sp us (Y us cs c) := dl_sp us (h (cs.erase c))
  have q : Qs (· ∈ us) (fun j => Y us cs c c * r j + (- r c) * Y us cs c j) := .lin _ _ s (.of_sp (fun u hu => .mem hu) sy)
  have := g.quniq q (fun c' hc' => by
    try dsimp only
    by_cases e : c' = c
    · subst e; grind
    · rw [z c' hc' e, show Y us cs c c' = 0 from h_dup ((List.mem_erase_of_ne e).2 hc') us]; omega) j
  try dsimp only at this
  have := Int.neg_mul (r c) (Y us cs c j)
  omega

/-- bounds -/
theorem dl_bnd {B : Nat} (j : Nat) : ∀ (xs : List V) (g : List V → Int) (G : Nat), (∀ x ∈ xs, (x j).natAbs ≤ B) → (∀ ys, (∀ y ∈ ys, y ∈ xs) → ys.length + 1 = xs.length → (g ys).natAbs ≤ G) → (dl j g xs).natAbs ≤ xs.length * (B * G)
  | [], g, G, _, _ => by simp [dl]
  | x :: xs, g, G, hx, hg => by
    have h1 := hg xs (fun y hy => List.mem_cons_of_mem _ hy) rfl
    have h2 := dl_bnd j xs (fun ys => g (x :: ys)) G (fun y hy => hx y (List.mem_cons_of_mem _ hy)) (fun ys hy hl => hg (x :: ys) (fun y hy' => by
      rcases List.mem_cons.1 hy' with e | e
      · subst e; exact List.mem_cons_self
      · exact List.mem_cons_of_mem _ (hy y e)) (by simp only [List.length_cons]; omega))
    have h3 : (x j * g xs).natAbs ≤ B * G := by rw [Int.natAbs_mul]; exact Nat.mul_le_mul (hx x List.mem_cons_self) h1
    simp only [dl, List.length_cons, Nat.add_mul, Nat.one_mul]
    omega
def fac : Nat → Nat
  | 0 => 1
  | n + 1 => (n + 1) * fac n
theorem h_bnd {B : Nat} : ∀ (cs : List Nat) (xs : List V), (∀ x ∈ xs, ∀ j, (x j).natAbs ≤ B) → xs.length = cs.length → (h cs xs).natAbs ≤ fac cs.length * B ^ cs.length
  | [], xs, _, _ => by simp [h, fac]
  | j :: cs, xs, hx, hl => by
    have := dl_bnd j xs (h cs) (fac cs.length * B ^ cs.length) (fun x m => hx x m j) (fun ys hy hl' => h_bnd cs ys (fun y m => hx y (hy y m)) (by simp only [List.length_cons] at hl; omega))
    simp only [h, List.length_cons, fac, Nat.pow_succ] at *
    rw [hl] at this
    refine Nat.le_trans this (Nat.le_of_eq ?_)
    simp only [Nat.mul_assoc, Nat.mul_comm, Nat.mul_left_comm]
end M

/-! M3: the elimination of the program, over lists. -/
namespace M

def fn (r : List Int) : V := fun j => r.getD j 0
def gcdF (d x : Int) : Int := ((Nat.gcd d.natAbs x.natAbs : Nat) : Int)
def gcdL (l : List Int) : Int := l.foldl gcdF 0
def prim (l : List Int) : List Int := l.map fun x => x.fdiv (max 1 (gcdL l))
def comb (own factor : Int) (r p : List Int) : List Int := (r.zip p).map fun q => own * q.1 - factor * q.2
def clr (r p : List Int) (c : Nat) : List Int := if fn r c = 0 then r else prim (comb (fn p c) (fn r c) r p)
abbrev Red := List (Nat × List Int)
def stp (s : Red × List (List Int)) (c : Nat) : Red × List (List Int) :=
  match s.2.findIdx? (fun r => fn r c != 0) with
  | none => s
  | some i => ((s.1.map fun q => (q.1, clr q.2 (prim (s.2.getD i [])) c)) ++ [(c, prim (s.2.getD i []))], (s.2.eraseIdx i).map fun r => clr r (prim (s.2.getD i [])) c)
def red (vs : List (List Int)) (width : Nat) : Red × List (List Int) := (List.range width).foldl stp ([], vs)

/-! gcd of a list -/
theorem gcdF_fold (l : List Int) : ∀ (d : Int), (0 ≤ d → 0 ≤ l.foldl gcdF d) ∧ (l.foldl gcdF d).natAbs ∣ d.natAbs ∧ (∀ x ∈ l, (l.foldl gcdF d).natAbs ∣ x.natAbs) ∧ (∀ k : Nat, k ∣ d.natAbs → (∀ x ∈ l, k ∣ x.natAbs) → k ∣ (l.foldl gcdF d).natAbs) := by
  induction l with
  | nil => intro d; exact ⟨id, Nat.dvd_refl _, fun x hx => (by cases hx), fun k h _ => h⟩
  | cons x l ih =>
    intro d
    obtain ⟨h0, h1, h2, h3⟩ := ih (gcdF d x)
    have e : (gcdF d x).natAbs = Nat.gcd d.natAbs x.natAbs := Int.natAbs_natCast _
    refine ⟨fun _ => h0 (Int.natCast_nonneg _), ?_, ?_, ?_⟩
    · exact Nat.dvd_trans h1 (by rw [e]; exact Nat.gcd_dvd_left _ _)
    · intro y hy
      rcases List.mem_cons.1 hy with rfl | hy
      · exact Nat.dvd_trans h1 (by rw [e]; exact Nat.gcd_dvd_right _ _)
      · exact h2 y hy
    · intro k hk hx
      exact h3 k (by rw [e]; exact Nat.dvd_gcd hk (hx x List.mem_cons_self)) fun y hy => hx y (List.mem_cons_of_mem _ hy)
theorem gcdL_nonneg (l : List Int) : 0 ≤ gcdL l := (gcdF_fold l 0).1 (by decide)
theorem gcdL_dvd {l : List Int} {x : Int} (hx : x ∈ l) : (gcdL l).natAbs ∣ x.natAbs := (gcdF_fold l 0).2.2.1 x hx
theorem dvd_gcdL {l : List Int} {k : Nat} (h : ∀ x ∈ l, k ∣ x.natAbs) : k ∣ (gcdL l).natAbs := (gcdF_fold l 0).2.2.2 k (Nat.dvd_zero _) h
theorem gcdL_zero {l : List Int} (h : gcdL l = 0) : ∀ x ∈ l, x = 0 := fun x hx => by
  have := gcdL_dvd hx
  rw [h] at this
  exact Int.natAbs_eq_zero.1 (Nat.zero_dvd.1 this)
theorem gcdL_le {l : List Int} {b : Nat} (h : ∀ x ∈ l, x.natAbs ≤ b) : (gcdL l).natAbs ≤ b := by
  by_cases hz : ∀ x ∈ l, x = 0
  · have : 0 ∣ (gcdL l).natAbs ∨ True := .inr trivial
    have e : gcdL l = 0 := by
      have k := dvd_gcdL (l := l) (k := 0) (fun x hx => by rw [hz x hx]; exact Nat.dvd_refl _)
      exact Int.natAbs_eq_zero.1 (Nat.zero_dvd.1 k)
    rw [e]; exact Nat.zero_le _
  · obtain ⟨x, hx⟩ := Classical.not_forall.1 hz
    obtain ⟨hx, h0⟩ := Classical.not_imp.1 hx
    exact Nat.le_trans (Nat.le_of_dvd (Int.natAbs_pos.2 h0) (gcdL_dvd hx)) (h x hx)

theorem fn_ge {r : List Int} {j : Nat} (h : r.length ≤ j) : fn r j = 0 := by
  simp [fn, List.getD_eq_getElem?_getD, List.getElem?_eq_none h]
theorem fn_lt {r : List Int} {j : Nat} (h : j < r.length) : fn r j = r[j] := by
  simp [fn, List.getD_eq_getElem?_getD, List.getElem?_eq_getElem h]
theorem fn_mem {r : List Int} {j : Nat} (h : j < r.length) : fn r j ∈ r := by rw [fn_lt h]; exact List.getElem_mem h
theorem fn_bnd {r : List Int} {b : Nat} (h : ∀ x ∈ r, x.natAbs ≤ b) (j : Nat) : (fn r j).natAbs ≤ b := by
  rcases Nat.lt_or_ge j r.length with x | x
  · exact h _ (fn_mem x)
  · rw [fn_ge x]; exact Nat.zero_le _
theorem mem_fn {r : List Int} {x : Int} (h : x ∈ r) : ∃ j, j < r.length ∧ x = fn r j := by
  obtain ⟨j, hj, e⟩ := List.mem_iff_getElem.1 h
  exact ⟨j, hj, by rw [fn_lt hj, e]⟩
theorem bnd_fn {r : List Int} {b : Nat} (h : ∀ j, (fn r j).natAbs ≤ b) : ∀ x ∈ r, x.natAbs ≤ b := fun x hx => by
  obtain ⟨j, _, rfl⟩ := mem_fn hx
  exact h j

/-- no common divisor -/
def Prm (r : List Int) : Prop := ∀ k : Nat, (∀ x ∈ r, k ∣ x.natAbs) → k = 1 ∨ ∀ x ∈ r, x = 0

def den (l : List Int) : Int := max 1 (gcdL l)
theorem den_pos (l : List Int) : 0 < den l := by unfold den; omega
theorem prim_len (l : List Int) : (prim l).length = l.length := by simp [prim]
theorem den_mul (l : List Int) {x : Int} (hx : x ∈ l) : den l * x.fdiv (den l) = x := by
  have hd : den l ∣ x := by
    by_cases h : gcdL l = 0
    · rw [gcdL_zero h x hx]; exact ⟨0, by omega⟩
    · have h0 := gcdL_nonneg l
      have e : den l = gcdL l := by unfold den; omega
      rw [e]
      exact Int.natAbs_dvd_natAbs.1 (gcdL_dvd hx)
  rw [Int.fdiv_eq_ediv_of_nonneg _ (by have := den_pos l; omega)]
  exact Int.mul_ediv_cancel' hd
theorem prim_fn (l : List Int) (j : Nat) : den l * fn (prim l) j = fn l j := by
  rcases Nat.lt_or_ge j l.length with x | x
  · rw [fn_lt x, fn_lt (by rw [prim_len]; exact x)]
    simp only [prim, List.getElem_map]
    exact den_mul l (List.getElem_mem x)
  · rw [fn_ge x, fn_ge (by rw [prim_len]; exact x)]; omega
theorem prim_pr (l : List Int) : Pr (fn (prim l)) (fn l) := ⟨den l, 1, by have := den_pos l; omega, by decide, fun j => by rw [prim_fn]; omega⟩
theorem prim_prm (l : List Int) : Prm (prim l) := by
  intro k hk
  by_cases h : gcdL l = 0
  · right
    intro x hx
    obtain ⟨j, hj, rfl⟩ := mem_fn hx
    have e := prim_fn l j
    have : fn l j = 0 := gcdL_zero h _ (fn_mem (by rw [prim_len] at hj; exact hj))
    rw [this] at e
    exact (Int.mul_eq_zero.1 e).resolve_left (by have := den_pos l; omega)
  · left
    have h0 := gcdL_nonneg l
    have e : den l = gcdL l := by unfold den; omega
    have : k * (gcdL l).natAbs ∣ (gcdL l).natAbs := dvd_gcdL fun x hx => by
      obtain ⟨j, hj, rfl⟩ := mem_fn hx
      rw [← prim_fn l j, e, Int.natAbs_mul, Nat.mul_comm]
      exact Nat.mul_dvd_mul_left _ (hk _ (fn_mem (by rw [prim_len]; exact hj)))
    have hp : 0 < (gcdL l).natAbs := Int.natAbs_pos.2 h
    obtain ⟨t, ht⟩ := this
    have : k * t = 1 := by
      apply Nat.eq_of_mul_eq_mul_left hp
      rw [Nat.mul_one]
      calc (gcdL l).natAbs * (k * t) = k * (gcdL l).natAbs * t := by rw [Nat.mul_left_comm, Nat.mul_assoc]
        _ = _ := ht.symm
    exact Nat.dvd_one.1 ⟨t, this.symm⟩
/-- what is proportional to a row without a common divisor is a multiple of it -/
theorem Prm.mul {r : List Int} (p : Prm r) {w : V} {a b : Int} (ha : a ≠ 0) (hb : b ≠ 0) (e : ∀ j, a * fn r j = b * w j) : ∃ t : Int, t ≠ 0 ∧ ∀ j, w j = t * fn r j := by
  have hg : 0 < Nat.gcd a.natAbs b.natAbs := Nat.gcd_pos_of_pos_left _ (Int.natAbs_pos.2 ha)
  obtain ⟨a', ea⟩ : ((Nat.gcd a.natAbs b.natAbs : Nat) : Int) ∣ a := Int.natAbs_dvd_natAbs.1 (by rw [Int.natAbs_natCast]; exact Nat.gcd_dvd_left _ _)
  obtain ⟨b', eb⟩ : ((Nat.gcd a.natAbs b.natAbs : Nat) : Int) ∣ b := Int.natAbs_dvd_natAbs.1 (by rw [Int.natAbs_natCast]; exact Nat.gcd_dvd_right _ _)
  generalize hgg : Nat.gcd a.natAbs b.natAbs = g at *
  have ha' : a' ≠ 0 := fun h => ha (by rw [ea, h]; omega)
  have hb' : b' ≠ 0 := fun h => hb (by rw [eb, h]; omega)
  have e' : ∀ j, a' * fn r j = b' * w j := fun j => by
    have := e j
    rw [ea, eb, Int.mul_assoc, Int.mul_assoc] at this
    exact Int.eq_of_mul_eq_mul_left (by omega) this
  have cop : Nat.gcd b'.natAbs a'.natAbs = 1 := by
    have h1 : a.natAbs = g * a'.natAbs := by rw [ea, Int.natAbs_mul, Int.natAbs_natCast]
    have h2 : b.natAbs = g * b'.natAbs := by rw [eb, Int.natAbs_mul, Int.natAbs_natCast]
    rw [h1, h2, Nat.gcd_mul_left] at hgg
    have : Nat.gcd a'.natAbs b'.natAbs = 1 := Nat.eq_of_mul_eq_mul_left hg (by omega)
    rw [Nat.gcd_comm]; exact this
  have dv : ∀ x ∈ r, b'.natAbs ∣ x.natAbs := fun x hx => by
    obtain ⟨j, _, rfl⟩ := mem_fn hx
    have := e' j
    have k : b'.natAbs ∣ a'.natAbs * (fn r j).natAbs := ⟨(w j).natAbs, by rw [← Int.natAbs_mul, this, Int.natAbs_mul]⟩
    exact Nat.Coprime.dvd_of_dvd_mul_left cop k
  rcases p _ dv with h1 | hz
  · have : b' = 1 ∨ b' = -1 := by omega
    rcases this with rfl | rfl
    · exact ⟨a', ha', fun j => by have := e' j; omega⟩
    · exact ⟨- a', by omega, fun j => by have := e' j; rw [Int.neg_mul]; omega⟩
  · refine ⟨1, by decide, fun j => ?_⟩
    have hz' : fn r j = 0 := by
      rcases Nat.lt_or_ge j r.length with x | x
      · exact hz _ (fn_mem x)
      · exact fn_ge x
    have := e' j
    rw [hz'] at this ⊢
    have := (Int.mul_eq_zero.1 (show b' * w j = 0 by omega)).resolve_left hb'
    omega
theorem Prm.le {r : List Int} (p : Prm r) {w : V} {a b : Int} (ha : a ≠ 0) (hb : b ≠ 0) (e : ∀ j, a * fn r j = b * w j) (j : Nat) : (fn r j).natAbs ≤ (w j).natAbs := by
  obtain ⟨t, ht, k⟩ := p.mul ha hb e
  rw [k j, Int.natAbs_mul]
  exact Nat.le_mul_of_pos_left _ (Int.natAbs_pos.2 ht)

theorem comb_len {own factor : Int} {r p : List Int} (h : r.length = p.length) : (comb own factor r p).length = r.length := by simp [comb, h]
theorem comb_fn {own factor : Int} {r p : List Int} (h : r.length = p.length) (j : Nat) : fn (comb own factor r p) j = own * fn r j - factor * fn p j := by
  rcases Nat.lt_or_ge j r.length with x | x
  · have x' : j < p.length := by omega
    have x2 : j < (comb own factor r p).length := by rw [comb_len h]; exact x
    rw [fn_lt x, fn_lt x', fn_lt x2]
    simp [comb]
  · have x' : p.length ≤ j := by omega
    have x2 : (comb own factor r p).length ≤ j := by rw [comb_len h]; exact x
    rw [fn_ge x, fn_ge x', fn_ge x2]; omega
end M

/-! M4: what the elimination keeps. -/
namespace M

theorem clr_len {r p : List Int} (h : r.length = p.length) (c : Nat) : (clr r p c).length = r.length := by
  unfold clr; split
  · rfl
  · rw [prim_len, comb_len h]
/-- the cleared row is proportional to the combination -/
theorem clr_pr {r p : List Int} (h : r.length = p.length) {c : Nat} (hp : fn p c ≠ 0) : Pr (fn (clr r p c)) (fun j => fn p c * fn r j - fn r c * fn p j) := by
  unfold clr; split
  · rename_i e
    exact ⟨fn p c, 1, hp, by decide, fun j => by dsimp only; rw [e]; omega⟩
  · exact (prim_pr _).trans ⟨1, 1, by decide, by decide, fun j => by rw [comb_fn h]⟩
theorem clr_zero {r p : List Int} (h : r.length = p.length) {c : Nat} (hp : fn p c ≠ 0) : fn (clr r p c) c = 0 := by
  rw [(clr_pr h hp).zero c]
  rw [Int.mul_comm]; omega
theorem clr_qs {S : V → Prop} {r p : List Int} (h : r.length = p.length) {c : Nat} (hp : fn p c ≠ 0) (s : Qs S (fn r)) (s' : Qs S (fn p)) : Qs S (fn (clr r p c)) :=
  (clr_pr h hp).qs ((Qs.lin (fn p c) (- fn r c) s s').ext fun j => by rw [Int.neg_mul]; omega)
theorem clr_back {S : V → Prop} {r p : List Int} (h : r.length = p.length) {c : Nat} (hp : fn p c ≠ 0) (s : Qs S (fn (clr r p c))) (s' : Qs S (fn p)) : Qs S (fn r) := by
  have q := (clr_pr h hp).symm.qs s
  exact .div (fn p c) hp ((Qs.lin 1 (fn r c) q s').ext fun j => by omega)
theorem clr_prm {r p : List Int} {c : Nat} (hr : Prm r) : Prm (clr r p c) := by
  unfold clr; split
  · exact hr
  · exact prim_prm _

def fns (l : List (List Int)) : V → Prop := fun x => x ∈ l.map fn
structure Inv (n : Nat) (vs : List (List Int)) (col : Nat) (us : List V) (s : Red × List (List Int)) : Prop where
  good : Good us (s.1.map (·.1)).reverse
  ori : ∀ u ∈ us, u ∈ vs.map fn
  rl : ∀ r ∈ s.2, r.length = n
  rv : ∀ r ∈ s.2, (∃ v ∈ vs, Pr (fn r) (W us (s.1.map (·.1)).reverse (fn v))) ∧ (r ∈ vs ∨ Prm r)
  rz : ∀ r ∈ s.2, ∀ j < col, fn r j = 0
  ql : ∀ q ∈ s.1, q.2.length = n
  qs : ∀ q ∈ s.1, Qs (· ∈ us) (fn q.2)
  qc : ∀ q ∈ s.1, q.1 < col
  qp : ∀ q ∈ s.1, Prm q.2
  ld : ∀ q ∈ s.1, Ld (fn q.2) q.1
  qz : ∀ q ∈ s.1, ∀ q' ∈ s.1, q'.1 ≠ q.1 → fn q.2 q'.1 = 0
  sp : ∀ v ∈ vs, Qs (fun x => x ∈ s.1.map (fun q => fn q.2) ∨ fns s.2 x) (fn v)

theorem Inv.start {n : Nat} {vs : List (List Int)} (hl : ∀ v ∈ vs, v.length = n) : Inv n vs 0 [] ([], vs) where
  good := .nil
  ori := fun u hu => by cases hu
  rl := hl
  rv := fun r hr => ⟨⟨r, hr, ⟨1, 1, by decide, by decide, fun j => by simp [W, h, dl]⟩⟩, .inl hr⟩
  rz := fun r _ j hj => by omega
  ql := fun q hq => by cases hq
  qs := fun q hq => by cases hq
  qc := fun q hq => by cases hq
  qp := fun q hq => by cases hq
  ld := fun q hq => by cases hq
  qz := fun q hq => by cases hq
  sp := fun v hv => .mem (.inr (List.mem_map_of_mem hv))

/-- the column's step: what is chosen -/
theorem find_cases (l : List (List Int)) (c : Nat) : (l.findIdx? (fun r => fn r c != 0) = none ∧ ∀ r ∈ l, fn r c = 0) ∨ ∃ i, l.findIdx? (fun r => fn r c != 0) = some i ∧ ∃ hi : i < l.length, fn l[i] c ≠ 0 := by
  rcases hfi : l.findIdx? (fun r => fn r c != 0) with _ | i
  · left
    refine ⟨rfl, fun r hr => ?_⟩
    have := List.findIdx?_eq_none_iff.1 hfi r hr
    simpa using this
  · right
    obtain ⟨hi, h1, _⟩ := List.findIdx?_eq_some_iff_getElem.1 hfi
    exact ⟨i, rfl, hi, by simpa using h1⟩

theorem mem_erase_or {α : Type} [Inhabited α] {l : List α} {i : Nat} (hi : i < l.length) {r : α} (hr : r ∈ l) : r = l[i] ∨ r ∈ l.eraseIdx i := by
  obtain ⟨j, hj, rfl⟩ := List.mem_iff_getElem.1 hr
  by_cases e : j = i
  · left; subst e; rfl
  · right
    exact List.mem_eraseIdx_iff_getElem.2 ⟨j, hj, e, rfl⟩

theorem Inv.step {n : Nat} {vs : List (List Int)} {col : Nat} {us : List V} {s : Red × List (List Int)} (I : Inv n vs col us s) : ∃ us', Inv n vs (col + 1) us' (stp s col) := by
  rcases find_cases s.2 col with ⟨e, hz⟩ | ⟨i, e, hi, hne⟩
  · refine ⟨us, ?_⟩
    have es : stp s col = s := by unfold stp; rw [e]
    rw [es]
    exact { I with
      rz := fun r hr j hj => by
        rcases Nat.lt_or_ge j col with x | x
        · exact I.rz r hr j x
        · rw [show j = col by omega]; exact hz r hr
      qc := fun q hq => by have := I.qc q hq; omega }
  · have hm : s.2[i] ∈ s.2 := List.getElem_mem hi
    have eg : s.2.getD i [] = s.2[i] := by simp [List.getD_eq_getElem?_getD, List.getElem?_eq_getElem hi]
    generalize hcs : (s.1.map (·.1)).reverse = cs at *
    obtain ⟨⟨v, hv, pv⟩, _⟩ := hcs ▸ I.rv _ hm
    generalize hp : prim s.2[i] = p
    have pl : p.length = n := by rw [← hp, prim_len]; exact I.rl _ hm
    have pp : Pr (fn p) (fn s.2[i]) := hp ▸ prim_pr _
    have pc : fn p col ≠ 0 := fun h => hne ((pp.zero col).1 h)
    have pW : Pr (fn p) (W us cs (fn v)) := pp.trans pv
    have g : Good us cs := hcs ▸ I.good
    have Wc : W us cs (fn v) col ≠ 0 := fun h => pc ((pW.zero col).2 h)
    have pz : ∀ j < col, fn p j = 0 := fun j hj => (pp.zero j).2 (I.rz _ hm j hj)
    have pprm : Prm p := hp ▸ prim_prm _
    have es : stp s col = ((s.1.map fun q => (q.1, clr q.2 p col)) ++ [(col, p)], (s.2.eraseIdx i).map fun r => clr r p col) := by
      unfold stp; rw [e]; dsimp only; rw [eg, hp]
    have ecs : (((s.1.map fun q => (q.1, clr q.2 p col)) ++ [(col, p)]).map (·.1)).reverse = col :: cs := by
      rw [← hcs]; simp [List.map_append, Function.comp_def]
    have pq : Qs (· ∈ fn v :: us) (fn p) := by
      obtain ⟨s', hs', e'⟩ := W_sp us cs (fn v)
      refine pW.qs ((Qs.lin (h cs us) 1 (.mem List.mem_cons_self) (.of_sp (fun u hu => .mem (List.mem_cons_of_mem _ hu)) hs')).ext fun j => by rw [e' j]; omega)
    have memq : ∀ q ∈ (s.1.map fun q => (q.1, clr q.2 p col)) ++ [(col, p)], (∃ q0 ∈ s.1, q = (q0.1, clr q0.2 p col)) ∨ q = (col, p) := fun q hq => by
      rcases List.mem_append.1 hq with h | h
      · obtain ⟨q0, h0, rfl⟩ := List.mem_map.1 h
        exact .inl ⟨q0, h0, rfl⟩
      · exact .inr (List.mem_singleton.1 h)
    have memr : ∀ r ∈ (s.2.eraseIdx i).map fun r => clr r p col, ∃ r0 ∈ s.2, r = clr r0 p col := fun r hr => by
      obtain ⟨r0, h0, rfl⟩ := List.mem_map.1 hr
      exact ⟨r0, List.mem_of_mem_eraseIdx h0, rfl⟩
    have lq : ∀ q ∈ s.1, q.2.length = p.length := fun q hq => by rw [pl]; exact I.ql q hq
    have lr : ∀ r ∈ s.2, r.length = p.length := fun r hr => by rw [pl]; exact I.rl r hr
    refine ⟨fn v :: us, ?_⟩
    rw [es]
    constructor
    · rw [ecs]; exact .cons g Wc
    · intro u hu
      rcases List.mem_cons.1 hu with rfl | hu
      · exact List.mem_map_of_mem hv
      · exact I.ori u hu
    · intro r hr
      obtain ⟨r0, h0, rfl⟩ := memr r hr
      rw [clr_len (lr r0 h0)]; exact I.rl r0 h0
    · intro r hr
      obtain ⟨r0, h0, rfl⟩ := memr r hr
      obtain ⟨⟨v0, hv0, p0⟩, hor⟩ := hcs ▸ I.rv r0 h0
      rw [ecs]
      refine ⟨⟨v0, hv0, (clr_pr (lr r0 h0) pc).trans (W_clear g pW p0 pc)⟩, ?_⟩
      unfold clr; split
      · exact hor
      · exact .inr (prim_prm _)
    · intro r hr j hj
      obtain ⟨r0, h0, rfl⟩ := memr r hr
      rcases Nat.lt_or_ge j col with x | x
      · rw [(clr_pr (lr r0 h0) pc).zero j, I.rz r0 h0 j x, pz j x]; omega
      · rw [show j = col by omega]; exact clr_zero (lr r0 h0) pc
    · intro q hq
      rcases memq q hq with ⟨q0, h0, rfl⟩ | rfl
      · dsimp only; rw [clr_len (lq q0 h0)]; exact I.ql q0 h0
      · exact pl
    · intro q hq
      rcases memq q hq with ⟨q0, h0, rfl⟩ | rfl
      · exact clr_qs (lq q0 h0) pc ((I.qs q0 h0).mono fun x hx => List.mem_cons_of_mem _ hx) pq
      · exact pq
    · intro q hq
      rcases memq q hq with ⟨q0, h0, rfl⟩ | rfl
      · have := I.qc q0 h0; dsimp only; omega
      · dsimp only; omega
    · intro q hq
      rcases memq q hq with ⟨q0, h0, rfl⟩ | rfl
      · exact clr_prm (I.qp q0 h0)
      · exact pprm
    · intro q hq
      rcases memq q hq with ⟨q0, h0, rfl⟩ | rfl
      · have l0 := I.ld q0 h0
        have c0 := I.qc q0 h0
        have k := clr_pr (lq q0 h0) pc
        refine ⟨fun j hj => ?_, fun h => ?_⟩
        · dsimp only at hj ⊢
          rw [k.zero j, l0.1 j hj, pz j (by omega)]; omega
        · dsimp only at h
          rw [k.zero q0.1, pz q0.1 c0] at h
          exact l0.2 ((Int.mul_eq_zero.1 (show fn p col * fn q0.2 q0.1 = 0 by omega)).resolve_left pc)
      · exact ⟨pz, pc⟩
    · intro q hq q' hq' hqq
      rcases memq q hq with ⟨q0, h0, rfl⟩ | rfl
      · rcases memq q' hq' with ⟨q1, h1, rfl⟩ | rfl
        · dsimp only at hqq ⊢
          rw [(clr_pr (lq q0 h0) pc).zero q1.1, I.qz q0 h0 q1 h1 hqq, pz q1.1 (I.qc q1 h1)]; omega
        · exact clr_zero (lq q0 h0) pc
      · rcases memq q' hq' with ⟨q1, h1, rfl⟩ | rfl
        · exact pz q1.1 (I.qc q1 h1)
        · exact absurd rfl hqq
    · intro v0 hv0
      refine (I.sp v0 hv0).trans fun x hx => ?_
      have qp : Qs (fun x => x ∈ ((s.1.map fun q => (q.1, clr q.2 p col)) ++ [(col, p)]).map (fun q => fn q.2) ∨ fns ((s.2.eraseIdx i).map fun r => clr r p col) x) (fn p) :=
        .mem (.inl (List.mem_map.2 ⟨(col, p), List.mem_append_right _ (List.mem_singleton.2 rfl), rfl⟩))
      rcases hx with hx | hx
      · obtain ⟨q0, h0, rfl⟩ := List.mem_map.1 hx
        exact clr_back (lq q0 h0) pc (.mem (.inl (List.mem_map.2 ⟨(q0.1, clr q0.2 p col), List.mem_append_left _ (List.mem_map.2 ⟨q0, h0, rfl⟩), rfl⟩))) qp
      · obtain ⟨r0, h0, rfl⟩ := List.mem_map.1 hx
        rcases mem_erase_or hi h0 with rfl | h1
        · exact pp.symm.qs qp
        · exact clr_back (lr r0 h0) pc (.mem (.inr (List.mem_map.2 ⟨clr r0 p col, List.mem_map.2 ⟨r0, h1, rfl⟩, rfl⟩))) qp

theorem Inv.all {n : Nat} {vs : List (List Int)} (hl : ∀ v ∈ vs, v.length = n) (k : Nat) : ∃ us, Inv n vs k us (red vs k) := by
  induction k with
  | zero => exact ⟨[], Inv.start hl⟩
  | succ k ih =>
    obtain ⟨us, I⟩ := ih
    have e : red vs (k + 1) = stp (red vs k) k := by unfold red; rw [List.range_succ, List.foldl_append]; rfl
    rw [e]
    exact I.step

/-! bounds -/
theorem Inv.cslen {n vs col us s} (I : Inv n vs col us s) : us.length = s.1.length := by
  have := I.good.len
  simpa using this
theorem Inv.few {n vs col us s} (I : Inv n vs col us s) : s.1.length ≤ col := by
  have nd := I.good.nodup
  have nd := (List.reverse_perm _).nodup_iff.1 nd
  have := nd.length_le_of_subset (l₂ := List.range col) (fun c hc => by
    obtain ⟨q, hq, rfl⟩ := List.mem_map.1 hc
    exact List.mem_range.2 (I.qc q hq))
  simpa using this
theorem fac_pos (n : Nat) : 0 < fac n := by
  induction n with
  | zero => decide
  | succ n ih => exact Nat.mul_pos (by omega) ih
theorem fac_mono {m n : Nat} (h : m ≤ n) : fac m ≤ fac n := by
  induction n with
  | zero => rw [show m = 0 by omega]; exact Nat.le_refl _
  | succ n ih =>
    rcases Nat.lt_or_ge n m with x | x
    · rw [show m = n + 1 by omega]; exact Nat.le_refl _
    · exact Nat.le_trans (ih x) (Nat.le_mul_of_pos_left _ (by omega))
def mb (B k : Nat) : Nat := fac k * B ^ k
theorem mb_mono {B m n : Nat} (hB : 0 < B) (h : m ≤ n) : mb B m ≤ mb B n := Nat.mul_le_mul (fac_mono h) (Nat.pow_le_pow_right hB h)
theorem Inv.ubnd {n vs col us s} (I : Inv n vs col us s) {B : Nat} (hb : ∀ v ∈ vs, ∀ x ∈ v, x.natAbs ≤ B) : ∀ u ∈ us, ∀ j, (u j).natAbs ≤ B := fun u hu j => by
  obtain ⟨v, hv, rfl⟩ := List.mem_map.1 (I.ori u hu)
  exact fn_bnd (hb v hv) j
theorem Inv.rbnd {n vs col us s} (I : Inv n vs col us s) {B : Nat} (h0 : 0 < B) (hb : ∀ v ∈ vs, ∀ x ∈ v, x.natAbs ≤ B) : ∀ r ∈ s.2, ∀ j, (fn r j).natAbs ≤ mb B (s.1.length + 1) := fun r hr j => by
  obtain ⟨⟨v, hv, a, b, ha, hb', e⟩, ho | hp⟩ := I.rv r hr
  · refine Nat.le_trans (fn_bnd (hb r ho) j) ?_
    have := mb_mono (B := B) h0 (show 1 ≤ s.1.length + 1 by omega)
    simpa [mb, fac] using this
  · refine Nat.le_trans (hp.le ha hb' e j) ?_
    have := h_bnd (B := B) (j :: (s.1.map (·.1)).reverse) (fn v :: us) (fun x hx j => by
      rcases List.mem_cons.1 hx with rfl | hx
      · exact fn_bnd (hb v hv) j
      · exact I.ubnd hb x hx j) (by simp [I.cslen])
    simpa [W, mb] using this
theorem Inv.qbnd {n vs col us s} (I : Inv n vs col us s) {B : Nat} (hb : ∀ v ∈ vs, ∀ x ∈ v, x.natAbs ≤ B) : (∀ q ∈ s.1, ∀ j, (fn q.2 j).natAbs ≤ mb B s.1.length) ∧ ∃ D : Int, D ≠ 0 ∧ D.natAbs ≤ mb B s.1.length ∧ ∀ q ∈ s.1, fn q.2 q.1 ∣ D := by
  have hcm : ∀ q ∈ s.1, q.1 ∈ (s.1.map (·.1)).reverse := fun q hq => List.mem_reverse.2 (List.mem_map_of_mem hq)
  have key : ∀ q ∈ s.1, ∃ t : Int, t ≠ 0 ∧ ∀ j, Y us (s.1.map (·.1)).reverse q.1 j = t * fn q.2 j := fun q hq => by
    obtain ⟨pc, e⟩ := Y_pr I.good (hcm q hq) (I.qs q hq) (I.ld q hq).2 (fun c' hc' hne => by
      obtain ⟨q', hq', rfl⟩ := List.mem_map.1 (List.mem_reverse.1 hc')
      exact I.qz q hq q' hq' hne)
    have hY : Y us (s.1.map (·.1)).reverse q.1 q.1 ≠ 0 := by
      have := I.good.ne
      rcases pc with x | x <;> (rw [x] at this; omega)
    exact (I.qp q hq).mul hY (I.ld q hq).2 e
  refine ⟨fun q hq j => ?_, h (s.1.map (·.1)).reverse us, I.good.ne, ?_, fun q hq => ?_⟩
  · obtain ⟨t, ht, k⟩ := key q hq
    have le1 : (fn q.2 j).natAbs ≤ (Y us (s.1.map (·.1)).reverse q.1 j).natAbs := by
      rw [k j, Int.natAbs_mul]
      exact Nat.le_mul_of_pos_left _ (Int.natAbs_pos.2 ht)
    refine Nat.le_trans le1 ?_
    have hlen : (j :: (s.1.map (·.1)).reverse.erase q.1).length = s.1.length := by
      rw [List.length_cons, List.length_erase_of_mem (hcm q hq)]
      have : 0 < s.1.length := List.length_pos_of_mem hq
      simp; omega
    have := h_bnd (B := B) (j :: (s.1.map (·.1)).reverse.erase q.1) us (I.ubnd hb) (by rw [hlen]; exact I.cslen)
    rw [hlen] at this
    exact this
  · have := h_bnd (B := B) (s.1.map (·.1)).reverse us (I.ubnd hb) I.good.len
    simpa [mb] using this
  · obtain ⟨t, ht, k⟩ := key q hq
    obtain ⟨pc, _⟩ := Y_pr I.good (hcm q hq) (I.qs q hq) (I.ld q hq).2 (fun c' hc' hne => by
      obtain ⟨q', hq', rfl⟩ := List.mem_map.1 (List.mem_reverse.1 hc')
      exact I.qz q hq q' hq' hne)
    rw [k q.1] at pc
    rcases pc with x | x
    · exact ⟨t, by rw [x]; exact Int.mul_comm _ _⟩
    · exact ⟨-t, by rw [x, Int.mul_neg, Int.mul_comm]⟩
end M

/-! M5: the law's own elimination, and equal ranks. -/
namespace M

abbrev csOf (rows : Red) : List Nat := (rows.map (·.1)).reverse
def lstep (st : List Int × Int) (q : Nat × List Int) : List Int × Int :=
  ((List.range st.1.length).map fun k => (fn q.2 q.1 * fn st.1 k - fn st.1 q.1 * fn q.2 k).fdiv st.2, fn q.2 q.1)
def lredS (rows : Red) (v : List Int) : List Int × Int := rows.foldl lstep (v, 1)
def lred (rows : Red) (v : List Int) : List Int := (lredS rows v).1
def lwith (rows : Red) (v : List Int) : Red :=
  match (lred rows v).findIdx? (· != 0) with
  | none => rows
  | some k => rows ++ [(k, lred rows v)]

inductive LW (n : Nat) : List (List Int) → Red → Prop
  | nil : LW n [] []
  | snoc {us rows v c r} : LW n us rows → v.length = n → r.length = n → (∀ j, fn r j = W (us.map fn) (csOf rows) (fn v) j) → Ld (fn r) c → LW n (v :: us) (rows ++ [(c, r)])

theorem csOf_snoc (rows : Red) (c : Nat) (r : List Int) : csOf (rows ++ [(c, r)]) = c :: csOf rows := by simp [csOf]
theorem LW.good {n us rows} (l : LW n us rows) : Good (us.map fn) (csOf rows) := by
  induction l with
  | nil => exact .nil
  | snoc l hv hr e ld ih => rw [csOf_snoc]; exact .cons ih (by rw [← e]; exact ld.2)
theorem LW.ulen {n us rows} (l : LW n us rows) : ∀ u ∈ us, u.length = n := by
  induction l with
  | nil => intro u hu; cases hu
  | snoc l hv hr e ld ih =>
    intro u hu
    rcases List.mem_cons.1 hu with rfl | hu
    · exact hv
    · exact ih u hu
theorem LW.rlen {n us rows} (l : LW n us rows) : ∀ q ∈ rows, q.2.length = n := by
  induction l with
  | nil => intro u hu; cases hu
  | snoc l hv hr e ld ih =>
    intro u hu
    rcases List.mem_append.1 hu with hu | hu
    · exact ih u hu
    · rw [List.mem_singleton.1 hu]; exact hr

theorem fn_map_range {n : Nat} {f : Nat → Int} {w : V} (h : ∀ j < n, f j = w j) (h' : ∀ j, n ≤ j → w j = 0) (j : Nat) : fn ((List.range n).map f) j = w j := by
  rcases Nat.lt_or_ge j n with x | x
  · rw [fn_lt (by simpa using x)]; simp [h j x]
  · rw [fn_ge (by simpa using x), h' j x]
theorem W_ge {n : Nat} {us : List V} {cs : List Nat} {v : V} (hu : ∀ u ∈ us, ∀ j, n ≤ j → u j = 0) (hv : ∀ j, n ≤ j → v j = 0) (j : Nat) (hj : n ≤ j) : W us cs v j = 0 := by
  have : ∀ (xs : List V) (g : List V → Int), (∀ x ∈ xs, x j = 0) → dl j g xs = 0 := by
    intro xs
    induction xs with
    | nil => intro g _; rfl
    | cons x xs ih =>
      intro g hx
      simp only [dl]
      rw [hx x List.mem_cons_self, ih _ (fun y hy => hx y (List.mem_cons_of_mem _ hy))]; omega
  exact this _ _ fun x hx => by
    rcases List.mem_cons.1 hx with rfl | hx
    · exact hv j hj
    · exact hu x hx j hj

theorem LW.red {n us rows} (l : LW n us rows) {v : List Int} (hv : v.length = n) : (lredS rows v).1.length = n ∧ (∀ j, fn (lredS rows v).1 j = W (us.map fn) (csOf rows) (fn v) j) ∧ (lredS rows v).2 = h (csOf rows) (us.map fn) := by
  induction l with
  | nil => exact ⟨hv, fun j => by simp [lredS, W, csOf, h, dl], rfl⟩
  | @snoc us rows u c r l hu hr e ld ih =>
    obtain ⟨i1, i2, i3⟩ := ih
    have es : lredS (rows ++ [(c, r)]) v = lstep (lredS rows v) (c, r) := by simp [lredS]
    rw [es, csOf_snoc]
    have g := l.good
    refine ⟨by simp [lstep, i1], ?_, ?_⟩
    · simp only [lstep]
      rw [i1]
      have hz : ∀ x ∈ (u :: us).map fn, ∀ j, n ≤ j → x j = 0 := fun x hx j hj => by
        obtain ⟨y, hy, rfl⟩ := List.mem_map.1 hx
        exact fn_ge (by rw [(LW.snoc l hu hr e ld).ulen y hy]; exact hj)
      refine fn_map_range (fun j hj => ?_) (fun j hj => W_ge hz (fun j hj => fn_ge (by omega)) j hj)
      have k := W_step g (u := fn u) (c := c) (by rw [← e]; exact ld.2) (fn v) j
      rw [i2, i2, i3, e, e, k]
      exact Int.mul_fdiv_cancel_left _ g.ne
    · simp only [lstep]
      rw [e]; rfl

theorem LW.with {n us rows} (l : LW n us rows) {v : List Int} (hv : v.length = n) :
    (lwith rows v = rows ∧ ∀ j, W (us.map fn) (csOf rows) (fn v) j = 0) ∨ (∃ c, lwith rows v = rows ++ [(c, lred rows v)] ∧ LW n (v :: us) (lwith rows v) ∧ ∃ j, W (us.map fn) (csOf rows) (fn v) j ≠ 0) := by
  obtain ⟨i1, i2, i3⟩ := l.red hv
  rcases hf : (lred rows v).findIdx? (· != 0) with _ | k
  · left
    refine ⟨by unfold lwith; rw [hf], fun j => ?_⟩
    rw [← i2 j]
    show fn (lred rows v) j = 0
    rcases Nat.lt_or_ge j (lred rows v).length with x | x
    · have := List.findIdx?_eq_none_iff.1 hf _ (fn_mem x)
      simpa using this
    · exact fn_ge x
  · right
    obtain ⟨hk, h1, h2⟩ := List.findIdx?_eq_some_iff_getElem.1 hf
    have e : lwith rows v = rows ++ [(k, lred rows v)] := by unfold lwith; rw [hf]
    have ld : Ld (fn (lred rows v)) k := ⟨fun j hj => by
      have := h2 j hj
      rw [fn_lt (by omega)]
      simpa using this, by rw [fn_lt hk]; simpa using h1⟩
    refine ⟨k, e, ?_, k, by rw [← i2]; exact ld.2⟩
    rw [e]
    exact .snoc l hv i1 i2 ld

theorem Qs.of_W {S : V → Prop} {us cs v} (g : Good us cs) (hu : ∀ u ∈ us, Qs S u) (hW : Qs S (W us cs v)) : Qs S v := by
  obtain ⟨s, hs, e⟩ := W_sp us cs v
  exact .div (h cs us) g.ne ((Qs.lin 1 (-1) hW (.of_sp hu hs)).ext fun j => by rw [e j]; omega)
theorem Qs.W {S : V → Prop} {us cs v} (hu : ∀ u ∈ us, Qs S u) (hv : Qs S v) : Qs S (W us cs v) := by
  obtain ⟨s, hs, e⟩ := W_sp us cs v
  exact (Qs.lin (h cs us) 1 hv (.of_sp hu hs)).ext fun j => by rw [e j]; omega

/-- all rows of the law -/
theorem LW.fold {n : Nat} : ∀ (vs : List (List Int)) {us0 rows0} (l0 : LW n us0 rows0) (hl : ∀ v ∈ vs, v.length = n), ∃ us, LW n us (vs.foldl lwith rows0) ∧ (∀ u ∈ us, u ∈ vs ∨ u ∈ us0) ∧ (∀ u ∈ us0, u ∈ us) ∧ ∀ v ∈ vs, Qs (· ∈ us.map fn) (fn v)
  | [], us0, rows0, l0, _ => ⟨us0, l0, fun u hu => .inr hu, fun u hu => hu, fun v hv => by cases hv⟩
  | v :: vs, us0, rows0, l0, hl => by
    have hv := hl v List.mem_cons_self
    have hl' : ∀ v ∈ vs, v.length = n := fun x hx => hl x (List.mem_cons_of_mem _ hx)
    rcases l0.with hv with ⟨e, z⟩ | ⟨c, e, l1, _⟩
    · obtain ⟨us, l, h1, h2, h3⟩ := LW.fold vs l0 hl'
      refine ⟨us, by rw [List.foldl_cons, e]; exact l, fun u hu => (h1 u hu).imp (List.mem_cons_of_mem _) id, h2, fun x hx => ?_⟩
      rcases List.mem_cons.1 hx with rfl | hx
      · refine Qs.of_W l0.good (fun u hu => .mem ?_) (Qs.zero.ext z)
        obtain ⟨y, hy, rfl⟩ := List.mem_map.1 hu
        exact List.mem_map_of_mem (h2 y hy)
      · exact h3 x hx
    · obtain ⟨us, l, h1, h2, h3⟩ := LW.fold vs l1 hl'
      refine ⟨us, by rw [List.foldl_cons]; exact l, fun u hu => ?_, fun u hu => h2 u (List.mem_cons_of_mem _ hu), fun x hx => ?_⟩
      · rcases h1 u hu with a | a
        · exact .inl (List.mem_cons_of_mem _ a)
        · rcases List.mem_cons.1 a with rfl | a
          · exact .inl List.mem_cons_self
          · exact .inr a
      · rcases List.mem_cons.1 hx with rfl | hx
        · exact .mem (List.mem_map_of_mem (h2 x List.mem_cons_self))
        · exact h3 x hx

theorem Led.of : ∀ {l : List (Nat × V)}, (∀ p ∈ l, Ld p.2 p.1) → (l.map (·.1)).Nodup → Led l
  | [], _, _ => .nil
  | (c, r) :: l, h, nd => .cons (h _ List.mem_cons_self) (fun p hp e => (List.nodup_cons.1 nd).1 (by dsimp only; rw [← e]; exact List.mem_map_of_mem hp)) (Led.of (fun p hp => h p (List.mem_cons_of_mem _ hp)) (List.nodup_cons.1 nd).2)
def vrows (rows : Red) : List (Nat × V) := rows.map fun q => (q.1, fn q.2)
theorem vrows_1 (rows : Red) : (vrows rows).map (·.1) = rows.map (·.1) := by simp [vrows, Function.comp_def]
theorem vrows_2 (rows : Red) : (vrows rows).map (·.2) = rows.map fun q => fn q.2 := by simp [vrows, Function.comp_def]
theorem vrows_mem {rows : Red} {p : Nat × V} (h : p ∈ vrows rows) : ∃ q ∈ rows, p = (q.1, fn q.2) := by
  obtain ⟨q, hq, rfl⟩ := List.mem_map.1 h
  exact ⟨q, hq, rfl⟩
theorem Good.nd {us : List V} {rows : Red} (g : Good us (csOf rows)) : (rows.map (·.1)).Nodup := (List.reverse_perm _).nodup_iff.1 g.nodup
theorem LW.ld {n us rows} (l : LW n us rows) : ∀ q ∈ rows, Ld (fn q.2) q.1 := by
  induction l with
  | nil => intro u hu; cases hu
  | snoc l hv hr e ld ih =>
    intro u hu
    rcases List.mem_append.1 hu with hu | hu
    · exact ih u hu
    · rw [List.mem_singleton.1 hu]; exact ld
theorem LW.led {n us rows} (l : LW n us rows) : Led (vrows rows) := .of (fun p hp => by
  obtain ⟨q, hq, rfl⟩ := vrows_mem hp
  exact l.ld q hq) (by rw [vrows_1]; exact l.good.nd)
theorem LW.r_u {n us rows} (l : LW n us rows) : ∀ q ∈ rows, Qs (· ∈ us.map fn) (fn q.2) := by
  induction l with
  | nil => intro u hu; cases hu
  | snoc l hv hr e ld ih =>
    intro u hu
    rcases List.mem_append.1 hu with hu | hu
    · exact (ih u hu).mono fun x hx => List.mem_cons_of_mem _ hx
    · rw [List.mem_singleton.1 hu]
      exact (Qs.W (fun u hu => .mem (List.mem_cons_of_mem _ hu)) (.mem List.mem_cons_self)).ext e
theorem LW.u_r {n us rows} (l : LW n us rows) : ∀ u ∈ us, Qs (· ∈ rows.map fun q => fn q.2) (fn u) := by
  induction l with
  | nil => intro u hu; cases hu
  | @snoc us rows v c r l hv hr e ld ih =>
    have ih' : ∀ u ∈ us, Qs (· ∈ (rows ++ [(c, r)]).map fun q => fn q.2) (fn u) := fun u hu => (ih u hu).mono fun x hx => by rw [List.map_append]; exact List.mem_append_left _ hx
    intro u hu
    rcases List.mem_cons.1 hu with rfl | hu
    · refine Qs.of_W l.good (fun x hx => ?_) ((Qs.mem (List.mem_map.2 ⟨(c, r), by simp, rfl⟩)).ext fun j => (e j).symm)
      obtain ⟨y, hy, rfl⟩ := List.mem_map.1 hx
      exact ih' y hy
    · exact ih' u hu

theorem Inv.led {n vs col us s} (I : Inv n vs col us s) : Led (vrows s.1) := .of (fun p hp => by
  obtain ⟨q, hq, rfl⟩ := vrows_mem hp
  exact I.ld q hq) (by rw [vrows_1]; exact Good.nd I.good)
theorem Inv.full {n vs us s} (I : Inv n vs n us s) : ∀ v ∈ vs, Qs (· ∈ s.1.map fun q => fn q.2) (fn v) := fun v hv => (I.sp v hv).trans fun x hx => by
  rcases hx with hx | hx
  · exact .mem hx
  · obtain ⟨r, hr, rfl⟩ := List.mem_map.1 hx
    exact Qs.zero.ext fun j => by
      rcases Nat.lt_or_ge j n with x | x
      · exact I.rz r hr j x
      · exact fn_ge (by rw [I.rl r hr]; exact x)
theorem Inv.sub {n vs col us s} (I : Inv n vs col us s) : ∀ q ∈ s.1, Qs (· ∈ vs.map fn) (fn q.2) := fun q hq => (I.qs q hq).mono fun u hu => I.ori u hu

/-- both find equally many rows -/
theorem rank_eq {n : Nat} {vs : List (List Int)} (hl : ∀ v ∈ vs, v.length = n) : (red vs n).1.length = (vs.foldl lwith []).length := by
  obtain ⟨us, I⟩ := Inv.all hl n
  obtain ⟨us', l, h1, _, h3⟩ := LW.fold vs .nil hl
  have := I.led.len l.led (fun p hp => by
    obtain ⟨q, hq, rfl⟩ := vrows_mem hp
    rw [vrows_2]
    refine (I.sub q hq).trans fun x hx => ?_
    obtain ⟨v, hv, rfl⟩ := List.mem_map.1 hx
    refine (h3 v hv).trans fun x hx => ?_
    obtain ⟨u, hu, rfl⟩ := List.mem_map.1 hx
    exact l.u_r u hu) (fun p hp => by
    obtain ⟨q, hq, rfl⟩ := vrows_mem hp
    rw [vrows_2]
    refine (l.r_u q hq).trans fun x hx => ?_
    obtain ⟨u, hu, rfl⟩ := List.mem_map.1 hx
    rcases h1 u hu with a | a
    · exact I.full u a
    · cases a)
  simpa [vrows] using this
/-- the law's test of the goal -/
theorem inside_iff {n : Nat} {vs : List (List Int)} (hl : ∀ v ∈ vs, v.length = n) {g : List Int} (hg : g.length = n) : ((lwith (vs.foldl lwith []) g).length = (vs.foldl lwith []).length) ↔ Qs (· ∈ vs.map fn) (fn g) := by
  obtain ⟨us', l, h1, _, h3⟩ := LW.fold vs .nil hl
  have hu : ∀ u ∈ us'.map fn, Qs (· ∈ vs.map fn) u := fun x hx => by
    obtain ⟨u, hu, rfl⟩ := List.mem_map.1 hx
    rcases h1 u hu with a | a
    · exact .mem (List.mem_map_of_mem a)
    · cases a
  rcases l.with hg with ⟨e, z⟩ | ⟨c, e, _, j, hj⟩
  · rw [e]
    exact ⟨fun _ => .of_W l.good hu (Qs.zero.ext z), fun _ => rfl⟩
  · rw [e]
    refine ⟨fun h => by simp at h, fun q => absurd ?_ hj⟩
    refine l.good.quniq (Qs.W (fun u hu => .mem hu) (q.trans fun x hx => ?_)) (fun c hc => W_zero hc) j
    obtain ⟨v, hv, rfl⟩ := List.mem_map.1 hx
    exact h3 v hv
end M

/-! M6: the combination. -/
namespace M

def dot : List Int → V → Int
  | [], _ => 0
  | x :: xs, w => x * w 0 + dot xs (fun j => w (j + 1))
theorem dot_lin (a b : Int) : ∀ (xs : List Int) (w w' : V), dot xs (fun j => a * w j + b * w' j) = a * dot xs w + b * dot xs w'
  | [], _, _ => by simp [dot]
  | x :: xs, w, w' => by
    simp only [dot]
    rw [dot_lin a b xs (fun j => w (j + 1)) (fun j => w' (j + 1))]
    grind
theorem dot_ext : ∀ (xs : List Int) {w w' : V}, (∀ j < xs.length, w j = w' j) → dot xs w = dot xs w'
  | [], _, _, _ => rfl
  | x :: xs, w, w', h => by
    simp only [dot]
    rw [h 0 (by simp), dot_ext xs fun j hj => h (j + 1) (by simpa using hj)]
theorem dot_zero : ∀ (xs : List Int), dot xs (fun _ => 0) = 0
  | [] => rfl
  | x :: xs => by simp only [dot]; rw [dot_zero xs]; omega
theorem dot_one : ∀ (xs : List Int) (w : V) (p : Nat), (∀ i, i ≠ p → fn xs i * w i = 0) → dot xs w = fn xs p * w p
  | [], w, p, _ => by simp [dot, fn]
  | x :: xs, w, 0, h => by
    have e : dot xs (fun j => w (j + 1)) = 0 := by
      have := dot_one xs (fun j => w (j + 1)) 0 (fun i _ => by simpa [fn] using h (i + 1) (by omega))
      rw [this]; simpa [fn] using h 1 (by decide)
    simp only [dot]; rw [e]; simp [fn]
  | x :: xs, w, p + 1, h => by
    have e := dot_one xs (fun j => w (j + 1)) p (fun i hi => by simpa [fn] using h (i + 1) (by omega))
    have e0 := h 0 (by omega)
    simp only [fn, List.getD_cons_zero] at e0
    simp only [dot]; rw [e, e0]; simp [fn]
theorem dot_mul (m : Int) : ∀ (xs : List Int) (w : V), m * dot xs w = dot (xs.map (m * ·)) w
  | [], _ => by simp [dot]
  | x :: xs, w => by
    simp only [dot, List.map_cons]
    rw [Int.mul_add, dot_mul m xs]; grind

/-- sums of multiples, as a product -/
theorem Sp.dot : ∀ {us : List V} {g : V}, Sp us g → ∃ xs : List Int, xs.length = us.length ∧ ∀ j, g j = M.dot xs (fun i => (us.getD i fun _ => 0) j)
  | [], g, s => ⟨[], rfl, fun j => s j⟩
  | u :: us, g, ⟨a, w', s, e⟩ => by
    obtain ⟨xs, hl, k⟩ := Sp.dot s
    exact ⟨a :: xs, by simp [hl], fun j => by rw [e j, k j]; simp [M.dot]⟩
theorem Sp.of_dot : ∀ {us : List V} {g : V} (xs : List Int), xs.length = us.length → (∀ j, g j = M.dot xs (fun i => (us.getD i fun _ => 0) j)) → Sp us g
  | [], g, [], _, e => fun j => e j
  | u :: us, g, a :: xs, hl, e => ⟨a, fun j => M.dot xs (fun i => (us.getD i fun _ => 0) j), Sp.of_dot xs (by simpa using hl) (fun _ => rfl), fun j => by rw [e j]; simp [M.dot]⟩
  | [], _, _ :: _, hl, _ => by simp at hl
  | _ :: _, _, [], hl, _ => by simp at hl

/-- linear in w -/
theorem Qs.lin0 {S : V → Prop} (F : V → Int) (hF : ∀ (a b : Int) (w w' : V), F (fun j => a * w j + b * w' j) = a * F w + b * F w') (hS : ∀ x, S x → F x = 0) {w : V} (s : Qs S w) : F w = 0 := by
  have h0 : F (fun _ => 0) = 0 := by
    have := hF 0 0 (fun _ => 0) (fun _ => 0)
    simpa using this
  induction s with
  | mem hx => exact hS _ hx
  | zero => exact h0
  | lin a b _ _ i1 i2 => rw [hF, i1, i2]; omega
  | @div w m hm _ i =>
    have := hF m 0 w (fun _ => 0)
    simp only [Int.zero_mul, Int.add_zero] at this
    rw [i] at this
    exact (Int.mul_eq_zero.1 this.symm).resolve_left hm

/-- the system's rows -/
def sys (vs : List (List Int)) (g : List Int) : List (List Int) := (List.range g.length).map fun j => vs.map (fun v => fn v j) ++ [fn g j]
def lcmF (m x : Int) : Int := ((Nat.lcm m.natAbs x.natAbs : Nat) : Int)
def lcmL (l : List Int) : Int := l.foldl lcmF 1
def facs (rd : Red) (N : Nat) (d : Int) : List Int := rd.foldl (fun f q => f.set q.1 (fn q.2 N * d.fdiv (fn q.2 q.1))) (List.replicate N 0)
def dvr (rd : Red) : Int := lcmL (rd.map fun q => fn q.2 q.1)
def low (rd : Red) (N : Nat) : List Int := prim (facs rd N (dvr rd) ++ [dvr rd])

theorem lcmL_facts : ∀ (l : List Int) (m : Int), 0 < m → (∀ x ∈ l, x ≠ 0) → 0 < l.foldl lcmF m ∧ m ∣ l.foldl lcmF m ∧ (∀ x ∈ l, x ∣ l.foldl lcmF m) ∧ ∀ D : Int, m ∣ D → (∀ x ∈ l, x ∣ D) → l.foldl lcmF m ∣ D
  | [], m, hm, _ => ⟨hm, ⟨1, by simp⟩, fun x hx => (by cases hx), fun D h _ => h⟩
  | x :: l, m, hm, hx => by
    have hx0 := hx x List.mem_cons_self
    have p : 0 < lcmF m x := by
      have := Nat.lcm_pos (Int.natAbs_pos.2 (show m ≠ 0 by omega)) (Int.natAbs_pos.2 hx0)
      unfold lcmF; omega
    obtain ⟨h1, h2, h3, h4⟩ := lcmL_facts l (lcmF m x) p (fun y hy => hx y (List.mem_cons_of_mem _ hy))
    have d1 : m ∣ lcmF m x := Int.natAbs_dvd_natAbs.1 (by unfold lcmF; rw [Int.natAbs_natCast]; exact Nat.dvd_lcm_left _ _)
    have d2 : x ∣ lcmF m x := Int.natAbs_dvd_natAbs.1 (by unfold lcmF; rw [Int.natAbs_natCast]; exact Nat.dvd_lcm_right _ _)
    refine ⟨h1, Int.dvd_trans d1 h2, fun y hy => ?_, fun D hm' hD => ?_⟩
    · rcases List.mem_cons.1 hy with rfl | hy
      · exact Int.dvd_trans d2 h2
      · exact h3 y hy
    · refine h4 D (Int.natAbs_dvd_natAbs.1 ?_) fun y hy => hD y (List.mem_cons_of_mem _ hy)
      unfold lcmF
      rw [Int.natAbs_natCast]
      exact Nat.lcm_dvd (Int.natAbs_dvd_natAbs.2 hm') (Int.natAbs_dvd_natAbs.2 (hD x List.mem_cons_self))

theorem fn_set (f : List Int) (p : Nat) (x : Int) (i : Nat) : fn (f.set p x) i = if i = p ∧ p < f.length then x else fn f i := by
  simp only [fn, List.getD_eq_getElem?_getD, List.getElem?_set]
  by_cases e : p = i
  · subst e
    by_cases h : p < f.length
    · simp [h]
    · simp [h]
  · simp [e, show ¬ i = p from fun h => e h.symm]
theorem setf_len {val : Nat × List Int → Int} : ∀ (rd : Red) (f : List Int), (rd.foldl (fun f q => f.set q.1 (val q)) f).length = f.length
  | [], f => rfl
  | q :: rd, f => by rw [List.foldl_cons, setf_len rd]; simp
theorem setf_none {val : Nat × List Int → Int} : ∀ (rd : Red) (f : List Int) (i : Nat), (∀ q ∈ rd, q.1 ≠ i) → fn (rd.foldl (fun f q => f.set q.1 (val q)) f) i = fn f i
  | [], f, i, _ => rfl
  | q :: rd, f, i, h => by
    rw [List.foldl_cons, setf_none rd _ i (fun q hq => h q (List.mem_cons_of_mem _ hq)), fn_set, if_neg]
    exact fun e => h q List.mem_cons_self e.1.symm
theorem setf_some {val : Nat × List Int → Int} : ∀ (rd : Red) (f : List Int) (q : Nat × List Int), (rd.map (·.1)).Nodup → q ∈ rd → q.1 < f.length → fn (rd.foldl (fun f q => f.set q.1 (val q)) f) q.1 = val q
  | [], f, q, _, hq, _ => by cases hq
  | q0 :: rd, f, q, nd, hq, hl => by
    rw [List.foldl_cons]
    have nd' := List.nodup_cons.1 nd
    rcases List.mem_cons.1 hq with rfl | hq
    · rw [setf_none rd _ _ (fun q' hq' e => nd'.1 (by show q.1 ∈ _; rw [← e]; exact List.mem_map_of_mem hq')), fn_set, if_pos ⟨rfl, hl⟩]
    · exact setf_some rd _ q nd'.2 hq (by simpa using hl)

theorem fn_app_lt {l : List Int} {x : Int} {i : Nat} (h : i < l.length) : fn (l ++ [x]) i = fn l i := by
  rw [fn_lt (by simp; omega), fn_lt h]; simp [List.getElem_append_left h]
theorem fn_app_eq {l : List Int} {x : Int} : fn (l ++ [x]) l.length = x := by
  rw [fn_lt (by simp)]; simp

theorem sys_len {vs g} : ∀ r ∈ sys vs g, r.length = vs.length + 1 := fun r hr => by
  obtain ⟨j, _, rfl⟩ := List.mem_map.1 hr
  simp
theorem sys_at (vs : List (List Int)) (g : List Int) {j i : Nat} (hi : i < vs.length) : fn (vs.map (fun v => fn v j) ++ [fn g j]) i = (vs.map fn).getD i (fun _ => 0) j := by
  rw [fn_app_lt (by simpa using hi), fn_lt (by simpa using hi)]
  simp [List.getD_eq_getElem?_getD, hi]
theorem sys_end (vs : List (List Int)) (g : List Int) (j : Nat) : fn (vs.map (fun v => fn v j) ++ [fn g j]) vs.length = fn g j := by
  have := fn_app_eq (l := vs.map (fun v => fn v j)) (x := fn g j)
  simpa using this

section
variable {n : Nat} {vs : List (List Int)} {g : List Int}

/-- the goal lies outside if a pivot stands at the goal's place -/
theorem comb_none (hl : ∀ v ∈ vs, v.length = n) (hg : g.length = n) (h : ∃ q ∈ (red (sys vs g) (vs.length + 1)).1, q.1 = vs.length) : ¬ Qs (· ∈ vs.map fn) (fn g) := by
  intro hin
  obtain ⟨us, I⟩ := Inv.all (sys_len (vs := vs) (g := g)) (vs.length + 1)
  obtain ⟨q, hq, e⟩ := h
  obtain ⟨m, hm, s⟩ := hin.norm
  obtain ⟨xs, hxl, k⟩ := s.dot
  have hxl : xs.length = vs.length := by simpa using hxl
  have z := Qs.lin0 (fun w => dot xs w - m * w vs.length) (fun a b w w' => by
    dsimp only
    rw [dot_lin]; grind) (fun x hx => by
    obtain ⟨r, hr, rfl⟩ := List.mem_map.1 hx
    obtain ⟨j, hj, rfl⟩ := List.mem_map.1 hr
    have kj := k j
    try dsimp only
    rw [sys_end, kj, dot_ext xs (w' := fun i => (vs.map fn).getD i (fun _ => 0) j) fun i hi => sys_at vs g (by omega)]
    omega) (I.sub q hq)
  have ld := I.ld q hq
  rw [e] at ld
  try dsimp only at z
  rw [dot_ext xs (w' := fun _ => 0) (fun i hi => ld.1 i (by omega)), dot_zero] at z
  exact ld.2 ((Int.mul_eq_zero.1 (show m * fn q.2 vs.length = 0 by omega)).resolve_left hm)

/-- what is returned otherwise -/
theorem comb_some (hl : ∀ v ∈ vs, v.length = n) (hg : g.length = n) (h : ∀ q ∈ (red (sys vs g) (vs.length + 1)).1, q.1 ≠ vs.length) :
    ∃ fs e, low (red (sys vs g) (vs.length + 1)).1 vs.length = fs ++ [e] ∧ fs.length = vs.length ∧ 0 < e ∧ Prm (fs ++ [e]) ∧
    (∀ j, dot fs (fun i => (vs.map fn).getD i (fun _ => 0) j) = e * fn g j) ∧ Qs (· ∈ vs.map fn) (fn g) := by
  obtain ⟨us, I⟩ := Inv.all (sys_len (vs := vs) (g := g)) (vs.length + 1)
  generalize hrd : red (sys vs g) (vs.length + 1) = s at *
  generalize hN : vs.length = N at *
  have piv : ∀ q ∈ s.1, q.1 < N := fun q hq => by have := I.qc q hq; have := h q hq; omega
  have nd := Good.nd I.good
  obtain ⟨d0, _, d2, _⟩ := lcmL_facts (s.1.map fun q => fn q.2 q.1) 1 (by decide) (fun x hx => by
    obtain ⟨q, hq, rfl⟩ := List.mem_map.1 hx
    exact (I.ld q hq).2)
  have d2' : ∀ q ∈ s.1, fn q.2 q.1 ∣ dvr s.1 := fun q hq => d2 _ (List.mem_map.2 ⟨q, hq, rfl⟩)
  have d0' : 0 < dvr s.1 := d0
  have fl : (facs s.1 N (dvr s.1)).length = N := by unfold facs; rw [setf_len]; simp
  have fq : ∀ q ∈ s.1, fn (facs s.1 N (dvr s.1)) q.1 = fn q.2 N * (dvr s.1).fdiv (fn q.2 q.1) := fun q hq =>
    setf_some (val := fun q => fn q.2 N * (dvr s.1).fdiv (fn q.2 q.1)) s.1 _ q nd hq (by simpa using piv q hq)
  have f0 : ∀ i, (∀ q ∈ s.1, q.1 ≠ i) → fn (facs s.1 N (dvr s.1)) i = 0 := fun i hi => by
    have := setf_none (val := fun q => fn q.2 N * (dvr s.1).fdiv (fn q.2 q.1)) s.1 (List.replicate N 0) i hi
    refine this.trans ?_
    rcases Nat.lt_or_ge i N with x | x
    · rw [fn_lt (by simpa using x)]; simp
    · exact fn_ge (by simpa using x)
  have rows : ∀ q ∈ s.1, dot (facs s.1 N (dvr s.1)) (fn q.2) = dvr s.1 * fn q.2 N := fun q hq => by
    rw [dot_one _ _ q.1 fun i hi => ?_]
    · rw [fq q hq]
      obtain ⟨t, ht⟩ := d2' q hq
      rw [ht, Int.mul_fdiv_cancel_left _ (I.ld q hq).2]; grind
    · by_cases hp : ∀ q' ∈ s.1, q'.1 ≠ i
      · rw [f0 i hp]; omega
      · obtain ⟨q', hq'⟩ := Classical.not_forall.1 hp
        obtain ⟨hq', e⟩ := Classical.not_imp.1 hq'
        have e : q'.1 = i := Classical.not_not.1 e
        have z := I.qz q hq q' hq' (by rw [e]; exact hi)
        rw [← e, z]; omega
  have sysz : ∀ r ∈ sys vs g, dot (facs s.1 N (dvr s.1)) (fn r) - dvr s.1 * fn r N = 0 := fun r hr => by
    refine Qs.lin0 (fun w => dot (facs s.1 N (dvr s.1)) w - dvr s.1 * w N) (fun a b w w' => by
      dsimp only
      rw [dot_lin]; grind) (fun x hx => ?_) (I.full r hr)
    obtain ⟨q, hq, rfl⟩ := List.mem_map.1 hx
    try dsimp only
    rw [rows q hq]; omega
  have goalz : ∀ j, dot (facs s.1 N (dvr s.1)) (fun i => (vs.map fn).getD i (fun _ => 0) j) = dvr s.1 * fn g j := fun j => by
    rcases Nat.lt_or_ge j n with x | x
    · have := sysz (vs.map (fun v => fn v j) ++ [fn g j]) (List.mem_map.2 ⟨j, List.mem_range.2 (by omega), rfl⟩)
      have e1 := sys_end vs g j
      rw [hN] at e1
      rw [e1, dot_ext _ (w' := fun i => (vs.map fn).getD i (fun _ => 0) j) fun i hi => sys_at vs g (by omega)] at this
      omega
    · rw [fn_ge (by omega : g.length ≤ j), dot_ext _ (w' := fun _ => 0) fun i hi => ?_, dot_zero]
      · omega
      · try dsimp only
        have hi' : i < vs.length := by omega
        simp only [List.getD_eq_getElem?_getD, List.getElem?_map, List.getElem?_eq_getElem hi', Option.map_some, Option.getD_some]
        exact fn_ge (by rw [hl _ (List.getElem_mem hi')]; exact x)
  have dp := den_pos (facs s.1 N (dvr s.1) ++ [dvr s.1])
  have dm := @den_mul (facs s.1 N (dvr s.1) ++ [dvr s.1])
  have prm := prim_prm (facs s.1 N (dvr s.1) ++ [dvr s.1])
  have el : low s.1 N = (facs s.1 N (dvr s.1)).map (fun x => x.fdiv (den (facs s.1 N (dvr s.1) ++ [dvr s.1]))) ++ [(dvr s.1).fdiv (den (facs s.1 N (dvr s.1) ++ [dvr s.1]))] := by
    simp [low, prim, den]
  have el' : prim (facs s.1 N (dvr s.1) ++ [dvr s.1]) = _ := el
  rw [el'] at prm
  generalize den (facs s.1 N (dvr s.1) ++ [dvr s.1]) = D at *
  have pe := dm (x := dvr s.1) (by simp)
  have ep : 0 < (dvr s.1).fdiv D := by
    rw [Int.fdiv_eq_ediv_of_nonneg _ (by omega)] at pe ⊢
    rcases Int.lt_trichotomy ((dvr s.1) / D) 0 with x | x | x
    · have := Int.mul_neg_of_pos_of_neg dp x; omega
    · rw [x] at pe; omega
    · exact x
  have dotz : ∀ j, dot ((facs s.1 N (dvr s.1)).map (fun x => x.fdiv D)) (fun i => (vs.map fn).getD i (fun _ => 0) j) = (dvr s.1).fdiv D * fn g j := fun j => by
    have em : ((facs s.1 N (dvr s.1)).map (fun x => x.fdiv D)).map (D * ·) = facs s.1 N (dvr s.1) := by
      rw [List.map_map]
      conv => rhs; rw [← List.map_id (facs s.1 N (dvr s.1))]
      exact List.map_congr_left fun x hx => dm (by simp [hx])
    have e1 := dot_mul D ((facs s.1 N (dvr s.1)).map (fun x => x.fdiv D)) (fun i => (vs.map fn).getD i (fun _ => 0) j)
    rw [em, goalz j, ← pe] at e1
    rw [Int.mul_assoc] at e1
    rw [pe] at e1
    exact Int.eq_of_mul_eq_mul_left (by omega) e1
  refine ⟨_, _, el, by simp [fl], ep, prm, dotz, ?_⟩
  refine .div ((dvr s.1).fdiv D) (by omega) (.of_sp (us := vs.map fn) (fun u hu => .mem hu) (Sp.of_dot ((facs s.1 N (dvr s.1)).map (fun x => x.fdiv D)) (by simp [fl, hN]) fun j => (dotz j).symm))
end
end M

/-! M7: sizes. -/
namespace M
abbrev Sm (x : Int) : Prop := x.natAbs < 2 ^ 4000
def Small (vs : List (List Int)) (n width : Nat) : Prop := (∀ v ∈ vs, v.length = n) ∧ width ≤ n ∧ ∀ i ≤ width, (∀ r ∈ (red vs i).2, ∀ x ∈ r, Sm x) ∧ (∀ q ∈ (red vs i).1, ∀ x ∈ q.2, Sm x)
theorem bnd_lt {r : List Int} (h : ∀ j, (fn r j).natAbs < 2 ^ 4000) : ∀ x ∈ r, Sm x := fun x hx => by
  obtain ⟨j, _, rfl⟩ := mem_fn hx
  exact h j
theorem Small.of {vs : List (List Int)} {n width B : Nat} (hl : ∀ v ∈ vs, v.length = n) (hw : width ≤ n) (h0 : 0 < B) (hb : ∀ v ∈ vs, ∀ x ∈ v, x.natAbs ≤ B) (hm : mb B (width + 1) < 2 ^ 4000) : Small vs n width := by
  refine ⟨hl, hw, fun i hi => ?_⟩
  obtain ⟨us, I⟩ := Inv.all hl i
  have hf := I.few
  have m1 : mb B ((red vs i).1.length + 1) < 2 ^ 4000 := Nat.lt_of_le_of_lt (mb_mono h0 (by omega)) hm
  have m2 : mb B (red vs i).1.length < 2 ^ 4000 := Nat.lt_of_le_of_lt (mb_mono h0 (by omega)) hm
  exact ⟨fun r hr => bnd_lt (fun j => Nat.lt_of_le_of_lt (I.rbnd h0 hb r hr j) m1), fun q hq => bnd_lt (fun j => Nat.lt_of_le_of_lt ((I.qbnd hb).1 q hq j) m2)⟩
theorem Sm.fn {r : List Int} (h : ∀ x ∈ r, Sm x) (j : Nat) : Sm (fn r j) := by
  rcases Nat.lt_or_ge j r.length with x | x
  · exact h _ (fn_mem x)
  · rw [fn_ge x]; exact Nat.pow_pos (by decide)
theorem Small.len {vs : List (List Int)} {n width : Nat} (h : Small vs n width) {i : Nat} (hi : i ≤ width) : (∀ r ∈ (red vs i).2, r.length = n) ∧ (∀ q ∈ (red vs i).1, q.2.length = n) ∧ (red vs i).1.length ≤ i := by
  obtain ⟨us, I⟩ := Inv.all h.1 i
  exact ⟨I.rl, I.ql, I.few⟩
theorem red_succ (vs : List (List Int)) (k : Nat) : red vs (k + 1) = stp (red vs k) k := by unfold red; rw [List.range_succ, List.foldl_append]; rfl
theorem red_rest_len (vs : List (List Int)) (k : Nat) : (red vs k).2.length ≤ vs.length := by
  induction k with
  | zero => exact Nat.le_refl _
  | succ k ih =>
    rw [red_succ]
    rcases find_cases (red vs k).2 k with ⟨e, _⟩ | ⟨i, e, hi, _⟩
    · unfold stp; rw [e]; exact ih
    · unfold stp; rw [e]; dsimp only
      rw [List.length_map, List.length_eraseIdx]
      split <;> omega
theorem prim_sm {l : List Int} (h : ∀ x ∈ l, Sm x) : ∀ x ∈ prim l, Sm x := fun x hx => by
  obtain ⟨j, hj, rfl⟩ := mem_fn hx
  have e := prim_fn l j
  have : (fn (prim l) j).natAbs ≤ (fn l j).natAbs := by
    rw [← e, Int.natAbs_mul]
    exact Nat.le_mul_of_pos_left _ (by have := den_pos l; omega)
  exact Nat.lt_of_le_of_lt this (Sm.fn h j)
theorem gcd_sm {l : List Int} (h : ∀ x ∈ l, Sm x) : (gcdL l).natAbs < 2 ^ 4000 := by
  have := gcdL_le (l := l) (b := 2 ^ 4000 - 1) fun x hx => by have := h x hx; unfold Sm at this; omega
  have p : 0 < 2 ^ 4000 := Nat.pow_pos (by decide)
  omega
theorem comb_sm {own factor : Int} {r p : List Int} (ho : Sm own) (hf : Sm factor) (hr : ∀ x ∈ r, Sm x) (hp : ∀ x ∈ p, Sm x) : (gcdL (comb own factor r p)).natAbs < 2 ^ 8001 := by
  have key : ∀ x ∈ comb own factor r p, x.natAbs ≤ 2 ^ 8001 - 1 := fun x hx => by
    obtain ⟨q, hq, rfl⟩ := List.mem_map.1 hx
    have h1 : Sm q.1 := hr _ (List.of_mem_zip hq).1
    have h2 : Sm q.2 := hp _ (List.of_mem_zip hq).2
    have m1 : (own * q.1).natAbs < 2 ^ 8000 := by
      rw [Int.natAbs_mul, show 8000 = 4000 + 4000 from rfl, Nat.pow_add]; exact Nat.mul_lt_mul'' ho h1
    have m2 : (factor * q.2).natAbs < 2 ^ 8000 := by
      rw [Int.natAbs_mul, show 8000 = 4000 + 4000 from rfl, Nat.pow_add]; exact Nat.mul_lt_mul'' hf h2
    have e : 2 ^ 8001 = 2 ^ 8000 * 2 := Nat.pow_succ ..
    generalize 2 ^ 8000 = N at *
    omega
  have := gcdL_le key
  have p : 0 < 2 ^ 8001 := Nat.pow_pos (by decide)
  generalize 2 ^ 8001 = N at *
  omega
theorem log_lt {x : Int} {k : Nat} (hk : 0 < k) (h : x.natAbs < 2 ^ k) : x.natAbs.log2 < k := by
  rcases Nat.eq_zero_or_pos x.natAbs with h0 | hp
  · rw [h0]; simpa using hk
  · exact (Nat.log2_lt (Nat.ne_of_gt hp)).mpr h
theorem Sm.log {x : Int} (h : Sm x) : x.natAbs.log2 < 4000 := log_lt (by decide) h
theorem find_none {l : List (List Int)} {c : Nat} : l.findIdx? (fun r => fn r c != 0) = (((List.range l.length).filter fun i => fn (l.getD i []) c != 0)[0]?) := by
  have key : ∀ (n : Nat) (l : List (List Int)), l.findIdx? (fun r => fn r c != 0) = (((List.range l.length).filter fun i => fn (l.getD i []) c != 0)[0]?) := by
    intro _ l
    rw [← List.head?_eq_getElem?]
    induction l with
    | nil => rfl
    | cons x l ih =>
      rw [List.findIdx?_cons, List.length_cons, List.range_succ_eq_map, List.filter_cons]
      by_cases h : (fn x c != 0) = true
      · simp [h]
      · have h' : ¬ (fn ((x :: l).getD 0 []) c != 0) = true := by simpa using h
        rw [if_neg h, if_neg h', ih, List.filter_map, List.head?_map]
        rfl
  exact key 0 l
end M

namespace K35
open PySem PySem.Spec PyProof.Rows L2 Z StX M
local macro_rules | `(tactic| walk_at "sd") => `(tactic| first | decide | omega | assumption | rfl | (simp; done) | (simp only [List.length_map, List.length_cons, List.length_nil]; omega))
local macro_rules | `(tactic| walk_at "ev") => `(tactic| first
  | exact ee_int | exact ee_strX (by decide +kernel) | exact ee_str | exact ee_bl | exact ee_non
  | exact ee_var rfl
  | (refine' ee_add ?e1 ?e2; (case e1 => walk_at "ev"); (case e2 => walk_at "ev"))
  | (refine' ee_sub ?e1 ?e2; (case e1 => walk_at "ev"); (case e2 => walk_at "ev"))
  | (refine' ee_mul ?e1 ?e2 ?e3; (case e1 => walk_at "ev"); (case e2 => walk_at "ev"); (case e3 => walk_at "cm"))
  | (refine' ee_div ?e1 ?e2 ?e3; (case e1 => walk_at "ev"); (case e2 => walk_at "ev"); (case e3 => exact ⟨by decide, by decide⟩))
  | (refine' ee_mod ?e1 ?e2 ?e3; (case e1 => walk_at "ev"); (case e2 => walk_at "ev"); (case e3 => walk_at "sd"))
  | (refine' ee_powR ?e1 ?e2 ?e3 ?e4; (case e1 => walk_at "ev"); (case e2 => walk_at "ev"); (case e3 => exact ⟨by decide, by decide, by decide⟩); (case e4 => rfl))
  | (refine' ee_intI ?e1; (case e1 => walk_at "ev"))
  | (refine' ee_intB ?e1; (case e1 => walk_at "ev"))
  | (refine' ee_lenL ?e1; (case e1 => walk_at "ev"))
  | (refine' ee_lenX ?e1 ?e2; (case e1 => walk_at "ev"); (case e2 => walk_at "sz"))
  | (refine' ee_lenS ?e1 ?e2; (case e1 => walk_at "ev"); (case e2 => walk_at "sz"))
  | (refine' ee_lenT ?e1; (case e1 => walk_at "ev"))
  | (refine' ee_lt ?e1 ?e2; (case e1 => walk_at "ev"); (case e2 => walk_at "ev")) | (refine' ee_le ?e1 ?e2; (case e1 => walk_at "ev"); (case e2 => walk_at "ev")) | (refine' ee_gt ?e1 ?e2; (case e1 => walk_at "ev"); (case e2 => walk_at "ev")) | (refine' ee_ge ?e1 ?e2; (case e1 => walk_at "ev"); (case e2 => walk_at "ev"))
  | (refine' ee_eqI ?e1 ?e2; (case e1 => walk_at "ev"); (case e2 => walk_at "ev")) | (refine' ee_eqS ?e1 ?e2; (case e1 => walk_at "ev"); (case e2 => walk_at "ev")) | (refine' ee_eqB ?e1 ?e2; (case e1 => walk_at "ev"); (case e2 => walk_at "ev"))
  | (refine' ee_neI ?e1 ?e2; (case e1 => walk_at "ev"); (case e2 => walk_at "ev")) | (refine' ee_neS ?e1 ?e2; (case e1 => walk_at "ev"); (case e2 => walk_at "ev"))
  | (refine' ee_neg ?e1; (case e1 => walk_at "ev"))
  | (refine' ee_max2 ?e1 ?e2; (case e1 => walk_at "ev"); (case e2 => walk_at "ev")) | (refine' ee_min2 ?e1 ?e2; (case e1 => walk_at "ev"); (case e2 => walk_at "ev"))
  | (refine' ee_eqX ?e1 ?e2; (case e1 => walk_at "ev"); (case e2 => walk_at "ev")) | (refine' ee_neX ?e1 ?e2; (case e1 => walk_at "ev"); (case e2 => walk_at "ev"))
  | (refine' ee_inX ?e1 ?e2; (case e1 => walk_at "ev"); (case e2 => walk_at "ev")) | (refine' ee_ninX ?e1 ?e2; (case e1 => walk_at "ev"); (case e2 => walk_at "ev"))
  | (refine' ee_startsX ?e1 ?e2; (case e1 => walk_at "ev"); (case e2 => walk_at "ev"))
  | (refine' ee_catX ?e1 ?e2 ?e3; (case e1 => walk_at "ev"); (case e2 => walk_at "ev"); (case e3 => walk_at "sz"))
  | (refine' ee_slX ?e1 ?e2 ?e3 ?e4; (case e1 => walk_at "ev"); (case e2 => walk_at "evo"); (case e3 => walk_at "evo"); (case e4 => walk_at "sz"))
  | (refine' ee_inS ?e1 ?e2; (case e1 => walk_at "ev"); (case e2 => walk_at "ev")) | (refine' ee_ninS ?e1 ?e2; (case e1 => walk_at "ev"); (case e2 => walk_at "ev"))
  | (refine' ee_startswith ?e1 ?e2; (case e1 => walk_at "ev"); (case e2 => walk_at "ev"))
  | (refine' ee_notV ?e1; (case e1 => walk_at "ev"))
  | (refine' ee_catS ?e1 ?e2 ?e3; (case e1 => walk_at "ev"); (case e2 => walk_at "ev"); (case e3 => walk_at "sz"))
  | (refine' (en_lst ?e1 ?e2).ee; (case e1 => walk_at "eva"); (case e2 => walk_at "sd"))
  | (refine' ee_tup ?e1 ?e2; (case e1 => walk_at "eva"); (case e2 => walk_at "sd"))
  | (refine' (en_slL ?e1 ?e2 ?e3).ee; (case e1 => walk_at "ev"); (case e2 => walk_at "evo"); (case e3 => walk_at "evo"))
  | (refine' ee_slS ?e1 ?e2 ?e3 ?e4; (case e1 => walk_at "ev"); (case e2 => walk_at "evo"); (case e3 => walk_at "evo"); (case e4 => walk_at "sz"))
  | (refine' (en_listL ?e1).ee; (case e1 => walk_at "ev"))
  | (refine' (en_listT ?e1).ee; (case e1 => walk_at "ev"))
  | (refine' ee_tupL ?e1; (case e1 => walk_at "ev"))
  | (refine' ee_tupT ?e1; (case e1 => walk_at "ev")))
local macro_rules | `(tactic| walk_at "eva") => `(tactic| first | exact ea_nil | (refine' ea_cons ?e1 ?e2; (case e1 => walk_at "ev"); (case e2 => walk_at "eva")))
local macro_rules | `(tactic| walk_at "evo") => `(tactic| first | exact eo_none | (refine' eo_some ?e1; (case e1 => walk_at "ev")))
local macro_rules | `(tactic| walk_at "evt") => `(tactic| first
  | (refine' et_test ?e1; (case e1 => walk_at "ev")) | (refine' et_B ?e1; (case e1 => walk_at "ev")) | (refine' et_not ?e1; (case e1 => walk_at "evt"))
  | (refine' et_and ?e1 ?e2; (case e1 => walk_at "evt"); (case e2 => (intro _; walk_at "evt")))
  | (refine' et_or ?e1 ?e2; (case e1 => walk_at "evt"); (case e2 => (intro _; walk_at "evt"))))
local macro_rules | `(tactic| walk_at "sub") => `(tactic| first | exact Sub.refl _ | (refine sub_cons ?_; walk_at "sub") | (refine sub_no ?_; walk_at "sub"))
local macro_rules | `(tactic| walk_at "cm") => `(tactic| first | exact Or.inr ⟨by omega, by omega⟩ | exact Or.inl ⟨by omega, by omega⟩)
local macro_rules | `(tactic| walk_at "evi") => `(tactic| (refine' EvE.is ?h ?e; (case h => walk_at "ev"); (case e => first | rfl | (congr 1; done) | skip)))
local macro_rules | `(tactic| walk_at "sz") => `(tactic| first | assumption | omega | (simp; omega) | (simp only [List.length_append, List.length_map, List.length_cons, List.length_nil]; omega))

def top (i : Nat) : Stmt := PySem.Challenge.pw_playhall_k35_balance_of_a_matrix.main.body.getD i (.Pass ⟨0, 0, 0, 0⟩)
abbrev s_balance : Stmt := top 2
abbrev N_balance : List Str := ["matrix", "reduced", "pivots", "free", "scale", "vector", "pivot", "row", "_", "column", "number"]
theorem sc_balance : FnScope N_balance ["matrix"] (defScope s_balance) := ⟨rfl, rfl, rfl, by decide +kernel, rfl, by decide +kernel, by decide +kernel⟩
abbrev s__reduced : Stmt := top 3
abbrev N__reduced : List Str := ["vectors", "width", "reduced", "rest", "column", "chosen", "pivot_row", "vector", "index", "row", "pivot"]
theorem sc__reduced : FnScope N__reduced ["vectors", "width"] (defScope s__reduced) := ⟨rfl, rfl, rfl, by decide +kernel, rfl, by decide +kernel, by decide +kernel⟩
abbrev s_cleared : Stmt := top 4
abbrev N_cleared : List Str := ["row", "pivot_row", "column", "own", "factor", "number", "other"]
theorem sc_cleared : FnScope N_cleared ["row", "pivot_row", "column"] (defScope s_cleared) := ⟨rfl, rfl, rfl, by decide +kernel, rfl, by decide +kernel, by decide +kernel⟩
abbrev s_primitive : Stmt := top 5
abbrev N_primitive : List Str := ["vector", "divisor", "number"]
theorem sc_primitive : FnScope N_primitive ["vector"] (defScope s_primitive) := ⟨rfl, rfl, rfl, by decide +kernel, rfl, by decide +kernel, by decide +kernel⟩
abbrev s__common_multiple : Stmt := top 6
abbrev N__common_multiple : List Str := ["numbers", "multiple", "number"]
theorem sc__common_multiple : FnScope N__common_multiple ["numbers"] (defScope s__common_multiple) := ⟨rfl, rfl, rfl, by decide +kernel, rfl, by decide +kernel, by decide +kernel⟩
abbrev s__law_cell : Stmt := top 8
abbrev N__law_cell : List Str := ["script", "k"]
theorem sc__law_cell : FnScope N__law_cell ["script", "k"] (defScope s__law_cell) := ⟨rfl, rfl, rfl, by decide +kernel, rfl, by decide +kernel, by decide +kernel⟩
abbrev s__law_row : Stmt := top 9
abbrev N__law_row : List Str := ["cell", "many", "row", "seed", "rest", "k", "mixed"]
theorem sc__law_row : FnScope N__law_row ["cell", "many"] (defScope s__law_row) := ⟨rfl, rfl, rfl, by decide +kernel, rfl, by decide +kernel, by decide +kernel⟩
abbrev s__law_seed : Stmt := top 10
abbrev N__law_seed : List Str := ["script", "k"]
theorem sc__law_seed : FnScope N__law_seed ["script", "k"] (defScope s__law_seed) := ⟨rfl, rfl, rfl, by decide +kernel, rfl, by decide +kernel, by decide +kernel⟩
abbrev s__law_reduced : Stmt := top 11
abbrev N__law_reduced : List Str := ["rows", "vector", "before", "lead", "row", "factor", "k"]
theorem sc__law_reduced : FnScope N__law_reduced ["rows", "vector"] (defScope s__law_reduced) := ⟨rfl, rfl, rfl, by decide +kernel, rfl, by decide +kernel, by decide +kernel⟩
abbrev s__law_with : Stmt := top 12
abbrev N__law_with : List Str := ["rows", "vector", "left", "k"]
theorem sc__law_with : FnScope N__law_with ["rows", "vector"] (defScope s__law_with) := ⟨rfl, rfl, rfl, by decide +kernel, rfl, by decide +kernel, by decide +kernel⟩
abbrev s__law_is_integer : Stmt := top 13
abbrev N__law_is_integer : List Str := ["actual"]
theorem sc__law_is_integer : FnScope N__law_is_integer ["actual"] (defScope s__law_is_integer) := ⟨rfl, rfl, rfl, by decide +kernel, rfl, by decide +kernel, by decide +kernel⟩
abbrev s__law_gcd : Stmt := top 14
abbrev N__law_gcd : List Str := ["one", "other", "k"]
theorem sc__law_gcd : FnScope N__law_gcd ["one", "other"] (defScope s__law_gcd) := ⟨rfl, rfl, rfl, by decide +kernel, rfl, by decide +kernel, by decide +kernel⟩
abbrev s__law_number : Stmt := top 15
abbrev N__law_number : List Str := ["kind", "numbers"]
theorem sc__law_number : FnScope N__law_number ["kind", "numbers"] (defScope s__law_number) := ⟨rfl, rfl, rfl, by decide +kernel, rfl, by decide +kernel, by decide +kernel⟩
abbrev s__law_times : Stmt := top 16
abbrev N__law_times : List Str := ["row", "primes"]
theorem sc__law_times : FnScope N__law_times ["row"] (defScope s__law_times) := ⟨rfl, rfl, rfl, by decide +kernel, rfl, by decide +kernel, by decide +kernel⟩
abbrev s__law_base : Stmt := top 17
abbrev N__law_base : List Str := ["row", "length", "kind", "j"]
theorem sc__law_base : FnScope N__law_base ["row", "length"] (defScope s__law_base) := ⟨rfl, rfl, rfl, by decide +kernel, rfl, by decide +kernel, by decide +kernel⟩
abbrev s__law_units : Stmt := top 18
abbrev N__law_units : List Str := ["length", "units", "place", "j"]
theorem sc__law_units : FnScope N__law_units ["length"] (defScope s__law_units) := ⟨rfl, rfl, rfl, by decide +kernel, rfl, by decide +kernel, by decide +kernel⟩
abbrev s__law_matrix : Stmt := top 19
abbrev N__law_matrix : List Str := ["script", "length", "place", "bases", "table", "rows", "k", "drawn", "candidate", "factors", "other", "factor", "j", "number"]
theorem sc__law_matrix : FnScope N__law_matrix ["script", "length", "place"] (defScope s__law_matrix) := ⟨rfl, rfl, rfl, by decide +kernel, rfl, by decide +kernel, by decide +kernel⟩
abbrev s__law_right : Stmt := top 20
abbrev N__law_right : List Str := ["answer", "table", "common", "first", "number", "row", "j"]
theorem sc__law_right : FnScope N__law_right ["answer", "table"] (defScope s__law_right) := ⟨rfl, rfl, rfl, by decide +kernel, rfl, by decide +kernel, by decide +kernel⟩
abbrev s_law : Stmt := top 21
abbrev N_law : List Str := ["script", "shape", "length", "table", "passed", "answer", "kept", "again", "row"]
theorem sc_law : FnScope N_law ["script"] (defScope s_law) := ⟨rfl, rfl, rfl, by decide +kernel, rfl, by decide +kernel, by decide +kernel⟩
/-- what the top leaves of the built-ins' names -/
structure Txt (mg : Str → Option Value) : Prop where
  n_len : mg "len" = none
  n_int : mg "int" = none
  n_range : mg "range" = none
  n_max : mg "max" = none
  n_any : mg "any" = none
  n_abs : mg "abs" = none
  n_sum : mg "sum" = none
  n_list : mg "list" = none
  n_tuple : mg "tuple" = none
  n_enumerate : mg "enumerate" = none
  n_zip : mg "zip" = none
  n_isinstance : mg "isinstance" = none
  n_bool : mg "bool" = none
  m_gcd : mg "gcd" = some (.builtin "math.gcd")
  m_lcm : mg "lcm" = some (.builtin "math.lcm")
theorem atI_map {α β : Type} {f : α → β} {xs : List α} {k : Nat} {x : α} (h : xs[k]? = some x) : atI (xs.map f) (k : Int) = some (f x) := atI_nat (by simp [h])
/-! _law_cell -/
def R_cell : List D → D → Prop := fun ds r => ∃ (ns : List Int) (k : Nat), ds = [.lst (ns.map .int), .int (k : Int)] ∧ r = .int (ns.getD k 0)
section
variable {P : Program} {w : World} {K : PySem.W.Frag} {mg : Str → Option Value} {base : Heap} {f : Addr} {fd : FuncData}
theorem ok__law_cell (F : Fun K "_law_cell" "_law_cell" s__law_cell f fd) (T : Txt mg) : FnOk P w K mg base CX0 1 f fd ["script", "k"] (spR K R_cell) := by
  refine ok_def F sc__law_cell (fun ds r h => by obtain ⟨ns, k, rfl, _⟩ := h; rfl) (fun cdv A outer s H E hr => ⟨_, (pss_one (ps_ret (pe_ifExp (pt_cmpR op_lt (pv 1) (pe_callB (k_call_len K) (by rfl) T.n_len (by decide +kernel) (pa_cons (pv 0) pa_nil)) (nomark _)) (pe_callTy call_int1 (by rfl) T.n_int (by decide +kernel) (pa_cons (pe_ix (k_ix_list K) (pv 0) (pv 1) (fun _ _ => rfl)) pa_nil)) pe_int))), fun ds r h H0 H1 E' hrt => ?_⟩)
  obtain ⟨ns, k, rfl, rfl⟩ := h
  refine go_ret (ee_ifE (b := decide ((k : Int) < ((ns.map D.int).length : Int))) ?_ ?_ ?_) hrt
  · walk_at "evt"
  · intro h
    have h : k < ns.length := by simpa using h
    have e := List.getElem?_eq_getElem h
    refine ee_intI (ee_ixL (ee_var rfl) (ee_var rfl) (atI_map ?_))
    simp [List.getD_eq_getElem?_getD, e]
  · intro h
    have h : ns.length ≤ k := by simpa using h
    refine EvE.is ee_int ?_
    simp [List.getD_eq_getElem?_getD, h]
/-! _law_row -/
def rowSt (c : Int) : Nat → List Int × Int × Int
  | 0 => ([], c % 2147483629, c - 10 ^ 18)
  | k + 1 =>
    let p := rowSt c k
    let seed := (p.2.1 * 48271 + 977 * (k : Int) + 12345) % 2147483647
    let mixed := (seed * 69621 + 31 * (k : Int) + 7) % 2147483629
    (p.1 ++ [if decide ((10 : Int) ^ 18 ≤ c) = true then p.2.2 % 1000 else (mixed / 4099) % 1000], seed, p.2.2 / 1000)
def lawRow (c : Int) (m : Nat) : List Int := (rowSt c m).1
theorem row_len (c : Int) : ∀ m, (lawRow c m).length = m
  | 0 => rfl
  | m + 1 => by
    show ((rowSt c m).1 ++ [_]).length = m + 1
    rw [List.length_append]
    have := row_len c m
    unfold lawRow at this
    rw [this]; rfl
theorem row_mem (c : Int) : ∀ m, ∀ x ∈ lawRow c m, 0 ≤ x ∧ x < 1000
  | 0, x, h => by cases h
  | m + 1, x, h => by
    have h : x ∈ (rowSt c m).1 ++ [_] := h
    rcases List.mem_append.mp h with h | h
    · exact row_mem c m x h
    · rw [List.mem_singleton] at h
      subst h
      split <;> omega
theorem seed_lt (c : Int) : ∀ k, 0 ≤ (rowSt c k).2.1 ∧ (rowSt c k).2.1 < 2147483647
  | 0 => by show 0 ≤ c % 2147483629 ∧ c % 2147483629 < 2147483647; omega
  | k + 1 => by
    show 0 ≤ (_ % 2147483647 : Int) ∧ (_ % 2147483647 : Int) < 2147483647
    omega
def R_row : List D → D → Prop := fun ds r => ∃ (c : Int) (m : Nat), ds = [.int c, .int (m : Int)] ∧ m ≤ 1000 ∧ r = .lst ((lawRow c m).map .int)
def envRow (c : Int) (m k : Nat) : List Slot := [.val (.int c), .val (.int m), .own ((rowSt c k).1.map .int), .val (.int (rowSt c k).2.1), .val (.int (rowSt c k).2.2), .no, .no]
theorem ok__law_row (F : Fun K "_law_row" "_law_row" s__law_row f fd) (T : Txt mg) : FnOk P w K mg base CX0 1 f fd ["cell", "many"] (spR K R_row) := by
  refine ok_def F sc__law_row (fun ds r h => by obtain ⟨c, m, rfl, _⟩ := h; rfl) (fun cdv A outer s H E hr => ⟨_, (pss_cons (ps_set (i := 2) sc__law_row.nd rfl (Or.inl rfl) (pe_lst pa_nil))
    (pss_cons (ps_set (i := 3) sc__law_row.nd rfl (Or.inl rfl) (pe_op op_mod (pe_callTy call_int1 (by rfl) T.n_int (by decide +kernel) (pa_cons (pv 0) pa_nil)) pe_int))
    (pss_cons (ps_set (i := 4) sc__law_row.nd rfl (Or.inl rfl) (pe_op op_sub (pv 0) (pe_op op_pow pe_int pe_int)))
    (pss_cons (ps_for PassesOwn.never rfl (pi_range1 (by rfl) T.n_range (pa_cons (pv 1) pa_nil)) (pg_name (i := 5) sc__law_row.nd rfl (Or.inl rfl))
    (pss_cons (ps_set (i := 3) sc__law_row.nd rfl (Or.inl rfl) (pe_op op_mod (pe_callTy call_int1 (by rfl) T.n_int (by decide +kernel) (pa_cons (pe_op op_add (pe_op op_add (pe_op op_mul (pv 3) pe_int) (pe_op op_mul pe_int (pv 5))) pe_int) pa_nil)) pe_int))
    (pss_cons (ps_set (i := 6) sc__law_row.nd rfl (Or.inl rfl) (pe_op op_mod (pe_callTy call_int1 (by rfl) T.n_int (by decide +kernel) (pa_cons (pe_op op_add (pe_op op_add (pe_op op_mul (pv 3) pe_int) (pe_op op_mul pe_int (pv 5))) pe_int) pa_nil)) pe_int))
    (pss_cons (ps_expr (pe_bm PySem.F.plainAttrs_list PySem.F.slot_list_append PySem.F.type_list_append mt_append (pv 2) (pa_cons (pe_ifExp (pt_cmpR op_ge (pv 0) (pe_op op_pow pe_int pe_int) (nomark _)) (pe_op op_mod (pe_callTy call_int1 (by rfl) T.n_int (by decide +kernel) (pa_cons (pv 4) pa_nil)) pe_int) (pe_op op_mod (pe_callTy call_int1 (by rfl) T.n_int (by decide +kernel) (pa_cons (pe_op op_fdiv (pv 6) pe_int) pa_nil)) pe_int)) pa_nil)))
    (pss_one (ps_set (i := 4) sc__law_row.nd rfl (Or.inl rfl) (pe_op op_fdiv (pv 4) pe_int)))))))
    (pss_one (ps_ret (pv 2))))))), fun ds r h H0 H1 E' hrt => ?_⟩)
  obtain ⟨c, m, rfl, hm, rfl⟩ := h
  refine q_own (en_lst ea_nil (by decide)) ?_
  refine q_asg (d := .int (c % 2147483629)) (by walk_at "ev") ?_
  refine q_asg (d := .int (c - 10 ^ 18)) (by walk_at "ev") ?_
  refine q_range m (envRow c m) (ee_var rfl) (by omega) (by omega) ?_ (fun k hk G0 E2 hr2 hb2 hn hc => ?_) ?_
  · walk_at "sub"
  · have hs := seed_lt c k
    refine q_asg (d := .int (rowSt c (k + 1)).2.1) (by walk_at "evi") ?_
    have hs1 := seed_lt c (k + 1)
    refine q_asg (d := .int (((rowSt c (k + 1)).2.1 * 69621 + 31 * (k : Int) + 7) % 2147483629)) (by walk_at "ev") ?_
    refine q_app (d := .int (if decide ((10 : Int) ^ 18 ≤ c) = true then (rowSt c k).2.2 % 1000 else (((rowSt c (k + 1)).2.1 * 69621 + 31 * (k : Int) + 7) % 2147483629) / 4099 % 1000)) rfl (ee_ifE (b := decide ((10 : Int) ^ 18 ≤ c)) ?_ ?_ ?_) ?_ ?_
    · walk_at "evt"
    · intro h
      rw [if_pos h]
      walk_at "ev"
    · intro h
      rw [if_neg (by rw [h]; decide)]
      walk_at "ev"
    · have := row_len c k
      unfold lawRow at this
      rw [List.length_map, this]; omega
    refine go_asg (d := .int (rowSt c (k + 1)).2.2) (by walk_at "evi") ?_
    refine nx_sub ?_ hn
    have e : (rowSt c (k + 1)).1.map D.int = (rowSt c k).1.map D.int ++ [D.int (if decide ((10 : Int) ^ 18 ≤ c) = true then (rowSt c k).2.2 % 1000 else (((rowSt c (k + 1)).2.1 * 69621 + 31 * (k : Int) + 7) % 2147483629) / 4099 % 1000)] := by
      show ((rowSt c k).1 ++ [_]).map D.int = _
      rw [List.map_append]; rfl
    unfold envRow
    rw [e]
    walk_at "sub"
  · refine q_freeze 2 rfl ?_
    exact go_ret (ee_var rfl) hrt
end

/-! ### the program -/
abbrev il (l : List Int) : D := .lst (l.map .int)
abbrev W9 (x : Int) : Prop := x.natAbs.log2 < 9000
def R_prim : List D → D → Prop := fun ds r => ∃ l : List Int, ds = [il l] ∧ l.length ≤ 1000 ∧ W9 (gcdL l) ∧ r = il (prim l)
section
variable {P : Program} {w : World} {K : PySem.W.Frag} {mg : Str → Option Value} {base : Heap} {f : Addr} {fd : FuncData}
theorem den_w9 {l : List Int} (h : W9 (gcdL l)) : den l ≠ 0 ∧ (den l).natAbs.log2 < 9000 := by
  have h0 := gcdL_nonneg l
  refine ⟨by have := den_pos l; omega, ?_⟩
  by_cases e : gcdL l = 0
  · have : den l = 1 := by unfold den; omega
    rw [this]; decide
  · have : den l = gcdL l := by unfold den; omega
    rw [this]; exact h
theorem ok_primitive (F : Fun K "primitive" "primitive" s_primitive f fd) (T : Txt mg) : FnOk P w K mg base CX0 1 f fd ["vector"] (spR K R_prim) := by
  refine ok_def F sc_primitive (fun ds r h => by obtain ⟨l, rfl, _⟩ := h; rfl) (fun cdv A outer s H E hr => ⟨_, (pss_cons (ps_set (i := 1) sc_primitive.nd rfl (Or.inr rfl) pe_int)
    (pss_cons (ps_for PassesOwn.never rfl (k_pi_list K (pv 0)) (pg_name (i := 2) sc_primitive.nd rfl (Or.inl rfl))
    (pss_one (ps_set (i := 1) sc_primitive.nd rfl (Or.inr rfl) (pe_callBfun cr_gcd (by rfl) T.m_gcd (pa_cons (pv 1) (pa_cons (pv 2) pa_nil))))))
    (pss_one (ps_ret (pe_lc (own := [("number", 2)]) rfl sc_primitive.nd (k_pi_list K (pv 0)) (blkOk_by (N := N_primitive) (sc := defScope s_primitive) (by decide +kernel)) (fun _ _ _ _ _ => (pg_name (i := 2) sc_primitive.nd rfl (Or.inl rfl))) (fun _ _ _ _ _ => pts_nil) (fun _ _ _ _ _ => (pe_op op_fdvX (pv 2) (pe_callB (call_max2 rfl) (by rfl) T.n_max (by decide +kernel) (pa_cons pe_int (pa_cons (pv 1) pa_nil)))))))))), fun ds r h H0 H1 E' hrt => ?_⟩)
  obtain ⟨l, rfl, hl, hw, rfl⟩ := h
  refine q_asg (d := .int 0) ee_int ?_
  refine q_for1 (rep := D.int) (xs := l) (fun i => [.val (il l), .val (.int ((l.take i).foldl gcdF 0)), .no]) (ei_list (ee_var rfl)) (by walk_at "sub") (fun i x hx G0 E2 hr2 hb2 hn hc => ?_) ?_
  · refine go_asg (d := .int ((l.take (i + 1)).foldl gcdF 0)) (EvE.is (ee_gcd (ee_var rfl) (ee_var rfl)) ?_) (nx_sub (by walk_at "sub") hn)
    rw [List.take_add_one, hx, List.foldl_append]; rfl
  · rw [List.take_length]
    refine go_ret ?_ hrt
    have e : il (prim l) = .lst (l.map fun x => D.int (x.fdiv (den l))) := by
      show D.lst ((l.map _).map D.int) = _
      rw [List.map_map]; rfl
    rw [e]
    refine (en_lc1 (rep := D.int) (w := fun x => D.int (x.fdiv (den l))) (ei_list (ee_var rfl)) (by simp) hl (fun x hx => ?_)).ee
    exact ee_fdv (ee_var rfl) (ee_max2 ee_int (ee_var rfl)) (den_w9 hw)
theorem at_il {l : List Int} {c : Nat} (h : c < l.length) : atI (l.map D.int) (c : Int) = some (.int (fn l c)) := atI_map (by rw [List.getElem?_eq_getElem h, fn_lt h])
def R_lcm : List D → D → Prop := fun ds r => ∃ l : List Int, ds = [il l] ∧ l.length ≤ 1000 ∧ (∀ x ∈ l, W9 x) ∧ (∀ i, W9 ((l.take i).foldl lcmF 1)) ∧ r = .int (lcmL l)
theorem ok__common_multiple (F : Fun K "_common_multiple" "_common_multiple" s__common_multiple f fd) (T : Txt mg) : FnOk P w K mg base CX0 1 f fd ["numbers"] (spR K R_lcm) := by
  refine ok_def F sc__common_multiple (fun ds r h => by obtain ⟨l, rfl, _⟩ := h; rfl) (fun cdv A outer s H E hr => ⟨_, (pss_cons (ps_set (i := 1) sc__common_multiple.nd rfl (Or.inl rfl) pe_int)
    (pss_cons (ps_for PassesOwn.never rfl (k_pi_list K (pv 0)) (pg_name (i := 2) sc__common_multiple.nd rfl (Or.inl rfl))
    (pss_one (ps_set (i := 1) sc__common_multiple.nd rfl (Or.inl rfl) (pe_callBfun cr_lcm (by rfl) T.m_lcm (pa_cons (pv 1) (pa_cons (pv 2) pa_nil))))))
    (pss_one (ps_ret (pv 1))))), fun ds r h H0 H1 E' hrt => ?_⟩)
  obtain ⟨l, rfl, hl, hw, hp, rfl⟩ := h
  refine q_asg (d := .int 1) ee_int ?_
  refine q_for1 (rep := D.int) (xs := l) (fun i => [.val (il l), .val (.int ((l.take i).foldl lcmF 1)), .no]) (ei_list (ee_var rfl)) (by walk_at "sub") (fun i x hx G0 E2 hr2 hb2 hn hc => ?_) ?_
  · refine go_asg (d := .int ((l.take (i + 1)).foldl lcmF 1)) (EvE.is (ee_lcm (ee_var rfl) (ee_var rfl) (hp i) (hw x (List.mem_of_getElem? hx))) ?_) (nx_sub (by walk_at "sub") hn)
    rw [List.take_add_one, hx, List.foldl_append]; rfl
  · rw [List.take_length]
    exact go_ret (ee_var rfl) hrt
def R_clr : List D → D → Prop := fun ds r' => ∃ (r p : List Int) (c : Nat), ds = [il r, il p, .int (c : Int)] ∧ r.length = p.length ∧ r.length ≤ 1000 ∧ c < r.length ∧ (∀ x ∈ r, Sm x) ∧ (∀ x ∈ p, Sm x) ∧ r' = il (clr r p c)
theorem mulSm {a b : Int} (ha : Sm a) (hb : Sm b) : CMulW a b := by
  have := ha.log
  have := hb.log
  unfold CMulW; omega
theorem ok_cleared (F : Fun K "cleared" "cleared" s_cleared f fd) (T : Txt mg) (C_primitive : Cal P w K mg base "primitive" 1 ["vector"] (spR K R_prim)) : FnOk P w K mg base CX0 2 f fd ["row", "pivot_row", "column"] (spR K R_clr) := by
  refine ok_def F sc_cleared (fun ds r h => by obtain ⟨r, p, c, rfl, _⟩ := h; rfl) (fun cdv A outer s H E hr => ⟨_, (pss_cons (ps_if (pt_cmpR op_eq (pe_ix (k_ix_list K) (pv 0) (pv 2) (fun _ _ => rfl)) pe_int (nomark _)) (pss_one (ps_ret (pv 0))) pss_nil)
    (pss_cons (ps_asg (pe_tup (pa_cons (pe_ix (k_ix_list K) (pv 1) (pv 2) (fun _ _ => rfl)) (pa_cons (pe_ix (k_ix_list K) (pv 0) (pv 2) (fun _ _ => rfl)) pa_nil))) (k_pg_tup K (n := 2) rfl (pgs_cons (pg_name (i := 3) sc_cleared.nd rfl (Or.inr rfl)) (pgs_cons (pg_name (i := 4) sc_cleared.nd rfl (Or.inr rfl)) pgs_nil))))
    (pss_one (ps_ret (pe_cal (C_primitive.mono (by decide)) hr (by rfl) (pa_cons (pe_lc (own := [("number", 5), ("other", 6)]) rfl sc_cleared.nd (k_pi_zip K (by rfl) T.n_zip (pa_cons (pv 0) (pa_cons (pv 1) pa_nil))) (blkOk_by (N := N_cleared) (sc := defScope s_cleared) (by decide +kernel)) (fun _ _ _ _ _ => (k_pg_tup K (n := 2) rfl (pgs_cons (pg_name (i := 5) sc_cleared.nd rfl (Or.inl rfl)) (pgs_cons (pg_name (i := 6) sc_cleared.nd rfl (Or.inl rfl)) pgs_nil)))) (fun _ _ _ _ _ => pts_nil) (fun _ _ _ _ _ => (pe_op op_sub (pe_op op_mulW (pv 3) (pv 5)) (pe_op op_mulW (pv 4) (pv 6))))) pa_nil)))))), fun ds r h H0 H1 E' hrt => ?_⟩)
  obtain ⟨r, p, c, rfl, hlp, hl, hc, sr, sp, rfl⟩ := h
  have hcp : c < p.length := by omega
  refine q_leave (b := decide (fn r c = 0)) (et_test (ee_eqI (ee_ixL (ee_var rfl) (ee_var rfl) (at_il hc)) ee_int)) (fun h => ?_) (fun h => ?_)
  · have h : fn r c = 0 := of_decide_eq_true h
    refine go_ret (ee_var rfl) (hrt.is ?_)
    unfold clr; rw [if_pos h]
  · have h : ¬ fn r c = 0 := of_decide_eq_false h
    refine q_asgG (d := .tup [.int (fn p c), .int (fn r c)]) (us := [(3, .int (fn p c)), (4, .int (fn r c))]) (ee_tup (ea_cons (ee_ixL (ee_var rfl) (ee_var rfl) (at_il hcp)) (ea_cons (ee_ixL (ee_var rfl) (ee_var rfl) (at_il hc)) ea_nil)) (by simp)) (eg_tup (egs_cons (egs_cons egs_nil)) rfl) ?_
    have e1 : clr r p c = prim (comb (fn p c) (fn r c) r p) := by unfold clr; rw [if_neg h]
    refine go_ret (ee_call (ea_cons (d := il (comb (fn p c) (fn r c) r p)) ?_ ea_nil) ⟨_, rfl, by rw [comb_len hlp]; exact hl, Nat.lt_of_lt_of_le (log_lt (by decide) (comb_sm (Sm.fn sp c) (Sm.fn sr c) sr sp)) (by decide), rfl⟩) (hrt.is (by rw [e1]))
    have hi := ei_zip (K := K) (env := ((startE N_cleared [il r, il p, D.int (c : Int)]).set 3 (.val (.int (fn p c)))).set 4 (.val (.int (fn r c)))) (ta := tVar 0) (tb := tVar 1) (ds := r.map D.int) (es := p.map D.int) (ee_var (i := 0) rfl) (ee_var (i := 1) rfl) (by simp [hlp])
    have ez : (((r.map D.int).zip (p.map D.int)).map fun q => D.tup [q.1, q.2]) = (r.zip p).map fun q => D.tup [.int q.1, .int q.2] := by
      rw [List.zip_map, List.map_map]; rfl
    rw [ez] at hi
    have e : il (comb (fn p c) (fn r c) r p) = .lst ((r.zip p).map fun q => D.int (fn p c * q.1 - fn r c * q.2)) := by
      show D.lst ((List.map _ _).map D.int) = _
      rw [List.map_map]; rfl
    rw [e]
    refine (en_lcM (rep := fun q : Int × Int => D.tup [.int q.1, .int q.2]) (fun q => [(5, .int q.1), (6, .int q.2)]) (fun q => D.int (fn p c * q.1 - fn r c * q.2)) hi (by simp; omega) (fun q hq => eg_tup (egs_cons (egs_cons egs_nil)) rfl) (fun q hq j hj => by simp at hj; rcases hj with rfl | rfl <;> decide) (fun q hq => ?_)).ee
    have m := List.of_mem_zip hq
    exact ee_sub (ee_mulW (ee_var rfl) (ee_var rfl) (mulSm (Sm.fn sp c) (sr _ m.1))) (ee_mulW (ee_var rfl) (ee_var rfl) (mulSm (Sm.fn sr c) (sp _ m.2)))
/-! _reduced -/
theorem map_erase {α β : Type} (f : α → β) : ∀ (l : List α) (k : Nat), (l.map f).eraseIdx k = (l.eraseIdx k).map f
  | [], _ => rfl
  | _ :: _, 0 => rfl
  | x :: l, k + 1 => by simp [map_erase f l k]
def sq (b b' : Bool) (vs : List (List Int)) : D := seqD b (vs.map fun v => seqD b' (v.map .int))
def rdD (q : Nat × List Int) : D := .tup [.int (q.1 : Int), il q.2]
def R_red : List D → D → Prop := fun ds r => ∃ (b b' : Bool) (vs : List (List Int)) (n width : Nat), ds = [sq b b' vs, .int (width : Int)] ∧ vs.length ≤ 1000 ∧ n ≤ 1000 ∧ Small vs n width ∧ r = .lst ((red vs width).1.map rdD)
def envR (b b' : Bool) (vs : List (List Int)) (width : Nat) (st : Red × List (List Int)) : List Slot := [.val (sq b b' vs), .val (.int (width : Int)), .own (st.1.map rdD), .own (st.2.map il), .no, .no, .no, .no, .no, .no, .no]
theorem ok__reduced (F : Fun K "_reduced" "_reduced" s__reduced f fd) (T : Txt mg) (C_primitive : Cal P w K mg base "primitive" 1 ["vector"] (spR K R_prim)) (C_cleared : Cal P w K mg base "cleared" 2 ["row", "pivot_row", "column"] (spR K R_clr)) :
    FnOk P w K mg base CX0 3 f fd ["vectors", "width"] (spR K R_red) := by
  refine ok_def F sc__reduced (fun ds r h => by obtain ⟨b, b', vs, n, width, rfl, _⟩ := h; rfl) (fun cdv A outer s H E hr => ⟨_, (pss_cons (ps_set (i := 2) sc__reduced.nd rfl (Or.inl rfl) (pe_lst pa_nil))
    (pss_cons (ps_setLc (i := 3) (hy := rfl) (hyl := rfl) (hsw := sw_true rfl rfl rfl (by decide +kernel)) (own := [("vector", 7)]) rfl sc__reduced.nd (k_pi_seq K (pv 0)) (blkOk_by (N := N__reduced) (sc := defScope s__reduced) (by decide +kernel)) (fun _ _ _ _ _ => (pg_name (i := 7) sc__reduced.nd rfl (Or.inl rfl))) (fun _ _ _ _ _ => pts_nil) (fun _ _ _ _ _ => (pe_callTy (k_list_of K) (by rfl) T.n_list (by decide +kernel) (pa_cons (pv 7) pa_nil))))
    (pss_cons (ps_for PassesOwn.never rfl (pi_range1 (by rfl) T.n_range (pa_cons (pv 1) pa_nil)) (pg_name (i := 4) sc__reduced.nd rfl (Or.inr rfl))
    (pss_cons (ps_setLc (i := 5) (hy := rfl) (hyl := rfl) (hsw := sw_true rfl rfl rfl (by decide +kernel)) (own := [("index", 8), ("row", 9)]) rfl sc__reduced.nd (k_pi_enum K (by rfl) T.n_enumerate (pa_cons (pv 3) pa_nil)) (blkOk_by (N := N__reduced) (sc := defScope s__reduced) (by decide +kernel)) (fun _ _ _ _ _ => (k_pg_tup K (n := 2) rfl (pgs_cons (pg_name (i := 8) sc__reduced.nd rfl (Or.inl rfl)) (pgs_cons (pg_name (i := 9) sc__reduced.nd rfl (Or.inl rfl)) pgs_nil)))) (fun _ _ _ _ _ => (pts_one (pt_cmpR op_ne (pe_ix (k_ix_list K) (pv 9) (pv 4) (fun _ _ => rfl)) pe_int (nomark _)))) (fun _ _ _ _ _ => (pv 8)))
    (pss_cons (ps_if (pt_not (pt_truth (pv 5) (by intro _; rfl))) (pss_one ps_continue) pss_nil)
    (pss_cons (ps_set (i := 6) sc__reduced.nd rfl (Or.inr rfl) (pe_cal (C_primitive.mono (by decide)) hr (by rfl) (pa_cons (pe_bm PySem.F.plainAttrs_list PySem.F.slot_list_pop PySem.F.type_list_pop mt_popAt (pv 3) (pa_cons (pe_ix (k_ix_list K) (pv 5) pe_int (fun _ _ => rfl)) pa_nil)) pa_nil)))
    (pss_cons (ps_setLc (i := 3) (hy := rfl) (hyl := rfl) (hsw := sw_true rfl rfl rfl (by decide +kernel)) (own := [("row", 9)]) rfl sc__reduced.nd (k_pi_list K (pv 3)) (blkOk_by (N := N__reduced) (sc := defScope s__reduced) (by decide +kernel)) (fun _ _ _ _ _ => (pg_name (i := 9) sc__reduced.nd rfl (Or.inl rfl))) (fun _ _ _ _ _ => pts_nil) (fun _ _ _ _ _ => (pe_cal (C_cleared.mono (by decide)) hr (by rfl) (pa_cons (pv 9) (pa_cons (pv 6) (pa_cons (pv 4) pa_nil))))))
    (pss_cons (ps_setLc (i := 2) (hy := rfl) (hyl := rfl) (hsw := sw_true rfl rfl rfl (by decide +kernel)) (own := [("pivot", 10), ("row", 9)]) rfl sc__reduced.nd (k_pi_list K (pv 2)) (blkOk_by (N := N__reduced) (sc := defScope s__reduced) (by decide +kernel)) (fun _ _ _ _ _ => (k_pg_tup K (n := 2) rfl (pgs_cons (pg_name (i := 10) sc__reduced.nd rfl (Or.inl rfl)) (pgs_cons (pg_name (i := 9) sc__reduced.nd rfl (Or.inl rfl)) pgs_nil)))) (fun _ _ _ _ _ => pts_nil) (fun _ _ _ _ _ => (pe_tup (pa_cons (pv 10) (pa_cons (pe_cal (C_cleared.mono (by decide)) hr (by rfl) (pa_cons (pv 9) (pa_cons (pv 6) (pa_cons (pv 4) pa_nil)))) pa_nil)))))
    (pss_one (ps_expr (pe_bm PySem.F.plainAttrs_list PySem.F.slot_list_append PySem.F.type_list_append mt_append (pv 2) (pa_cons (pe_tup (pa_cons (pv 4) (pa_cons (pv 6) pa_nil))) pa_nil))))))))))
    (pss_one (ps_ret (pv 2)))))), fun ds r h H0 H1 E' hrt => ?_⟩)
  obtain ⟨b, b', vs, n, width, rfl, hvl, hn, sm, rfl⟩ := h
  refine q_own (en_lst ea_nil (by decide)) ?_
  refine q_own (ds := vs.map il) (en_lc1 (rep := fun v : List Int => seqD b' (v.map .int)) (w := il) (ei_seq (b := b) (ee_var rfl)) (by simp) hvl (fun v hv => (en_listQ (ee_var rfl)).ee)) ?_
  refine q_range width (fun i => envR b b' vs width (red vs i)) (ee_var rfl) (by omega) (by have := sm.2.1; omega) (by walk_at "sub") (fun i hi G0 E2 hr2 hb2 hn' hc => ?_) ?_
  · obtain ⟨l1, l2, few⟩ := sm.len (Nat.le_of_lt hi)
    obtain ⟨z1, z2⟩ := sm.2.2 i (Nat.le_of_lt hi)
    have rl := red_rest_len vs i
    have hin : i < n := by have := sm.2.1; omega
    have es := red_succ vs i
    have hfind := find_none (l := (red vs i).2) (c := i)
    dsimp only at hn' hc ⊢
    rw [es] at hn' hc
    generalize red vs i = st at *
    generalize hns : ((List.range st.2.length).filter fun k => fn (st.2.getD k []) i != 0) = ns at *
    have hnl : ns.length ≤ st.2.length := by rw [← hns]; exact Nat.le_trans (List.length_filter_le _ _) (by simp)
    refine q_asg (d := .lst ((ns.map Int.ofNat).map D.int)) (en_peek 3 (ds := st.2.map il) rfl ?_).ee ?_
    · rw [List.map_map, ← hns]
      have hi2 := ei_enum (K := K) (env := ((envR b b' vs width st).set 4 (.val (.int (i : Int)))).set 3 (.val (.lst (st.2.map il)))) (te := tVar 3) (ds := st.2.map il) (ee_var rfl)
      have een : enum (st.2.map il) = (List.range st.2.length).map fun (k : Nat) => D.tup [.int (k : Int), (st.2.map il).getD k .non] := by simp [enum]
      rw [een] at hi2
      refine en_lcF (rep := fun (k : Nat) => D.tup [.int (k : Int), (st.2.map il).getD k .non]) (fun (k : Nat) => [(8, .int (k : Int)), (9, (st.2.map il).getD k .non)]) (fun k => fn (st.2.getD k []) i != 0) (D.int ∘ Int.ofNat) hi2 (by simp; omega) (fun k hk => eg_tup (egs_cons (egs_cons egs_nil)) rfl) (fun q hq j hj => by simp at hj; rcases hj with rfl | rfl <;> decide) (fun k hk => ?_) (fun k hk _ => ee_var rfl)
      have hk : k < st.2.length := by simpa using hk
      have e1 : (st.2.map il).getD k .non = il st.2[k] := by simp [List.getD_eq_getElem?_getD, hk]
      have e2 : st.2.getD k [] = st.2[k] := by simp [List.getD_eq_getElem?_getD, hk]
      refine et_test (EvE.is (ee_neI (i := fn st.2[k] i) (ee_ixL (ds := st.2[k].map D.int) (k := (i : Int)) (ee_var (by rw [e1]; rfl)) (ee_var rfl) (at_il (by rw [l1 _ (List.getElem_mem hk)]; exact hin))) ee_int) ?_)
      rw [e2]
      by_cases h : fn st.2[k] i = 0 <;> simp [h]
    refine q_leave (b := ns.isEmpty) ((et_not (et_truL (ee_var rfl))).is (by simp)) (fun h => ?_) (fun h => ?_)
    · have hz : ns = [] := by simpa using h
      rw [hz] at hfind
      have e : stp st i = st := by unfold stp; rw [hfind]; rfl
      rw [e] at hc
      exact go_cont (nx_sub (by walk_at "sub") hc)
    · obtain ⟨k0, nr, rfl⟩ : ∃ k0 nr, ns = k0 :: nr := by
        cases ns with
        | nil => simp at h
        | cons k0 nr => exact ⟨k0, nr, rfl⟩
      rcases find_cases st.2 i with ⟨e, _⟩ | ⟨k1, e, hk, hne⟩
      · rw [hfind] at e; simp at e
      · rw [hfind] at e
        obtain rfl : k0 = k1 := by simpa using e
        have hm := List.getElem_mem hk
        generalize hp : prim st.2[k0] = p
        have eg : prim (st.2.getD k0 []) = p := by rw [← hp]; simp [List.getD_eq_getElem?_getD, hk]
        have est : stp st i = ((st.1.map fun q => (q.1, clr q.2 p i)) ++ [(i, p)], (st.2.eraseIdx k0).map fun r => clr r p i) := by
          unfold stp; rw [hfind]; simp only [List.getElem?_cons_zero]; rw [eg]
        have pl : p.length = n := by rw [← hp, prim_len]; exact l1 _ hm
        have ps : ∀ x ∈ p, Sm x := hp ▸ prim_sm (z1 _ hm)
        refine q_popCall (i := 3) (j := 6) (k := k0) (ds := st.2.map il) (d0 := il st.2[k0]) (d := il p) rfl (ee_ixL (ee_var rfl) ee_int (atI_nat (j := 0) rfl)) (by simp [hk]) (by omega) ⟨_, rfl, by rw [l1 _ hm]; exact hn, Nat.lt_trans (Sm.log (gcd_sm (z1 _ hm))) (by decide), by rw [hp]⟩ ?_
        rw [map_erase]
        refine q_freeze 3 rfl ?_
        refine q_own (ds := (st.2.eraseIdx k0).map fun r => il (clr r p i)) (en_lc1 (rep := il) (w := fun r => il (clr r p i)) (ei_list (ee_var rfl)) (by simp) (by have := List.length_eraseIdx_le (l := st.2) (i := k0); omega) (fun r hr => ?_)) ?_
        · have hr' := List.mem_of_mem_eraseIdx hr
          exact ee_call (ea_cons (ee_var rfl) (ea_cons (ee_var rfl) (ea_cons (ee_var rfl) ea_nil))) ⟨r, p, i, rfl, by rw [l1 r hr', pl], by rw [l1 r hr']; exact hn, by rw [l1 r hr']; exact hin, z1 r hr', ps, rfl⟩
        refine q_freeze 2 rfl ?_
        refine q_own (ds := st.1.map fun q => rdD (q.1, clr q.2 p i)) (en_lcM (rep := rdD) (fun q => [(10, .int (q.1 : Int)), (9, il q.2)]) (fun q => rdD (q.1, clr q.2 p i)) (ei_list (ee_var rfl)) (by omega) (fun q hq => eg_tup (egs_cons (egs_cons egs_nil)) rfl) (fun q hq j hj => by simp at hj; rcases hj with rfl | rfl <;> decide) (fun q hq => ?_)) ?_
        · refine ee_tup (ea_cons (ee_var rfl) (ea_cons (ee_call (ea_cons (ee_var rfl) (ea_cons (ee_var rfl) (ea_cons (ee_var rfl) ea_nil))) ⟨q.2, p, i, rfl, by rw [l2 q hq, pl], by rw [l2 q hq]; exact hn, by rw [l2 q hq]; exact hin, z2 q hq, ps, rfl⟩) ea_nil)) (by simp)
        refine go_app (d := rdD (i, p)) rfl (ee_tup (ea_cons (ee_var rfl) (ea_cons (ee_var rfl) ea_nil)) (by simp)) (by rw [List.length_map]; omega) (nx_sub ?_ hn')
        rw [est]
        unfold envR
        have x1 : ((st.1.map fun q => (q.1, clr q.2 p i)) ++ [(i, p)]).map rdD = (st.1.map fun q => rdD (q.1, clr q.2 p i)) ++ [rdD (i, p)] := by rw [List.map_append, List.map_map]; rfl
        have x2 : ((st.2.eraseIdx k0).map fun r => clr r p i).map il = (st.2.eraseIdx k0).map fun r => il (clr r p i) := by rw [List.map_map]; rfl
        dsimp only
        rw [x1, x2]
        walk_at "sub"
  · refine q_freeze 2 rfl ?_
    exact go_ret (ee_var rfl) hrt
end
end K35

namespace K35
open PySem PySem.Spec PyProof.Rows L2 Z StX M
local macro_rules | `(tactic| walk_at "sd") => `(tactic| first | decide | omega | assumption | rfl | (simp; done) | (simp only [List.length_map, List.length_cons, List.length_nil]; omega))
local macro_rules | `(tactic| walk_at "ev") => `(tactic| first
  | exact ee_int | exact ee_strX (by decide +kernel) | exact ee_str | exact ee_bl | exact ee_non
  | exact ee_var rfl
  | (refine' ee_add ?e1 ?e2; (case e1 => walk_at "ev"); (case e2 => walk_at "ev"))
  | (refine' ee_sub ?e1 ?e2; (case e1 => walk_at "ev"); (case e2 => walk_at "ev"))
  | (refine' ee_mul ?e1 ?e2 ?e3; (case e1 => walk_at "ev"); (case e2 => walk_at "ev"); (case e3 => walk_at "cm"))
  | (refine' ee_div ?e1 ?e2 ?e3; (case e1 => walk_at "ev"); (case e2 => walk_at "ev"); (case e3 => exact ⟨by decide, by decide⟩))
  | (refine' ee_mod ?e1 ?e2 ?e3; (case e1 => walk_at "ev"); (case e2 => walk_at "ev"); (case e3 => walk_at "sd"))
  | (refine' ee_powR ?e1 ?e2 ?e3 ?e4; (case e1 => walk_at "ev"); (case e2 => walk_at "ev"); (case e3 => exact ⟨by decide, by decide, by decide⟩); (case e4 => rfl))
  | (refine' ee_intI ?e1; (case e1 => walk_at "ev"))
  | (refine' ee_intB ?e1; (case e1 => walk_at "ev"))
  | (refine' ee_lenL ?e1; (case e1 => walk_at "ev"))
  | (refine' ee_lenX ?e1 ?e2; (case e1 => walk_at "ev"); (case e2 => walk_at "sz"))
  | (refine' ee_lenS ?e1 ?e2; (case e1 => walk_at "ev"); (case e2 => walk_at "sz"))
  | (refine' ee_lenT ?e1; (case e1 => walk_at "ev"))
  | (refine' ee_lt ?e1 ?e2; (case e1 => walk_at "ev"); (case e2 => walk_at "ev")) | (refine' ee_le ?e1 ?e2; (case e1 => walk_at "ev"); (case e2 => walk_at "ev")) | (refine' ee_gt ?e1 ?e2; (case e1 => walk_at "ev"); (case e2 => walk_at "ev")) | (refine' ee_ge ?e1 ?e2; (case e1 => walk_at "ev"); (case e2 => walk_at "ev"))
  | (refine' ee_eqI ?e1 ?e2; (case e1 => walk_at "ev"); (case e2 => walk_at "ev")) | (refine' ee_eqS ?e1 ?e2; (case e1 => walk_at "ev"); (case e2 => walk_at "ev")) | (refine' ee_eqB ?e1 ?e2; (case e1 => walk_at "ev"); (case e2 => walk_at "ev"))
  | (refine' ee_neI ?e1 ?e2; (case e1 => walk_at "ev"); (case e2 => walk_at "ev")) | (refine' ee_neS ?e1 ?e2; (case e1 => walk_at "ev"); (case e2 => walk_at "ev"))
  | (refine' ee_neg ?e1; (case e1 => walk_at "ev"))
  | (refine' ee_max2 ?e1 ?e2; (case e1 => walk_at "ev"); (case e2 => walk_at "ev")) | (refine' ee_min2 ?e1 ?e2; (case e1 => walk_at "ev"); (case e2 => walk_at "ev"))
  | (refine' ee_eqX ?e1 ?e2; (case e1 => walk_at "ev"); (case e2 => walk_at "ev")) | (refine' ee_neX ?e1 ?e2; (case e1 => walk_at "ev"); (case e2 => walk_at "ev"))
  | (refine' ee_inX ?e1 ?e2; (case e1 => walk_at "ev"); (case e2 => walk_at "ev")) | (refine' ee_ninX ?e1 ?e2; (case e1 => walk_at "ev"); (case e2 => walk_at "ev"))
  | (refine' ee_startsX ?e1 ?e2; (case e1 => walk_at "ev"); (case e2 => walk_at "ev"))
  | (refine' ee_catX ?e1 ?e2 ?e3; (case e1 => walk_at "ev"); (case e2 => walk_at "ev"); (case e3 => walk_at "sz"))
  | (refine' ee_slX ?e1 ?e2 ?e3 ?e4; (case e1 => walk_at "ev"); (case e2 => walk_at "evo"); (case e3 => walk_at "evo"); (case e4 => walk_at "sz"))
  | (refine' ee_inS ?e1 ?e2; (case e1 => walk_at "ev"); (case e2 => walk_at "ev")) | (refine' ee_ninS ?e1 ?e2; (case e1 => walk_at "ev"); (case e2 => walk_at "ev"))
  | (refine' ee_startswith ?e1 ?e2; (case e1 => walk_at "ev"); (case e2 => walk_at "ev"))
  | (refine' ee_notV ?e1; (case e1 => walk_at "ev"))
  | (refine' ee_catS ?e1 ?e2 ?e3; (case e1 => walk_at "ev"); (case e2 => walk_at "ev"); (case e3 => walk_at "sz"))
  | (refine' (en_lst ?e1 ?e2).ee; (case e1 => walk_at "eva"); (case e2 => walk_at "sd"))
  | (refine' ee_tup ?e1 ?e2; (case e1 => walk_at "eva"); (case e2 => walk_at "sd"))
  | (refine' (en_slL ?e1 ?e2 ?e3).ee; (case e1 => walk_at "ev"); (case e2 => walk_at "evo"); (case e3 => walk_at "evo"))
  | (refine' ee_slS ?e1 ?e2 ?e3 ?e4; (case e1 => walk_at "ev"); (case e2 => walk_at "evo"); (case e3 => walk_at "evo"); (case e4 => walk_at "sz"))
  | (refine' (en_listL ?e1).ee; (case e1 => walk_at "ev"))
  | (refine' (en_listT ?e1).ee; (case e1 => walk_at "ev"))
  | (refine' ee_tupL ?e1; (case e1 => walk_at "ev"))
  | (refine' ee_tupT ?e1; (case e1 => walk_at "ev")))
local macro_rules | `(tactic| walk_at "eva") => `(tactic| first | exact ea_nil | (refine' ea_cons ?e1 ?e2; (case e1 => walk_at "ev"); (case e2 => walk_at "eva")))
local macro_rules | `(tactic| walk_at "evo") => `(tactic| first | exact eo_none | (refine' eo_some ?e1; (case e1 => walk_at "ev")))
local macro_rules | `(tactic| walk_at "evt") => `(tactic| first
  | (refine' et_test ?e1; (case e1 => walk_at "ev")) | (refine' et_B ?e1; (case e1 => walk_at "ev")) | (refine' et_not ?e1; (case e1 => walk_at "evt"))
  | (refine' et_and ?e1 ?e2; (case e1 => walk_at "evt"); (case e2 => (intro _; walk_at "evt")))
  | (refine' et_or ?e1 ?e2; (case e1 => walk_at "evt"); (case e2 => (intro _; walk_at "evt"))))
local macro_rules | `(tactic| walk_at "sub") => `(tactic| first | exact Sub.refl _ | (refine sub_cons ?_; walk_at "sub") | (refine sub_no ?_; walk_at "sub"))
local macro_rules | `(tactic| walk_at "cm") => `(tactic| first | exact Or.inr ⟨by omega, by omega⟩ | exact Or.inl ⟨by omega, by omega⟩)
local macro_rules | `(tactic| walk_at "evi") => `(tactic| (refine' EvE.is ?h ?e; (case h => walk_at "ev"); (case e => first | rfl | (congr 1; done) | skip)))
local macro_rules | `(tactic| walk_at "sz") => `(tactic| first | assumption | omega | (simp; omega) | (simp only [List.length_append, List.length_map, List.length_cons, List.length_nil]; omega))

/-! ### the law's helpers -/
def lawSeed (ns : List Int) (k : Nat) : Int := if decide ((k : Int) < (ns.length : Nat)) = true then ns.getD k 0 else (ns.getD 0 0 * 7907 + ns.getD 1 0 * 331 + 104729 * (k : Int)) % 2147483629
def R_seed : List D → D → Prop := fun ds r => ∃ (ns : List Int) (k : Nat), ds = [il ns, .int (k : Int)] ∧ k ≤ 1000 ∧ r = .int (lawSeed ns k)
def R_isint : List D → D → Prop := fun ds r => ∃ i : Int, ds = [.int i] ∧ r = .bl true
def R_gcd : List D → D → Prop := fun ds r => ∃ a b : Int, ds = [.int a, .int b] ∧ b.natAbs.log2 < 100000 ∧ r = .int (gcdF a b)
/-- one turn of the law's gcd -/
def gst (p : Int × Int) : Int × Int := if decide (0 < p.2) = true then (p.2, p.1 % p.2) else p
def giter : Nat → Int × Int → Int × Int
  | 0, p => p
  | n + 1, p => gst (giter n p)
theorem giter_add (n : Nat) : ∀ p, giter n (gst p) = giter (n + 1) p := by
  induction n with
  | zero => intro p; rfl
  | succ n ih => intro p; show gst (giter n (gst p)) = gst (giter (n + 1) p); rw [ih]
theorem gst_gcd {p : Int × Int} (h1 : 0 ≤ p.1) (h2 : 0 ≤ p.2) : 0 ≤ (gst p).1 ∧ 0 ≤ (gst p).2 ∧ Nat.gcd (gst p).1.natAbs (gst p).2.natAbs = Nat.gcd p.1.natAbs p.2.natAbs := by
  unfold gst
  by_cases h : 0 < p.2
  · rw [if_pos (by simpa using h)]
    refine ⟨by dsimp only; omega, Int.emod_nonneg _ (by omega), ?_⟩
    dsimp only
    have e : (p.1 % p.2).natAbs = p.1.natAbs % p.2.natAbs := by
      rw [Int.natAbs_emod_of_nonneg h1]
    rw [e, Nat.gcd_comm p.2.natAbs, ← Nat.gcd_rec, Nat.gcd_comm]
  · rw [if_neg (by simpa using h)]; exact ⟨h1, h2, rfl⟩
theorem giter_gcd (n : Nat) {p : Int × Int} (h1 : 0 ≤ p.1) (h2 : 0 ≤ p.2) : 0 ≤ (giter n p).1 ∧ 0 ≤ (giter n p).2 ∧ Nat.gcd (giter n p).1.natAbs (giter n p).2.natAbs = Nat.gcd p.1.natAbs p.2.natAbs := by
  induction n with
  | zero => exact ⟨h1, h2, rfl⟩
  | succ n ih =>
    obtain ⟨a, b, c⟩ := ih
    obtain ⟨a', b', c'⟩ := gst_gcd a b
    exact ⟨a', b', c'.trans c⟩
theorem giter_zero (n : Nat) {p : Int × Int} (h : p.2 = 0) : giter n p = p := by
  induction n with
  | zero => rfl
  | succ n ih => show gst (giter n p) = p; rw [ih]; unfold gst; rw [if_neg (by simp [h])]
theorem giter_end (k : Nat) : ∀ {p : Int × Int}, 0 ≤ p.1 → 0 ≤ p.2 → p.2 < 2 ^ k → ∀ n, 2 * k ≤ n → (giter n p).2 = 0 := by
  induction k with
  | zero =>
    intro p h1 h2 h3 n _
    have : p.2 = 0 := by have : (2 : Int) ^ 0 = 1 := rfl; omega
    rw [giter_zero n this, this]
  | succ k ih =>
    intro p h1 h2 h3 n hn
    obtain ⟨m, rfl⟩ : ∃ m, n = m + 2 := ⟨n - 2, by omega⟩
    have e : giter (m + 2) p = giter m (gst (gst p)) := by rw [giter_add, giter_add]
    rw [e]
    obtain ⟨a, b, _⟩ := gst_gcd h1 h2
    obtain ⟨a', b', _⟩ := gst_gcd a b
    refine ih a' b' ?_ m (by omega)
    have e2 : (2 : Int) ^ (k + 1) = 2 * 2 ^ k := by rw [Int.pow_succ]; omega
    rw [e2] at h3
    generalize (2 : Int) ^ k = N at *
    by_cases z : 0 < p.2
    · have g1 : gst p = (p.2, p.1 % p.2) := by unfold gst; rw [if_pos (by simpa using z)]
      have r1 := Int.emod_lt_of_pos p.1 z
      have r0 := Int.emod_nonneg p.1 (show p.2 ≠ 0 by omega)
      rw [g1]
      generalize p.1 % p.2 = r at *
      by_cases z2 : 0 < r
      · have g2 : gst (p.2, r) = (r, p.2 % r) := by unfold gst; rw [if_pos (by simpa using z2)]
        rw [g2]
        have q1 := Int.emod_lt_of_pos p.2 z2
        have q0 := Int.emod_nonneg p.2 (show r ≠ 0 by omega)
        have q2 := Int.emod_add_mul_ediv p.2 r
        have q3 : 1 ≤ p.2 / r := by
          rw [Int.le_ediv_iff_mul_le z2]; omega
        dsimp only
        have : r * 1 ≤ r * (p.2 / r) := Int.mul_le_mul_of_nonneg_left q3 (by omega)
        omega
      · have g2 : gst (p.2, r) = (p.2, r) := by unfold gst; rw [if_neg (by simpa using z2)]
        rw [g2]
        dsimp only; omega
    · have g1 : gst p = p := by unfold gst; rw [if_neg (by simpa using z)]
      rw [g1, g1]; omega
theorem giter_is (a b : Int) (n : Nat) (hn : 2 * Builtin.Int.intBits b ≤ n) : (giter n ((a.natAbs : Int), (b.natAbs : Int))).1 = gcdF a b := by
  obtain ⟨h1, h2, h3⟩ := giter_gcd n (p := ((a.natAbs : Int), (b.natAbs : Int))) (by dsimp only; omega) (by dsimp only; omega)
  have hb : (b.natAbs : Int) < 2 ^ Builtin.Int.intBits b := by
    have : b.natAbs < 2 ^ Builtin.Int.intBits b := by
      unfold Builtin.Int.intBits
      split
      · rename_i h
        have : b = 0 := by simpa using h
        subst this; decide
      · exact Nat.lt_log2_self
    exact_mod_cast this
  have z := giter_end (Builtin.Int.intBits b) (p := ((a.natAbs : Int), (b.natAbs : Int))) (by dsimp only; omega) (by dsimp only; omega) hb n hn
  rw [z] at h3
  unfold gcdF
  simp at h3
  omega
section
variable {P : Program} {w : World} {K : PySem.W.Frag} {mg : Str → Option Value} {base : Heap} {f : Addr} {fd : FuncData}
theorem ok__law_seed (F : Fun K "_law_seed" "_law_seed" s__law_seed f fd) (T : Txt mg) (C__law_cell : Cal P w K mg base "_law_cell" 1 ["script", "k"] (spR K R_cell)) : FnOk P w K mg base CX0 2 f fd ["script", "k"] (spR K R_seed) := by
  refine ok_def F sc__law_seed (fun ds r h => by obtain ⟨ns, k, rfl, _⟩ := h; rfl) (fun cdv A outer s H E hr => ⟨_, (pss_cons (ps_if (pt_cmpR op_lt (pv 1) (pe_callB (k_call_len K) (by rfl) T.n_len (by decide +kernel) (pa_cons (pv 0) pa_nil)) (nomark _)) (pss_one (ps_ret (pe_callTy call_int1 (by rfl) T.n_int (by decide +kernel) (pa_cons (pe_ix (k_ix_list K) (pv 0) (pv 1) (fun _ _ => rfl)) pa_nil)))) pss_nil)
    (pss_one (ps_ret (pe_op op_mod (pe_callTy call_int1 (by rfl) T.n_int (by decide +kernel) (pa_cons (pe_op op_add (pe_op op_add (pe_op op_mul (pe_cal (C__law_cell.mono (by decide)) hr (by rfl) (pa_cons (pv 0) (pa_cons pe_int pa_nil))) pe_int) (pe_op op_mul (pe_cal (C__law_cell.mono (by decide)) hr (by rfl) (pa_cons (pv 0) (pa_cons pe_int pa_nil))) pe_int)) (pe_op op_mul pe_int (pv 1))) pa_nil)) pe_int)))), fun ds r h H0 H1 E' hrt => ?_⟩)
  obtain ⟨ns, k, rfl, hk, rfl⟩ := h
  refine q_leave (b := decide ((k : Int) < (ns.length : Nat))) (et_test (EvE.is (ee_lt (ee_var rfl) (ee_lenL (ee_var rfl))) (by rw [List.length_map]))) (fun h => ?_) (fun h => ?_)
  · have h1 : k < ns.length := by simpa using h
    refine go_ret (ee_intI (ee_ixL (ee_var rfl) (ee_var rfl) (atI_map (get_getD (d := 0) h1)))) (hrt.is ?_)
    unfold lawSeed; rw [if_pos h]
  · refine go_ret (ee_mod (ee_intI (ee_add (ee_add (ee_mul (ee_call (ea_cons (ee_var rfl) (ea_cons ee_int ea_nil)) ⟨ns, 0, rfl, rfl⟩) ee_int (.inr ⟨by decide, by decide⟩)) (ee_mul (ee_call (ea_cons (ee_var rfl) (ea_cons ee_int ea_nil)) ⟨ns, 1, rfl, rfl⟩) ee_int (.inr ⟨by decide, by decide⟩))) (ee_mul ee_int (ee_var rfl) (.inl ⟨by decide, by decide⟩)))) ee_int (by decide)) (hrt.is ?_)
    unfold lawSeed; rw [if_neg (by rw [h]; decide)]
theorem ok__law_is_integer (F : Fun K "_law_is_integer" "_law_is_integer" s__law_is_integer f fd) (T : Txt mg) : FnOk P w K mg base CX0 1 f fd ["actual"] (spR K R_isint) := by
  refine ok_def F sc__law_is_integer (fun ds r h => by obtain ⟨i, rfl, _⟩ := h; rfl) (fun cdv A outer s H E hr => ⟨_, (pss_one (ps_ret (pe_and (pe_callB (k_isi K) (by rfl) T.n_isinstance (by decide +kernel) (pa_cons (pv 0) (pa_cons (pe_bltn (v := .ty "int") (by rfl) T.n_int (by decide +kernel) rfl) pa_nil))) (pe_one (pe_not (pe_callB (k_isi K) (by rfl) T.n_isinstance (by decide +kernel) (pa_cons (pv 0) (pa_cons (pe_bltn (v := .ty "bool") (by rfl) T.n_bool (by decide +kernel) rfl) pa_nil)))))))), fun ds r h H0 H1 E' hrt => ?_⟩)
  obtain ⟨i, rfl, rfl⟩ := h
  exact go_ret (ee_andV (a := true) (b := !false) (ee_isi (v := .int i) (t := "int") (ee_var rfl) rfl (fun _ => .base (.int i)) (kit_ty (by decide +kernel))) (fun _ => ee_notV (ee_isi (v := .int i) (t := "int") (ee_var rfl) rfl (fun _ => .base (.int i)) (kit_ty (by decide +kernel))))) (hrt.is rfl)
theorem ok__law_gcd (F : Fun K "_law_gcd" "_law_gcd" s__law_gcd f fd) (T : Txt mg) : FnOk P w K mg base CX0 1 f fd ["one", "other"] (spR K R_gcd) := by
  refine ok_def F sc__law_gcd (fun ds r h => by obtain ⟨a, b, rfl, _⟩ := h; rfl) (fun cdv A outer s H E hr => ⟨_, (pss_cons (ps_set (i := 0) sc__law_gcd.nd rfl (Or.inl rfl) (pe_callB call_abs (by rfl) T.n_abs (by decide +kernel) (pa_cons (pv 0) pa_nil)))
    (pss_cons (ps_set (i := 1) sc__law_gcd.nd rfl (Or.inl rfl) (pe_callB call_abs (by rfl) T.n_abs (by decide +kernel) (pa_cons (pv 1) pa_nil)))
    (pss_cons (ps_for PassesOwn.never rfl (pi_range1 (by rfl) T.n_range (pa_cons (pe_op op_add (pe_op op_mul pe_int (pe_bits (pv 1))) pe_int) pa_nil)) (pg_name (i := 2) sc__law_gcd.nd rfl (Or.inl rfl))
    (pss_one (ps_if (pt_cmpR op_gt (pv 1) pe_int (nomark _)) (pss_one (ps_par (i := 0) (j := 1) rfl sc__law_gcd.nd rfl rfl (by decide) rfl rfl (pa_cons (pv 1) (pa_cons (pe_op op_mod (pe_callTy call_int1 (by rfl) T.n_int (by decide +kernel) (pa_cons (pv 0) pa_nil)) (pv 1)) pa_nil)) (by rfl))) pss_nil)))
    (pss_one (ps_ret (pv 0)))))), fun ds r h H0 H1 E' hrt => ?_⟩)
  obtain ⟨a, b, rfl, hb, rfl⟩ := h
  have hbits : Builtin.Int.intBits b ≤ b.natAbs.log2 + 1 := by
    unfold Builtin.Int.intBits
    split <;> omega
  have hbb : Builtin.Int.intBits ((b.natAbs : Nat) : Int) = Builtin.Int.intBits b := by
    unfold Builtin.Int.intBits
    by_cases h : b = 0
    · subst h; rfl
    · simp [h]
  refine q_asg (d := .int (a.natAbs : Int)) (ee_abs (ee_var rfl)) ?_
  refine q_asg (d := .int (b.natAbs : Int)) (ee_abs (ee_var rfl)) ?_
  refine q_range (2 * Builtin.Int.intBits b + 4) (fun i => [.val (.int (giter i ((a.natAbs : Int), (b.natAbs : Int))).1), .val (.int (giter i ((a.natAbs : Int), (b.natAbs : Int))).2), .no]) (n := ((2 * Builtin.Int.intBits b + 4 : Nat) : Int)) (EvE.is (ee_add (ee_mul ee_int (ee_bits (ee_var rfl)) (.inl ⟨by decide, by decide⟩)) ee_int) (by rw [hbb, Int.natCast_add, Int.natCast_mul]; rfl)) (by omega) (by omega) (by walk_at "sub") (fun i hi G0 E2 hr2 hb2 hn hc => ?_) ?_
  · have e : giter (i + 1) ((a.natAbs : Int), (b.natAbs : Int)) = gst (giter i ((a.natAbs : Int), (b.natAbs : Int))) := rfl
    try dsimp only at hn hc ⊢
    rw [e] at hn hc
    generalize giter i ((a.natAbs : Int), (b.natAbs : Int)) = p at *
    refine go_if (b := decide (0 < p.2)) (et_test (ee_gt (ee_var rfl) ee_int)) (fun h => ?_) (fun h => ?_)
    · have hp : 0 < p.2 := by simpa using h
      refine go_par (d1 := .int p.2) (d2 := .int (p.1 % p.2)) (ea_cons (ee_var rfl) (ea_cons (ee_mod (ee_intI (ee_var rfl)) (ee_var rfl) hp) ea_nil)) (nx_sub ?_ hn)
      unfold gst; rw [if_pos h]
      walk_at "sub"
    · refine go_next (nx_sub ?_ hn)
      unfold gst; rw [if_neg (by rw [h]; decide)]
      walk_at "sub"
  · refine go_ret (ee_var rfl) (hrt.is ?_)
    rw [giter_is a b _ (by omega)]
end
/-! ### what the law draws -/
def Rk (l : List Int) (n : Nat) : Prop := l.length = n ∧ ∀ x ∈ l, 0 ≤ x ∧ x < 1000
theorem Rk.at {l : List Int} {n : Nat} (h : Rk l n) (j : Nat) : 0 ≤ fn l j ∧ fn l j < 1000 := by
  rcases Nat.lt_or_ge j l.length with x | x
  · exact h.2 _ (fn_mem x)
  · rw [fn_ge x]; omega
theorem Rk.cut {l : List Int} {n : Nat} (h : Rk l n) {a b : Nat} (hb : b ≤ n) : Rk ((l.take b).drop a) (b - a) :=
  ⟨by rw [List.length_drop, List.length_take, h.1]; omega, fun x hx => h.2 x (List.mem_of_mem_take (List.mem_of_mem_drop hx))⟩
theorem pick_at (l : List Int) {y : Int} (h0 : 0 ≤ y) (h1 : y < (l.length : Nat)) : atI (l.map D.int) y = some (.int (fn l y.toNat)) :=
  atI_pos h0 (by have : y.toNat < l.length := by omega
                 rw [List.getElem?_map, List.getElem?_eq_getElem this, fn_lt this]; rfl)
theorem pick_in (l : List Int) {y : Int} (b : Nat) (h : ∀ x ∈ l, x.natAbs ≤ b) : (fn l y.toNat).natAbs ≤ b := fn_bnd h _
def lawNum (kind : Int) (l : List Int) : Int :=
  if decide (kind < 3) = true then fn l 0 % 5 - 2 else if decide (kind = 3) = true then fn l 0 - 500 else if decide (kind = 4) = true then fn [0, 0, 0, 1, -1, 7] (fn l 0 % 6).toNat
  else (fn l 0 - 500) * 10 ^ 27 + fn l 1 * 10 ^ 13 + fn l 2
theorem lawNum_bnd {kind : Int} {l : List Int} (h : Rk l 3) : (lawNum kind l).natAbs ≤ 2 ^ 100 := by
  have a0 := h.at 0
  have a1 := h.at 1
  have a2 := h.at 2
  unfold lawNum
  split
  · omega
  · split
    · omega
    · split
      · have : (fn [0, 0, 0, 1, -1, 7] (fn l 0 % 6).toNat).natAbs ≤ 7 := fn_bnd (by decide) _
        omega
      · omega
def R_num : List D → D → Prop := fun ds r => ∃ (kind : Int) (l : List Int), ds = [.int kind, il l] ∧ Rk l 3 ∧ r = .int (lawNum kind l)
section
variable {P : Program} {w : World} {K : PySem.W.Frag} {mg : Str → Option Value} {base : Heap} {f : Addr} {fd : FuncData}
theorem ok__law_number (F : Fun K "_law_number" "_law_number" s__law_number f fd) (T : Txt mg) : FnOk P w K mg base CX0 1 f fd ["kind", "numbers"] (spR K R_num) := by
  refine ok_def F sc__law_number (fun ds r h => by obtain ⟨k, l, rfl, _⟩ := h; rfl) (fun cdv A outer s H E hr => ⟨_, (pss_cons (ps_if (pt_cmpR op_lt (pv 0) pe_int (nomark _)) (pss_one (ps_ret (pe_op op_sub (pe_op op_mod (pe_callTy call_int1 (by rfl) T.n_int (by decide +kernel) (pa_cons (pe_ix (k_ix_list K) (pv 1) pe_int (fun _ _ => rfl)) pa_nil)) pe_int) pe_int))) pss_nil)
    (pss_cons (ps_if (pt_cmpR op_eq (pv 0) pe_int (nomark _)) (pss_one (ps_ret (pe_op op_sub (pe_ix (k_ix_list K) (pv 1) pe_int (fun _ _ => rfl)) pe_int))) pss_nil)
    (pss_cons (ps_if (pt_cmpR op_eq (pv 0) pe_int (nomark _)) (pss_one (ps_ret (pe_ix (k_ix_list K) (pe_lst (pa_cons pe_int (pa_cons pe_int (pa_cons pe_int (pa_cons pe_int (pa_cons (pe_un un_neg pe_int) (pa_cons pe_int pa_nil))))))) (pe_op op_mod (pe_callTy call_int1 (by rfl) T.n_int (by decide +kernel) (pa_cons (pe_ix (k_ix_list K) (pv 1) pe_int (fun _ _ => rfl)) pa_nil)) pe_int) (fun _ _ => rfl)))) pss_nil)
    (pss_one (ps_ret (pe_op op_add (pe_op op_add (pe_op op_mul (pe_op op_sub (pe_ix (k_ix_list K) (pv 1) pe_int (fun _ _ => rfl)) pe_int) (pe_op op_pow pe_int pe_int)) (pe_op op_mul (pe_ix (k_ix_list K) (pv 1) pe_int (fun _ _ => rfl)) (pe_op op_pow pe_int pe_int))) (pe_ix (k_ix_list K) (pv 1) pe_int (fun _ _ => rfl)))))))), fun ds r h H0 H1 E' hrt => ?_⟩)
  obtain ⟨kind, l, rfl, hl, rfl⟩ := h
  have a0 := hl.at 0
  have a1 := hl.at 1
  have x0 : atI (l.map D.int) ((0 : Nat) : Int) = some (.int (fn l 0)) := at_il (by rw [hl.1]; decide)
  have x1 : atI (l.map D.int) ((1 : Nat) : Int) = some (.int (fn l 1)) := at_il (by rw [hl.1]; decide)
  have x2 : atI (l.map D.int) ((2 : Nat) : Int) = some (.int (fn l 2)) := at_il (by rw [hl.1]; decide)
  refine q_leave (b := decide (kind < 3)) (et_test (ee_lt (ee_var rfl) ee_int)) (fun h => ?_) (fun h => ?_)
  · refine go_ret (ee_sub (ee_mod (ee_intI (ee_ixL (ee_var rfl) ee_int x0)) ee_int (by decide)) ee_int) (hrt.is ?_)
    unfold lawNum; rw [if_pos h]
  have n1 : ¬ decide (kind < 3) = true := by rw [h]; decide
  refine q_leave (b := decide (kind = 3)) (et_test (ee_eqI (ee_var rfl) ee_int)) (fun h => ?_) (fun h => ?_)
  · refine go_ret (ee_sub (ee_ixL (ee_var rfl) ee_int x0) ee_int) (hrt.is ?_)
    unfold lawNum; rw [if_neg n1, if_pos h]
  have n2 : ¬ decide (kind = 3) = true := by rw [h]; decide
  refine q_leave (b := decide (kind = 4)) (et_test (ee_eqI (ee_var rfl) ee_int)) (fun h => ?_) (fun h => ?_)
  · refine go_ret (ee_ixL (ds := ([0, 0, 0, 1, -1, 7] : List Int).map D.int) (en_lst (ea_cons ee_int (ea_cons ee_int (ea_cons ee_int (ea_cons ee_int (ea_cons (ee_neg ee_int) (ea_cons ee_int ea_nil)))))) (by simp)).ee (ee_mod (ee_intI (ee_ixL (ee_var rfl) ee_int x0)) ee_int (by decide)) (pick_at [0, 0, 0, 1, -1, 7] (by omega) (by simp; omega))) (hrt.is ?_)
    unfold lawNum; rw [if_neg n1, if_neg n2, if_pos h]
  have n3 : ¬ decide (kind = 4) = true := by rw [h]; decide
  refine go_ret (ee_add (ee_add (ee_mul (ee_sub (ee_ixL (ee_var rfl) ee_int x0) ee_int) (ee_powR ee_int ee_int ⟨by decide, by decide, by decide⟩ rfl) (.inl ⟨by omega, by omega⟩)) (ee_mul (ee_ixL (ee_var rfl) ee_int x1) (ee_powR ee_int ee_int ⟨by decide, by decide, by decide⟩ rfl) (.inl ⟨by omega, by omega⟩))) (ee_ixL (ee_var rfl) ee_int x2)) (hrt.is ?_)
  unfold lawNum; rw [if_neg n1, if_neg n2, if_neg n3]; rfl
theorem at_ill {ls : List (List Int)} {y : Int} (h0 : 0 ≤ y) (h1 : y < (ls.length : Nat)) : atI (ls.map il) y = some (il (ls.getD y.toNat [])) :=
  atI_pos h0 (by have : y.toNat < ls.length := by omega
                 rw [List.getElem?_map, get_getD (d := []) this]; rfl)
end
/-! ### the law's own elimination -/
structure LOk (n : Nat) (rows : Red) (v : List Int) : Prop where
  vl : v.length = n
  rl : ∀ q ∈ rows, q.2.length = n ∧ q.1 < n ∧ ∀ x ∈ q.2, Sm x
  st : ∀ i ≤ rows.length, (lredS (rows.take i) v).1.length = n ∧ (∀ x ∈ (lredS (rows.take i) v).1, Sm x) ∧ (lredS (rows.take i) v).2 ≠ 0 ∧ Sm (lredS (rows.take i) v).2
def R_lred : List D → D → Prop := fun ds r => ∃ (n : Nat) (rows : Red) (v : List Int), ds = [.lst (rows.map rdD), il v] ∧ n ≤ 900 ∧ rows.length ≤ 900 ∧ LOk n rows v ∧ r = il (lred rows v)
def R_lwith : List D → D → Prop := fun ds r => ∃ (n : Nat) (rows : Red) (v : List Int), ds = [.lst (rows.map rdD), il v] ∧ n ≤ 900 ∧ rows.length ≤ 900 ∧ LOk n rows v ∧ r = .lst ((lwith rows v).map rdD)
section
variable {P : Program} {w : World} {K : PySem.W.Frag} {mg : Str → Option Value} {base : Heap} {f : Addr} {fd : FuncData}
theorem ok__law_reduced (F : Fun K "_law_reduced" "_law_reduced" s__law_reduced f fd) (T : Txt mg) : FnOk P w K mg base CX0 1 f fd ["rows", "vector"] (spR K R_lred) := by
  refine ok_def F sc__law_reduced (fun ds r h => by obtain ⟨n, rows, v, rfl, _⟩ := h; rfl) (fun cdv A outer s H E hr => ⟨_, (pss_cons (ps_set (i := 1) sc__law_reduced.nd rfl (Or.inr rfl) (pe_callTy (k_list_of K) (by rfl) T.n_list (by decide +kernel) (pa_cons (pv 1) pa_nil)))
    (pss_cons (ps_set (i := 2) sc__law_reduced.nd rfl (Or.inr rfl) pe_int)
    (pss_cons (ps_for PassesOwn.never rfl (k_pi_list K (pv 0)) (k_pg_tup K (n := 2) rfl (pgs_cons (pg_name (i := 3) sc__law_reduced.nd rfl (Or.inr rfl)) (pgs_cons (pg_name (i := 4) sc__law_reduced.nd rfl (Or.inr rfl)) pgs_nil)))
    (pss_cons (ps_set (i := 5) sc__law_reduced.nd rfl (Or.inr rfl) (pe_ix (k_ix_list K) (pv 1) (pv 3) (fun _ _ => rfl)))
    (pss_cons (ps_set (i := 1) sc__law_reduced.nd rfl (Or.inr rfl) (pe_lc (own := [("k", 6)]) rfl sc__law_reduced.nd (pi_range1 (by rfl) T.n_range (pa_cons (pe_callB (k_call_len K) (by rfl) T.n_len (by decide +kernel) (pa_cons (pv 1) pa_nil)) pa_nil)) (blkOk_by (N := N__law_reduced) (sc := defScope s__law_reduced) (by decide +kernel)) (fun _ _ _ _ _ => (pg_name (i := 6) sc__law_reduced.nd rfl (Or.inl rfl))) (fun _ _ _ _ _ => pts_nil) (fun _ _ _ _ _ => (pe_op op_fdvX (pe_op op_sub (pe_op op_mulW (pe_ix (k_ix_list K) (pv 4) (pv 3) (fun _ _ => rfl)) (pe_ix (k_ix_list K) (pv 1) (pv 6) (fun _ _ => rfl))) (pe_op op_mulW (pv 5) (pe_ix (k_ix_list K) (pv 4) (pv 6) (fun _ _ => rfl)))) (pv 2)))))
    (pss_one (ps_set (i := 2) sc__law_reduced.nd rfl (Or.inr rfl) (pe_ix (k_ix_list K) (pv 4) (pv 3) (fun _ _ => rfl)))))))
    (pss_one (ps_ret (pv 1)))))), fun ds r h H0 H1 E' hrt => ?_⟩)
  obtain ⟨n, rows, v, rfl, hn, hrl, ok, rfl⟩ := h
  refine q_asg (d := il v) (en_listL (ee_var rfl)).ee ?_
  refine q_asg (d := .int 1) ee_int ?_
  refine q_for (ds := rows.map rdD) (fun i => [.val (.lst (rows.map rdD)), .val (il (lredS (rows.take i) v).1), .val (.int (lredS (rows.take i) v).2), .no, .no, .no, .no])
    (fun i => [(3, .int (((rows.getD i (0, [])).1 : Nat) : Int)), (4, il (rows.getD i (0, [])).2)]) (ei_list (ee_var rfl)) (by walk_at "sub") (fun i d hd => ?_) (fun i hi G0 E2 hr2 hb2 hn' hc => ?_) ?_
  · have hi : i < rows.length := by have := (List.getElem?_eq_some_iff.mp hd).1; simpa using this
    have e : d = rdD (rows.getD i (0, [])) := by
      rw [List.getElem?_map, List.getElem?_eq_getElem hi] at hd
      simp [List.getD_eq_getElem?_getD, hi] at hd ⊢
      exact hd.symm
    rw [e]
    exact eg_tup (egs_cons (egs_cons egs_nil)) rfl
  · have hi : i < rows.length := by simpa using hi
    have eq : rows[i]? = some (rows.getD i (0, [])) := get_getD hi
    have hq : rows.getD i (0, []) ∈ rows := List.mem_of_getElem? eq
    have es : lredS (rows.take (i + 1)) v = lstep (lredS (rows.take i) v) (rows.getD i (0, [])) := by
      unfold lredS
      rw [List.take_add_one, eq, List.foldl_append]; rfl
    obtain ⟨s1, s2, s3, s4⟩ := ok.st i (by omega)
    rw [es] at hn' hc
    generalize rows.getD i (0, []) = q at *
    generalize lredS (rows.take i) v = st at *
    obtain ⟨ql, qc, qs⟩ := ok.rl q hq
    refine q_asg (d := .int (fn st.1 q.1)) (ee_ixL (ee_var rfl) (ee_var rfl) (at_il (by omega))) ?_
    refine q_asg (d := il (lstep st q).1) ?_ ?_
    · have e : il (lstep st q).1 = .lst ((List.range st.1.length).map fun (k : Nat) => D.int ((fn q.2 q.1 * fn st.1 k - fn st.1 q.1 * fn q.2 k).fdiv st.2)) := by
        show D.lst ((List.map _ _).map D.int) = _
        rw [List.map_map]; rfl
      rw [e]
      refine (en_lc1 (rep := fun (k : Nat) => D.int (k : Int)) (w := fun k => D.int ((fn q.2 q.1 * fn st.1 k - fn st.1 q.1 * fn q.2 k).fdiv st.2)) (ei_rngN (EvE.is (ee_lenL (ee_var rfl)) (by rw [List.length_map])) (by omega)) (by simp) (by simp; omega) (fun k hk => ?_)).ee
      have hk : k < st.1.length := by simpa using hk
      exact ee_fdv (ee_sub (ee_mulW (ee_ixL (ee_var rfl) (ee_var rfl) (at_il (by omega))) (ee_ixL (ee_var rfl) (ee_var rfl) (at_il hk)) (mulSm (Sm.fn qs _) (Sm.fn s2 _))) (ee_mulW (ee_var rfl) (ee_ixL (ee_var rfl) (ee_var rfl) (at_il (by omega))) (mulSm (Sm.fn s2 _) (Sm.fn qs _)))) (ee_var rfl) ⟨s3, Nat.lt_trans s4.log (by decide)⟩
    · refine go_asg (d := .int (lstep st q).2) (ee_ixL (ee_var rfl) (ee_var rfl) (at_il (by omega))) (nx_sub (by walk_at "sub") hn')
  · have e : (lredS (rows.take (rows.map rdD).length) v).1 = lred rows v := by rw [List.length_map, List.take_length]; rfl
    rw [e]
    exact go_ret (ee_var rfl) hrt
theorem ok__law_with (F : Fun K "_law_with" "_law_with" s__law_with f fd) (T : Txt mg) (C__law_reduced : Cal P w K mg base "_law_reduced" 1 ["rows", "vector"] (spR K R_lred)) : FnOk P w K mg base CX0 2 f fd ["rows", "vector"] (spR K R_lwith) := by
  refine ok_def F sc__law_with (fun ds r h => by obtain ⟨n, rows, v, rfl, _⟩ := h; rfl) (fun cdv A outer s H E hr => ⟨_, (pss_cons (ps_set (i := 2) sc__law_with.nd rfl (Or.inl rfl) (pe_cal (C__law_reduced.mono (by decide)) hr (by rfl) (pa_cons (pv 0) (pa_cons (pv 1) pa_nil))))
    (pss_cons (ps_for PassesOwn.never rfl (pi_range1 (by rfl) T.n_range (pa_cons (pe_callB (k_call_len K) (by rfl) T.n_len (by decide +kernel) (pa_cons (pv 2) pa_nil)) pa_nil)) (pg_name (i := 3) sc__law_with.nd rfl (Or.inl rfl))
    (pss_one (ps_if (pt_cmpR op_ne (pe_ix (k_ix_list K) (pv 2) (pv 3) (fun _ _ => rfl)) pe_int (nomark _)) (pss_one (ps_ret (pe_op (k_catS K) (pv 0) (pe_lst (pa_cons (pe_tup (pa_cons (pv 3) (pa_cons (pv 2) pa_nil))) pa_nil))))) pss_nil)))
    (pss_one (ps_ret (pv 0))))), fun ds r h H0 H1 E' hrt => ?_⟩)
  obtain ⟨n, rows, v, rfl, hn, hrl, ok, rfl⟩ := h
  have hl : (lred rows v).length = n := by have := (ok.st rows.length (Nat.le_refl _)).1; rwa [List.take_length] at this
  refine q_asg (d := il (lred rows v)) (ee_call (ea_cons (ee_var rfl) (ea_cons (ee_var rfl) ea_nil)) ⟨n, rows, v, rfl, hn, hrl, ok, rfl⟩) ?_
  have wd : lwith rows v = match (lred rows v).findIdx? (· != 0) with | none => rows | some k => rows ++ [(k, lred rows v)] := rfl
  generalize lred rows v = left at *
  refine q_for1P (rep := fun (k : Nat) => D.int (k : Int)) (xs := List.range left.length) (fun i => ∀ j < i, fn left j = 0) (fun _ => [.val (.lst (rows.map rdD)), .val (il v), .val (il left), .no]) (ei_rngN (EvE.is (ee_lenL (ee_var rfl)) (by rw [List.length_map])) (by omega)) (fun j hj => by omega) (Sub.refl _) (fun i k hk pi G0 E2 hr2 hb2 hn' hc => ?_) (fun pn => ?_)
  · have hi : i < left.length := by have := (List.getElem?_eq_some_iff.mp hk).1; simpa using this
    obtain rfl : i = k := by rw [List.getElem?_range hi] at hk; exact Option.some.inj hk
    refine go_if (b := !decide (fn left i = 0)) (et_test (ee_neI (ee_ixL (ee_var rfl) (ee_var rfl) (at_il hi)) ee_int)) (fun h => ?_) (fun h => ?_)
    · have h0 : ¬ fn left i = 0 := by simpa using h
      have hf : left.findIdx? (· != 0) = some i := by
        rw [List.findIdx?_eq_some_iff_getElem]
        refine ⟨hi, by rw [← fn_lt hi]; simpa using h0, fun j hj => ?_⟩
        have := pi j hj
        rw [fn_lt (by omega)] at this
        simpa using this
      rw [hf] at wd
      have wd : lwith rows v = rows ++ [(i, left)] := wd
      rw [wd, List.map_append] at hrt
      exact go_ret (en_cat (ee_var rfl) (en_lst (ea_cons (ee_tup (ea_cons (ee_var rfl) (ea_cons (ee_var rfl) ea_nil)) (by simp)) ea_nil) (by simp)).ee (by simp; omega)).ee (hr2 _ hrt)
    · have h0 : fn left i = 0 := by simpa using h
      refine go_next (nx_sub (by walk_at "sub") (hn' fun j hj => ?_))
      rcases Nat.lt_or_ge j i with x | x
      · exact pi j x
      · rw [show j = i by omega]; exact h0
  · have hf : left.findIdx? (· != 0) = none := by
      rw [List.findIdx?_eq_none_iff]
      intro x hx
      obtain ⟨j, hj, rfl⟩ := mem_fn hx
      have := pn j (by simpa using hj)
      rw [this]; rfl
    rw [hf] at wd
    have wd : lwith rows v = rows := wd
    rw [wd] at hrt
    exact go_ret (ee_var rfl) hrt
end
end K35

namespace M
open K35
/-! ### sizes -/
abbrev BB : Nat := 2 ^ 190
theorem mb_lt {k : Nat} (h : k ≤ 12) : mb BB k < 2 ^ 4000 := by
  refine Nat.lt_of_le_of_lt (mb_mono (Nat.pow_pos (by decide)) h) ?_
  unfold mb
  have h1 : fac 12 ≤ 2 ^ 29 := by decide
  have h2 : BB ^ 12 = 2 ^ 2280 := by unfold BB; rw [← Nat.pow_mul]
  rw [h2]
  refine Nat.lt_of_le_of_lt (Nat.mul_le_mul_right _ h1) ?_
  rw [← Nat.pow_add]
  exact Nat.pow_lt_pow_right (by decide) (by decide)
structure Vok (n : Nat) (vs : List (List Int)) : Prop where
  len : ∀ v ∈ vs, v.length = n
  bnd : ∀ v ∈ vs, ∀ x ∈ v, x.natAbs ≤ BB
theorem BB_pos : 0 < BB := Nat.pow_pos (by decide)
theorem BB_sm {x : Int} (h : x.natAbs ≤ BB) : Sm x := Nat.lt_of_le_of_lt h (Nat.pow_lt_pow_right (by decide) (by decide))
theorem Vok.small {n : Nat} {vs : List (List Int)} (h : Vok n vs) (hn : n ≤ 11) {width : Nat} (hw : width ≤ n) : Small vs n width := Small.of h.len hw BB_pos h.bnd (mb_lt (by omega))
theorem LW.take {n : Nat} {us : List (List Int)} {rows : Red} (l : LW n us rows) : ∀ i, ∃ us', LW n us' (rows.take i) ∧ ∀ u ∈ us', u ∈ us := by
  induction l with
  | nil => intro i; exact ⟨[], by simpa using LW.nil, fun u hu => hu⟩
  | @snoc us rows v c r l hv hr e ld ih =>
    intro i
    rcases Nat.lt_or_ge i (rows ++ [(c, r)]).length with h | h
    · rw [List.length_append, List.length_singleton] at h
      rw [List.take_append_of_le_length (by omega)]
      obtain ⟨us', l', h'⟩ := ih i
      exact ⟨us', l', fun u hu => List.mem_cons_of_mem _ (h' u hu)⟩
    · rw [List.take_of_length_le h]
      exact ⟨v :: us, .snoc l hv hr e ld, fun u hu => hu⟩
theorem LW.few {n : Nat} {us : List (List Int)} {rows : Red} (l : LW n us rows) : rows.length ≤ n ∧ us.length = rows.length := by
  have nd := l.good.nd
  have := nd.length_le_of_subset (l₂ := List.range n) (fun c hc => by
    obtain ⟨q, hq, rfl⟩ := List.mem_map.1 hc
    have h1 := (l.ld q hq).2
    rcases Nat.lt_or_ge q.1 n with x | x
    · exact List.mem_range.2 x
    · exact absurd (fn_ge (by rw [l.rlen q hq]; exact x)) h1)
  refine ⟨by simpa using this, ?_⟩
  have := l.good.len
  simpa [csOf] using this
theorem W_bnd {n : Nat} {us : List (List Int)} {rows : Red} (l : LW n us rows) (hb : ∀ u ∈ us, ∀ x ∈ u, x.natAbs ≤ BB) {v : List Int} (hv : ∀ x ∈ v, x.natAbs ≤ BB) (hn : n ≤ 8) (j : Nat) : (W (us.map fn) (csOf rows) (fn v) j).natAbs < 2 ^ 4000 := by
  have f := l.few
  have := h_bnd (B := BB) (j :: csOf rows) (fn v :: us.map fn) (fun x hx j => by
    rcases List.mem_cons.1 hx with rfl | hx
    · exact fn_bnd hv j
    · obtain ⟨u, hu, rfl⟩ := List.mem_map.1 hx
      exact fn_bnd (hb u hu) j) (by simp [csOf, f.2])
  refine Nat.lt_of_le_of_lt this (mb_lt ?_)
  simp [csOf]; omega
theorem LW.rsm {n : Nat} {us : List (List Int)} {rows : Red} (l : LW n us rows) (hb : ∀ u ∈ us, ∀ x ∈ u, x.natAbs ≤ BB) (hn : n ≤ 8) : ∀ q ∈ rows, ∀ x ∈ q.2, Sm x := by
  induction l with
  | nil => intro q hq; cases hq
  | @snoc us rows v c r l hv hr e ld ih =>
    intro q hq
    rcases List.mem_append.1 hq with hq | hq
    · exact ih (fun u hu => hb u (List.mem_cons_of_mem _ hu)) q hq
    · rw [List.mem_singleton.1 hq]
      refine bnd_lt fun j => ?_
      rw [e j]
      exact W_bnd l (fun u hu => hb u (List.mem_cons_of_mem _ hu)) (hb v List.mem_cons_self) hn j
theorem lok_of {n : Nat} {us : List (List Int)} {rows : Red} (l : LW n us rows) (hb : ∀ u ∈ us, ∀ x ∈ u, x.natAbs ≤ BB) (hn : n ≤ 8) {v : List Int} (hl : v.length = n) (hv : ∀ x ∈ v, x.natAbs ≤ BB) : LOk n rows v where
  vl := hl
  rl := fun q hq => ⟨l.rlen q hq, by
    have h1 := (l.ld q hq).2
    rcases Nat.lt_or_ge q.1 n with x | x
    · exact x
    · exact absurd (fn_ge (by rw [l.rlen q hq]; exact x)) h1, l.rsm hb hn q hq⟩
  st := fun i hi => by
    obtain ⟨us', l', hs⟩ := l.take i
    obtain ⟨r1, r2, r3⟩ := l'.red hl
    have hb' : ∀ u ∈ us', ∀ x ∈ u, x.natAbs ≤ BB := fun u hu => hb u (hs u hu)
    refine ⟨r1, bnd_lt fun j => by rw [r2 j]; exact W_bnd l' hb' hv hn j, by rw [r3]; exact l'.good.ne, ?_⟩
    rw [r3]
    have f := l'.few
    have := h_bnd (B := BB) (csOf (rows.take i)) (us'.map fn) (fun x hx j => by
      obtain ⟨u, hu, rfl⟩ := List.mem_map.1 hx
      exact fn_bnd (hb' u hu) j) (by simp only [List.length_map, csOf, List.length_reverse]; exact f.2)
    refine Nat.lt_of_le_of_lt this (mb_lt ?_)
    have : (csOf (rows.take i)).length = (rows.take i).length := by simp [csOf]
    omega
theorem Vok.fold {n : Nat} {vs : List (List Int)} (h : Vok n vs) (hn : n ≤ 8) : (vs.foldl lwith []).length ≤ 8 ∧ ∀ v : List Int, v.length = n → (∀ x ∈ v, x.natAbs ≤ BB) → LOk n (vs.foldl lwith []) v := by
  obtain ⟨us, l, h1, _, _⟩ := LW.fold vs .nil h.len
  have hb : ∀ u ∈ us, ∀ x ∈ u, x.natAbs ≤ BB := fun u hu => by
    rcases h1 u hu with a | a
    · exact h.bnd u a
    · cases a
  exact ⟨by have := l.few; omega, fun v hl hv => lok_of l hb hn hl hv⟩
theorem Vok.take {n : Nat} {vs : List (List Int)} (h : Vok n vs) (i : Nat) : Vok n (vs.take i) := ⟨fun v hv => h.len v (List.mem_of_mem_take hv), fun v hv => h.bnd v (List.mem_of_mem_take hv)⟩
theorem Vok.snoc {n : Nat} {vs : List (List Int)} (h : Vok n vs) {v : List Int} (hl : v.length = n) (hv : ∀ x ∈ v, x.natAbs ≤ BB) : Vok n (vs ++ [v]) := ⟨fun u hu => by
  rcases List.mem_append.1 hu with a | a
  · exact h.len u a
  · rw [List.mem_singleton.1 a]; exact hl, fun u hu => by
  rcases List.mem_append.1 hu with a | a
  · exact h.bnd u a
  · rw [List.mem_singleton.1 a]; exact hv⟩
theorem dot_sum : ∀ (xs : List Int) (w : M.V), dot xs w = ((List.range xs.length).map fun k => fn xs k * w k).sum
  | [], w => rfl
  | x :: xs, w => by
    rw [List.length_cons, List.range_succ_eq_map, List.map_cons, List.sum_cons, List.map_map]
    simp only [dot]
    rw [dot_sum xs]
    rfl
end M

namespace M
open K35
/-! ### the balance -/
def frees (n : Nat) (rd : Red) : List Nat := (List.range n).filter fun c => !decide (((c : Nat) : Int) ∈ (rd.map fun q => ((q.1 : Nat) : Int)))
def freeOf (n : Nat) (rd : Red) : Nat := (frees n rd).getD 0 0
def balV (n : Nat) (rd : Red) : List Int := rd.foldl (fun f q => f.set q.1 (-(fn q.2 (freeOf n rd)) * (dvr rd).fdiv (fn q.2 q.1))) ((List.replicate n 0).set (freeOf n rd) (dvr rd))
theorem frees_mem {n : Nat} {rd : Red} {c : Nat} : c ∈ frees n rd ↔ c < n ∧ ∀ q ∈ rd, q.1 ≠ c := by
  unfold frees
  rw [List.mem_filter]
  simp only [List.mem_range, Bool.not_eq_true', decide_eq_false_iff_not, List.mem_map, not_exists, not_and]
  constructor
  · rintro ⟨h1, h2⟩
    exact ⟨h1, fun q hq e => h2 q hq (by rw [e])⟩
  · rintro ⟨h1, h2⟩
    exact ⟨h1, fun q hq e => h2 q hq (by omega)⟩
theorem free_ok {n : Nat} {rd : Red} (nd : (rd.map (·.1)).Nodup) (lt : ∀ q ∈ rd, q.1 < n) (hl : rd.length + 1 = n) : 0 < (frees n rd).length ∧ freeOf n rd < n ∧ (∀ q ∈ rd, q.1 ≠ freeOf n rd) ∧ ∀ c < n, c ≠ freeOf n rd → ∃ q ∈ rd, q.1 = c := by
  have ex : 0 < (frees n rd).length := by
    rcases Nat.eq_zero_or_pos (frees n rd).length with h | h
    · have e := List.eq_nil_of_length_eq_zero h
      have sub : ∀ c ∈ List.range n, c ∈ rd.map (·.1) := fun c hc => by
        by_cases hp : c ∈ rd.map (·.1)
        · exact hp
        · have : c ∈ frees n rd := frees_mem.2 ⟨List.mem_range.1 hc, fun q hq e => hp (by rw [← e]; exact List.mem_map_of_mem hq)⟩
          rw [e] at this; cases this
      have := List.nodup_range.length_le_of_subset sub
      simp at this; omega
    · exact h
  have hm : freeOf n rd ∈ frees n rd := by
    unfold freeOf
    exact List.mem_of_getElem? (Z.get_getD ex)
  obtain ⟨h1, h2⟩ := frees_mem.1 hm
  refine ⟨ex, h1, h2, fun c hc hne => ?_⟩
  by_cases hp : c ∈ rd.map (·.1)
  · obtain ⟨q, hq, e⟩ := List.mem_map.1 hp
    exact ⟨q, hq, e⟩
  · exfalso
    have nd2 : (c :: freeOf n rd :: rd.map (·.1)).Nodup := List.nodup_cons.2 ⟨fun h => by
      rcases List.mem_cons.1 h with h | h
      · exact hne h
      · exact hp h, List.nodup_cons.2 ⟨fun h => by
      obtain ⟨q, hq, e⟩ := List.mem_map.1 h
      exact h2 q hq e, nd⟩⟩
    have := nd2.length_le_of_subset (l₂ := List.range n) fun x hx => by
      rcases List.mem_cons.1 hx with rfl | hx
      · exact List.mem_range.2 hc
      · rcases List.mem_cons.1 hx with rfl | hx
        · exact List.mem_range.2 h1
        · obtain ⟨q, hq, rfl⟩ := List.mem_map.1 hx
          exact List.mem_range.2 (lt q hq)
    simp at this; omega
theorem dot_two (xs : List Int) (w : V) (p f : Nat) (hpf : p ≠ f) (h : ∀ i, i ≠ p → i ≠ f → fn xs i * w i = 0) : dot xs w = fn xs p * w p + fn xs f * w f := by
  have e : w = fun j => 1 * (if j = p then w j else 0) + 1 * (if j = p then 0 else w j) := by
    funext j
    by_cases hj : j = p <;> simp [hj]
  rw [e, dot_lin]
  rw [dot_one xs (fun j => if j = p then w j else 0) p (fun i hi => by simp [hi])]
  rw [dot_one xs (fun j => if j = p then 0 else w j) f (fun i hi => by
    by_cases hip : i = p
    · simp [hip]
    · simp only [if_neg hip]; exact h i hip hi)]
  simp [hpf, Ne.symm hpf]
theorem bal_ok {n : Nat} {vs us} {s : Red × List (List Int)} (I : Inv n vs n us s) (hl : s.1.length + 1 = n) :
    (balV n s.1).length = n ∧ fn (balV n s.1) (freeOf n s.1) = dvr s.1 ∧ 0 < dvr s.1 ∧ (∀ r ∈ vs, dot (balV n s.1) (fn r) = 0) ∧ ∀ k : Nat, (∀ x ∈ balV n s.1, k ∣ x.natAbs) → k = 1 := by
  have nd := Good.nd I.good
  obtain ⟨_, fr1, fr2, fr3⟩ := free_ok nd I.qc hl
  have ne : ∀ q ∈ s.1, fn q.2 q.1 ≠ 0 := fun q hq => (I.ld q hq).2
  obtain ⟨d0, _, d2, d4⟩ := lcmL_facts (s.1.map fun q => fn q.2 q.1) 1 (by decide) (fun x hx => by
    obtain ⟨q, hq, rfl⟩ := List.mem_map.1 hx
    exact ne q hq)
  have d2' : ∀ q ∈ s.1, fn q.2 q.1 ∣ dvr s.1 := fun q hq => d2 _ (List.mem_map.2 ⟨q, hq, rfl⟩)
  have d0' : 0 < dvr s.1 := d0
  have vl : (balV n s.1).length = n := by
    unfold balV
    rw [setf_len (val := fun q => -(fn q.2 (freeOf n s.1)) * (dvr s.1).fdiv (fn q.2 q.1))]; simp
  have v0 : fn (balV n s.1) (freeOf n s.1) = dvr s.1 := by
    have := setf_none (val := fun q => -(fn q.2 (freeOf n s.1)) * (dvr s.1).fdiv (fn q.2 q.1)) s.1 ((List.replicate n 0).set (freeOf n s.1) (dvr s.1)) (freeOf n s.1) fr2
    refine this.trans ?_
    rw [fn_set, if_pos ⟨rfl, by simpa using fr1⟩]
  have vq : ∀ q ∈ s.1, fn (balV n s.1) q.1 = -(fn q.2 (freeOf n s.1)) * (dvr s.1).fdiv (fn q.2 q.1) := fun q hq =>
    setf_some (val := fun q => -(fn q.2 (freeOf n s.1)) * (dvr s.1).fdiv (fn q.2 q.1)) s.1 _ q nd hq (by simpa using I.qc q hq)
  refine ⟨vl, v0, d0', fun r hr => ?_, fun k hk => ?_⟩
  · refine Qs.lin0 (fun w => dot (balV n s.1) w) (fun a b w w' => dot_lin a b _ w w') (fun x hx => ?_) (I.full r hr)
    obtain ⟨q, hq, rfl⟩ := List.mem_map.1 hx
    rw [dot_two _ _ q.1 (freeOf n s.1) (fr2 q hq) fun i h1 h2 => ?_]
    · rw [vq q hq, v0]
      obtain ⟨t, ht⟩ := d2' q hq
      have et : (dvr s.1).fdiv (fn q.2 q.1) = t := by rw [ht]; exact Int.mul_fdiv_cancel_left _ (ne q hq)
      rw [et, ht]; grind
    · rcases Nat.lt_or_ge i n with x | x
      · obtain ⟨q', hq', e⟩ := fr3 i x h2
        have := I.qz q hq q' hq' (by rw [e]; exact h1)
        rw [e] at this
        rw [this]; omega
      · rw [fn_ge (by omega)]; omega
  · have kd : ((k : Nat) : Int) ∣ dvr s.1 := by
      have := hk _ (fn_mem (r := balV n s.1) (j := freeOf n s.1) (by omega))
      rw [v0] at this
      exact Int.natAbs_dvd_natAbs.1 (by rw [Int.natAbs_natCast]; exact this)
    obtain ⟨D, hD⟩ := kd
    have k0 : (k : Int) ≠ 0 := fun h => by rw [h] at hD; omega
    have all : ∀ q ∈ s.1, fn q.2 q.1 ∣ D := fun q hq => by
      obtain ⟨t, ht⟩ := d2' q hq
      have et : (dvr s.1).fdiv (fn q.2 q.1) = t := by rw [ht]; exact Int.mul_fdiv_cancel_left _ (ne q hq)
      -- k divides t
      have h1 : k ∣ (fn q.2 (freeOf n s.1)).natAbs * t.natAbs := by
        have := hk _ (fn_mem (r := balV n s.1) (j := q.1) (by have := I.qc q hq; omega))
        rw [vq q hq, et, Int.natAbs_mul, Int.natAbs_neg] at this
        exact this
      have h2 : k ∣ (fn q.2 q.1).natAbs * t.natAbs := ⟨D.natAbs, by rw [← Int.natAbs_mul, ← ht, hD, Int.natAbs_mul, Int.natAbs_natCast]⟩
      have h3 : k ∣ t.natAbs := by
        have g := Nat.dvd_gcd h1 h2
        rw [Nat.gcd_mul_right] at g
        have pr := I.qp q hq (Nat.gcd (fn q.2 (freeOf n s.1)).natAbs (fn q.2 q.1).natAbs) (fun x hx => by
          obtain ⟨j, hj, rfl⟩ := mem_fn hx
          by_cases e1 : j = q.1
          · rw [e1]; exact Nat.gcd_dvd_right _ _
          · by_cases e2 : j = freeOf n s.1
            · rw [e2]; exact Nat.gcd_dvd_left _ _
            · obtain ⟨q', hq', e⟩ := fr3 j (by rw [I.ql q hq] at hj; exact hj) e2
              have := I.qz q hq q' hq' (by rw [e]; exact e1)
              rw [e] at this
              rw [this]; exact Nat.dvd_zero _)
        rcases pr with h | h
        · rw [h, Nat.one_mul] at g; exact g
        · exact absurd (h _ (fn_mem (by rw [I.ql q hq]; exact I.qc q hq))) (ne q hq)
      obtain ⟨u, hu⟩ : ((k : Nat) : Int) ∣ t := Int.natAbs_dvd_natAbs.1 (by rw [Int.natAbs_natCast]; exact h3)
      refine ⟨u, Int.eq_of_mul_eq_mul_left k0 ?_⟩
      rw [← hD, ht, hu]; grind
    have fin := d4 D ⟨D, by omega⟩ (fun x hx => by
      obtain ⟨q, hq, rfl⟩ := List.mem_map.1 hx
      exact all q hq)
    have fin : dvr s.1 ∣ D := fin
    have le := Nat.le_of_dvd (Int.natAbs_pos.2 (show D ≠ 0 from fun h => by rw [h] at hD; omega)) (Int.natAbs_dvd_natAbs.2 fin)
    have e : (dvr s.1).natAbs = k * D.natAbs := by rw [hD, Int.natAbs_mul, Int.natAbs_natCast]
    have dp : 0 < D.natAbs := Int.natAbs_pos.2 (fun h => by rw [h] at hD; omega)
    rcases Nat.lt_or_ge k 2 with hk2 | hk2
    · omega
    · have := Nat.mul_le_mul_right D.natAbs hk2
      omega
end M

namespace K35
open PySem PySem.Spec PyProof.Rows L2 Z StX M
local macro_rules | `(tactic| walk_at "sd") => `(tactic| first | decide | omega | assumption | rfl | (simp; done) | (simp only [List.length_map, List.length_cons, List.length_nil]; omega))
local macro_rules | `(tactic| walk_at "ev") => `(tactic| first
  | exact ee_int | exact ee_strX (by decide +kernel) | exact ee_str | exact ee_bl | exact ee_non
  | exact ee_var rfl
  | (refine' ee_add ?e1 ?e2; (case e1 => walk_at "ev"); (case e2 => walk_at "ev"))
  | (refine' ee_sub ?e1 ?e2; (case e1 => walk_at "ev"); (case e2 => walk_at "ev"))
  | (refine' ee_mul ?e1 ?e2 ?e3; (case e1 => walk_at "ev"); (case e2 => walk_at "ev"); (case e3 => walk_at "cm"))
  | (refine' ee_div ?e1 ?e2 ?e3; (case e1 => walk_at "ev"); (case e2 => walk_at "ev"); (case e3 => exact ⟨by decide, by decide⟩))
  | (refine' ee_mod ?e1 ?e2 ?e3; (case e1 => walk_at "ev"); (case e2 => walk_at "ev"); (case e3 => walk_at "sd"))
  | (refine' ee_powR ?e1 ?e2 ?e3 ?e4; (case e1 => walk_at "ev"); (case e2 => walk_at "ev"); (case e3 => exact ⟨by decide, by decide, by decide⟩); (case e4 => rfl))
  | (refine' ee_intI ?e1; (case e1 => walk_at "ev"))
  | (refine' ee_intB ?e1; (case e1 => walk_at "ev"))
  | (refine' ee_lenL ?e1; (case e1 => walk_at "ev"))
  | (refine' ee_lenX ?e1 ?e2; (case e1 => walk_at "ev"); (case e2 => walk_at "sz"))
  | (refine' ee_lenS ?e1 ?e2; (case e1 => walk_at "ev"); (case e2 => walk_at "sz"))
  | (refine' ee_lenT ?e1; (case e1 => walk_at "ev"))
  | (refine' ee_lt ?e1 ?e2; (case e1 => walk_at "ev"); (case e2 => walk_at "ev")) | (refine' ee_le ?e1 ?e2; (case e1 => walk_at "ev"); (case e2 => walk_at "ev")) | (refine' ee_gt ?e1 ?e2; (case e1 => walk_at "ev"); (case e2 => walk_at "ev")) | (refine' ee_ge ?e1 ?e2; (case e1 => walk_at "ev"); (case e2 => walk_at "ev"))
  | (refine' ee_eqI ?e1 ?e2; (case e1 => walk_at "ev"); (case e2 => walk_at "ev")) | (refine' ee_eqS ?e1 ?e2; (case e1 => walk_at "ev"); (case e2 => walk_at "ev")) | (refine' ee_eqB ?e1 ?e2; (case e1 => walk_at "ev"); (case e2 => walk_at "ev"))
  | (refine' ee_neI ?e1 ?e2; (case e1 => walk_at "ev"); (case e2 => walk_at "ev")) | (refine' ee_neS ?e1 ?e2; (case e1 => walk_at "ev"); (case e2 => walk_at "ev"))
  | (refine' ee_neg ?e1; (case e1 => walk_at "ev"))
  | (refine' ee_max2 ?e1 ?e2; (case e1 => walk_at "ev"); (case e2 => walk_at "ev")) | (refine' ee_min2 ?e1 ?e2; (case e1 => walk_at "ev"); (case e2 => walk_at "ev"))
  | (refine' ee_eqX ?e1 ?e2; (case e1 => walk_at "ev"); (case e2 => walk_at "ev")) | (refine' ee_neX ?e1 ?e2; (case e1 => walk_at "ev"); (case e2 => walk_at "ev"))
  | (refine' ee_inX ?e1 ?e2; (case e1 => walk_at "ev"); (case e2 => walk_at "ev")) | (refine' ee_ninX ?e1 ?e2; (case e1 => walk_at "ev"); (case e2 => walk_at "ev"))
  | (refine' ee_startsX ?e1 ?e2; (case e1 => walk_at "ev"); (case e2 => walk_at "ev"))
  | (refine' ee_catX ?e1 ?e2 ?e3; (case e1 => walk_at "ev"); (case e2 => walk_at "ev"); (case e3 => walk_at "sz"))
  | (refine' ee_slX ?e1 ?e2 ?e3 ?e4; (case e1 => walk_at "ev"); (case e2 => walk_at "evo"); (case e3 => walk_at "evo"); (case e4 => walk_at "sz"))
  | (refine' ee_inS ?e1 ?e2; (case e1 => walk_at "ev"); (case e2 => walk_at "ev")) | (refine' ee_ninS ?e1 ?e2; (case e1 => walk_at "ev"); (case e2 => walk_at "ev"))
  | (refine' ee_startswith ?e1 ?e2; (case e1 => walk_at "ev"); (case e2 => walk_at "ev"))
  | (refine' ee_notV ?e1; (case e1 => walk_at "ev"))
  | (refine' ee_catS ?e1 ?e2 ?e3; (case e1 => walk_at "ev"); (case e2 => walk_at "ev"); (case e3 => walk_at "sz"))
  | (refine' (en_lst ?e1 ?e2).ee; (case e1 => walk_at "eva"); (case e2 => walk_at "sd"))
  | (refine' ee_tup ?e1 ?e2; (case e1 => walk_at "eva"); (case e2 => walk_at "sd"))
  | (refine' (en_slL ?e1 ?e2 ?e3).ee; (case e1 => walk_at "ev"); (case e2 => walk_at "evo"); (case e3 => walk_at "evo"))
  | (refine' ee_slS ?e1 ?e2 ?e3 ?e4; (case e1 => walk_at "ev"); (case e2 => walk_at "evo"); (case e3 => walk_at "evo"); (case e4 => walk_at "sz"))
  | (refine' (en_listL ?e1).ee; (case e1 => walk_at "ev"))
  | (refine' (en_listT ?e1).ee; (case e1 => walk_at "ev"))
  | (refine' ee_tupL ?e1; (case e1 => walk_at "ev"))
  | (refine' ee_tupT ?e1; (case e1 => walk_at "ev")))
local macro_rules | `(tactic| walk_at "eva") => `(tactic| first | exact ea_nil | (refine' ea_cons ?e1 ?e2; (case e1 => walk_at "ev"); (case e2 => walk_at "eva")))
local macro_rules | `(tactic| walk_at "evo") => `(tactic| first | exact eo_none | (refine' eo_some ?e1; (case e1 => walk_at "ev")))
local macro_rules | `(tactic| walk_at "evt") => `(tactic| first
  | (refine' et_test ?e1; (case e1 => walk_at "ev")) | (refine' et_B ?e1; (case e1 => walk_at "ev")) | (refine' et_not ?e1; (case e1 => walk_at "evt"))
  | (refine' et_and ?e1 ?e2; (case e1 => walk_at "evt"); (case e2 => (intro _; walk_at "evt")))
  | (refine' et_or ?e1 ?e2; (case e1 => walk_at "evt"); (case e2 => (intro _; walk_at "evt"))))
local macro_rules | `(tactic| walk_at "sub") => `(tactic| first | exact Sub.refl _ | (refine sub_cons ?_; walk_at "sub") | (refine sub_no ?_; walk_at "sub"))
local macro_rules | `(tactic| walk_at "cm") => `(tactic| first | exact Or.inr ⟨by omega, by omega⟩ | exact Or.inl ⟨by omega, by omega⟩)
local macro_rules | `(tactic| walk_at "evi") => `(tactic| (refine' EvE.is ?h ?e; (case h => walk_at "ev"); (case e => first | rfl | (congr 1; done) | skip)))
local macro_rules | `(tactic| walk_at "sz") => `(tactic| first | assumption | omega | (simp; omega) | (simp only [List.length_append, List.length_map, List.length_cons, List.length_nil]; omega))

section
variable {K : PySem.W.Frag} {env : List Z.Slot} {ta tb te tc : TE} {d d1 d2 : D}
theorem inV_ints (i : Int) : ∀ ns : List Int, inV (.int i) (ns.map L2.V.int) = decide (i ∈ ns)
  | [] => by simp [inV]
  | x :: ns => by
    have := inV_ints i ns
    unfold inV at this ⊢
    rw [List.map_cons, List.any_cons, this]
    by_cases h : x = i
    · subst h; simp [eqV]
    · have h' : ¬ i = x := fun e => h e.symm
      simp [eqV, h, h']
theorem flat_ints : ∀ ns : List Int, (ns.map L2.V.int).all flatV = true
  | [] => rfl
  | x :: ns => by rw [List.map_cons, List.all_cons, flat_ints ns]; rfl
theorem ee_ninI {i : Int} {ns : List Int} (h1 : EvE K ta env (.int i)) (h2 : EvE K tb env (.lst (ns.map .int))) : EvE K (tOp (rIn K true) ta tb) env (.bl (!decide (i ∈ ns))) := ee_op h1 h2 fun B F x y hf r1 r2 Q q => by
  unfold Rep at r1 r2; subst r1
  obtain ⟨a, ws, rfl, e1, e2⟩ := r2
  have := e2.ints
  subst this
  refine ⟨a, _, rfl, .inl (hf.seq e1), rfl, flat_ints ns, ?_⟩
  rw [inV_ints]
  exact q B F _ (Gr.refl hf) (rp_bl B)
end
def nzs (v : List Int) : List Int := v.filter fun x => !decide (x = 0)
def bal (n : Nat) (rd : Red) : List Int := if decide (fn (nzs (balV n rd)) 0 < 0) = true then (balV n rd).map fun x => -x else balV n rd
structure BalOk (vs : List (List Int)) (n : Nat) : Prop where
  n0 : vs.length = n
  nb : n ≤ 900
  sm : Small vs n n
  nd : ((red vs n).1.map (·.1)).Nodup
  lt : ∀ q ∈ (red vs n).1, q.1 < n
  ne : ∀ q ∈ (red vs n).1, fn q.2 q.1 ≠ 0
  hl : (red vs n).1.length + 1 = n
  dv : ∀ i, W9 ((((red vs n).1.map fun q => fn q.2 q.1).take i).foldl lcmF 1)
  vl : (balV n (red vs n).1).length = n
  v0 : fn (balV n (red vs n).1) (freeOf n (red vs n).1) = dvr (red vs n).1
  d0 : 0 < dvr (red vs n).1
def R_bal : List D → List D → Prop := fun ds r => ∃ (b b' : Bool) (vs : List (List Int)) (n : Nat), ds = [sq b b' vs] ∧ BalOk vs n ∧ r = (bal n (red vs n).1).map .int
theorem log_le {a b : Int} (hb : b ≠ 0) (h : a.natAbs ≤ b.natAbs) : a.natAbs.log2 ≤ b.natAbs.log2 := by
  have h1 : b.natAbs < 2 ^ (b.natAbs.log2 + 1) := Nat.lt_log2_self
  exact Nat.le_of_lt_succ (log_lt (Nat.succ_pos _) (Nat.lt_of_le_of_lt h h1))
section
variable {P : Program} {w : World} {K : PySem.W.Frag} {mg : Str → Option Value} {base : Heap} {f : Addr} {fd : FuncData}
theorem ok_balance (F : Fun K "balance" "balance" s_balance f fd) (T : Txt mg) (C__common_multiple : Cal P w K mg base "_common_multiple" 1 ["numbers"] (spR K R_lcm)) (C__reduced : Cal P w K mg base "_reduced" 3 ["vectors", "width"] (spR K R_red)) :
    FnOk P w K mg base CX0 4 f fd ["matrix"] (spN K R_bal) := by
  refine ok_defN F sc_balance (fun ds r h => by obtain ⟨b, b', vs, n, rfl, _⟩ := h; rfl) (fun cdv A outer s H E hr => ⟨_, (pss_cons (ps_set (i := 1) sc_balance.nd rfl (Or.inl rfl) (pe_cal (C__reduced.mono (by decide)) hr (by rfl) (pa_cons (pv 0) (pa_cons (pe_callB (k_call_len K) (by rfl) T.n_len (by decide +kernel) (pa_cons (pv 0) pa_nil)) pa_nil))))
    (pss_cons (ps_set (i := 2) sc_balance.nd rfl (Or.inr rfl) (pe_lc (own := [("pivot", 6), ("_", 8)]) rfl sc_balance.nd (k_pi_list K (pv 1)) (blkOk_by (N := N_balance) (sc := defScope s_balance) (by decide +kernel)) (fun _ _ _ _ _ => (k_pg_tup K (n := 2) rfl (pgs_cons (pg_name (i := 6) sc_balance.nd rfl (Or.inl rfl)) (pgs_cons (pg_name (i := 8) sc_balance.nd rfl (Or.inl rfl)) pgs_nil)))) (fun _ _ _ _ _ => pts_nil) (fun _ _ _ _ _ => (pv 6))))
    (pss_cons (ps_set (i := 3) sc_balance.nd rfl (Or.inl rfl) (pe_ix (k_ix_list K) (pe_lc (own := [("column", 9)]) rfl sc_balance.nd (pi_range1 (by rfl) T.n_range (pa_cons (pe_callB (k_call_len K) (by rfl) T.n_len (by decide +kernel) (pa_cons (pv 0) pa_nil)) pa_nil)) (blkOk_by (N := N_balance) (sc := defScope s_balance) (by decide +kernel)) (fun _ _ _ _ _ => (pg_name (i := 9) sc_balance.nd rfl (Or.inl rfl))) (fun _ _ _ _ _ => (pts_one (pt_cmpR (k_notIn_seq K) (pv 9) (pv 2) (by with_unfolding_all rfl)))) (fun _ _ _ _ _ => (pv 9))) pe_int (fun _ _ => rfl)))
    (pss_cons (ps_set (i := 4) sc_balance.nd rfl (Or.inl rfl) (pe_cal (C__common_multiple.mono (by decide)) hr (by rfl) (pa_cons (pe_lc (own := [("pivot", 6), ("row", 7)]) rfl sc_balance.nd (k_pi_list K (pv 1)) (blkOk_by (N := N_balance) (sc := defScope s_balance) (by decide +kernel)) (fun _ _ _ _ _ => (k_pg_tup K (n := 2) rfl (pgs_cons (pg_name (i := 6) sc_balance.nd rfl (Or.inl rfl)) (pgs_cons (pg_name (i := 7) sc_balance.nd rfl (Or.inl rfl)) pgs_nil)))) (fun _ _ _ _ _ => pts_nil) (fun _ _ _ _ _ => (pe_ix (k_ix_list K) (pv 7) (pv 6) (fun _ _ => rfl)))) pa_nil)))
    (pss_cons (ps_setLc (i := 5) (hy := rfl) (hyl := rfl) (hsw := sw_true rfl rfl rfl (by decide +kernel)) (own := [("_", 8)]) rfl sc_balance.nd (k_pi_seq K (pv 0)) (blkOk_by (N := N_balance) (sc := defScope s_balance) (by decide +kernel)) (fun _ _ _ _ _ => (pg_name (i := 8) sc_balance.nd rfl (Or.inl rfl))) (fun _ _ _ _ _ => pts_nil) (fun _ _ _ _ _ => pe_int))
    (pss_cons (ps_asg (pv 4) (pg_sub (pv 5) (pv 3) set_list))
    (pss_cons (ps_for PassesOwn.never rfl (k_pi_list K (pv 1)) (k_pg_tup K (n := 2) rfl (pgs_cons (pg_name (i := 6) sc_balance.nd rfl (Or.inl rfl)) (pgs_cons (pg_name (i := 7) sc_balance.nd rfl (Or.inl rfl)) pgs_nil)))
    (pss_one (ps_asg (pe_op op_mulW (pe_un un_neg (pe_ix (k_ix_list K) (pv 7) (pv 3) (fun _ _ => rfl))) (pe_op op_fdvX (pv 4) (pe_ix (k_ix_list K) (pv 7) (pv 6) (fun _ _ => rfl)))) (pg_sub (pv 5) (pv 6) set_list))))
    (pss_cons (ps_if (pt_cmpR op_lt (pe_ix (k_ix_list K) (pe_lc (own := [("number", 10)]) rfl sc_balance.nd (k_pi_list K (pv 5)) (blkOk_by (N := N_balance) (sc := defScope s_balance) (by decide +kernel)) (fun _ _ _ _ _ => (pg_name (i := 10) sc_balance.nd rfl (Or.inl rfl))) (fun _ _ _ _ _ => (pts_one (pt_cmpR op_ne (pv 10) pe_int (nomark _)))) (fun _ _ _ _ _ => (pv 10))) pe_int (fun _ _ => rfl)) pe_int (nomark _)) (pss_one (ps_ret (pe_lc (own := [("number", 10)]) rfl sc_balance.nd (k_pi_list K (pv 5)) (blkOk_by (N := N_balance) (sc := defScope s_balance) (by decide +kernel)) (fun _ _ _ _ _ => (pg_name (i := 10) sc_balance.nd rfl (Or.inl rfl))) (fun _ _ _ _ _ => pts_nil) (fun _ _ _ _ _ => (pe_un un_neg (pv 10)))))) pss_nil)
    (pss_one (ps_ret (pv 5))))))))))), fun ds r h H0 H1 E' hrt => ?_⟩)
  obtain ⟨b, b', vs, n, rfl, ok, rfl⟩ := h
  have hvl := ok.n0
  have hnb := ok.nb
  refine q_asg (d := .lst ((red vs n).1.map rdD)) (ee_call (ea_cons (ee_var rfl) (ea_cons (d := .int (n : Int)) (EvE.is (ee_lenQ (b := b) (ds := vs.map fun v => seqD b' (v.map .int)) (ee_var rfl)) (by rw [List.length_map, hvl])) ea_nil)) ⟨b, b', vs, n, n, rfl, by omega, by omega, ok.sm, rfl⟩) ?_
  have qlen := (ok.sm.len (Nat.le_refl _)).2.1
  have qsm := (ok.sm.2.2 n (Nat.le_refl _)).2
  have nd := ok.nd
  have lt := ok.lt
  have ne := ok.ne
  have hl := ok.hl
  have dv := ok.dv
  have vl := ok.vl
  have v0 := ok.v0
  have d0 := ok.d0
  clear ok
  have bdef : bal n (red vs n).1 = if decide (fn (nzs (balV n (red vs n).1)) 0 < 0) = true then (balV n (red vs n).1).map fun x => -x else balV n (red vs n).1 := rfl
  generalize (red vs n).1 = rd at *
  obtain ⟨fx, fr1, fr2, fr3⟩ := free_ok nd lt hl
  refine q_asg (d := .lst ((rd.map fun q => ((q.1 : Nat) : Int)).map .int)) ?_ ?_
  · rw [List.map_map]
    exact (en_lcM (rep := rdD) (fun q => [(6, .int (q.1 : Int)), (8, il q.2)]) (D.int ∘ fun q => ((q.1 : Nat) : Int)) (ei_list (ee_var rfl)) (by omega) (fun q hq => eg_tup (egs_cons (egs_cons egs_nil)) rfl) (fun q hq j hj => by simp at hj; rcases hj with rfl | rfl <;> decide) (fun q hq => ee_var rfl)).ee
  refine q_asg (d := .int ((freeOf n rd : Nat) : Int)) (ee_ixL (ds := (frees n rd).map fun (c : Nat) => D.int (c : Int)) (en_lc1F (rep := fun (c : Nat) => D.int (c : Int)) (fun c => !decide (((c : Nat) : Int) ∈ (rd.map fun q => ((q.1 : Nat) : Int)))) (fun c => D.int (c : Int)) (xs := List.range n) (ei_rngN (EvE.is (ee_lenQ (b := b) (ds := vs.map fun v => seqD b' (v.map .int)) (ee_var rfl)) (by rw [List.length_map, hvl])) (by omega)) (by simp) (by simp; omega) (fun c hc => et_test (ee_ninI (ee_var rfl) (ee_var rfl))) (fun c hc _ => ee_var rfl)).ee ee_int ?_) ?_
  · have : (frees n rd)[0]? = some (freeOf n rd) := get_getD fx
    exact atI_nat (j := 0) (by rw [List.getElem?_map, this]; rfl)
  have dW : W9 (dvr rd) := by
    have := dv (rd.map fun q => fn q.2 q.1).length
    rw [List.take_length] at this; exact this
  refine q_asg (d := .int (dvr rd)) (ee_call (ea_cons (d := il (rd.map fun q => fn q.2 q.1)) ?_ ea_nil) ⟨_, rfl, by simp; omega, fun x hx => ?_, dv, rfl⟩) ?_
  · have ee : il (rd.map fun q => fn q.2 q.1) = .lst (rd.map (D.int ∘ fun q => fn q.2 q.1)) := by
      show D.lst (List.map _ (List.map _ _)) = _
      rw [List.map_map]
    rw [ee]
    exact (en_lcM (rep := rdD) (fun q => [(6, .int (q.1 : Int)), (7, il q.2)]) (D.int ∘ fun q => fn q.2 q.1) (ei_list (ee_var rfl)) (by omega) (fun q hq => eg_tup (egs_cons (egs_cons egs_nil)) rfl) (fun q hq j hj => by simp at hj; rcases hj with rfl | rfl <;> decide) (fun q hq => ee_ixL (ee_var rfl) (ee_var rfl) (at_il (by rw [qlen q hq]; exact lt q hq)))).ee
  · obtain ⟨q, hq, rfl⟩ := List.mem_map.1 hx
    exact Nat.lt_trans (Sm.log (Sm.fn (qsm q hq) _)) (by decide)
  refine q_own (ds := (List.replicate n (0 : Int)).map .int) ?_ ?_
  · have e : (List.replicate n (0 : Int)).map D.int = vs.map fun _ => D.int 0 := by simp [List.map_const', hvl]
    rw [e]
    exact en_lc1 (rep := fun v : List Int => seqD b' (v.map .int)) (w := fun _ => D.int 0) (ei_seq (b := b) (ee_var rfl)) (by simp) (by omega) (fun v hv => ee_int)
  refine q_setL (i := 5) (k := freeOf n rd) (d := .int (dvr rd)) rfl (ee_var rfl) (ee_var rfl) (by simpa using fr1) ?_
  rw [← List.map_set]
  have ddv : ∀ q ∈ rd, fn q.2 q.1 ∣ dvr rd := fun q hq => by
    obtain ⟨_, _, d2, _⟩ := lcmL_facts (rd.map fun q => fn q.2 q.1) 1 (by decide) (fun x hx => by
      obtain ⟨q, hq, rfl⟩ := List.mem_map.1 hx
      exact ne q hq)
    exact d2 _ (List.mem_map.2 ⟨q, hq, rfl⟩)
  refine q_for (ds := rd.map rdD) (fun i => [.val (sq b b' vs), .val (.lst (rd.map rdD)), .val (.lst ((rd.map fun q => ((q.1 : Nat) : Int)).map .int)), .val (.int ((freeOf n rd : Nat) : Int)), .val (.int (dvr rd)), .own (((rd.take i).foldl (fun f q => f.set q.1 (-(fn q.2 (freeOf n rd)) * (dvr rd).fdiv (fn q.2 q.1))) ((List.replicate n 0).set (freeOf n rd) (dvr rd))).map .int), .no, .no, .no, .no, .no])
    (fun i => [(6, .int (((rd.getD i (0, [])).1 : Nat) : Int)), (7, il (rd.getD i (0, [])).2)]) (ei_list (ee_var rfl)) (by walk_at "sub") (fun i d hd => ?_) (fun i hi G0 E2 hr2 hb2 hn' hc => ?_) ?_
  · have hi : i < rd.length := by have := (List.getElem?_eq_some_iff.mp hd).1; simpa using this
    have e : d = rdD (rd.getD i (0, [])) := by
      rw [List.getElem?_map, List.getElem?_eq_getElem hi] at hd
      simp [List.getD_eq_getElem?_getD, hi] at hd ⊢
      exact hd.symm
    rw [e]
    exact eg_tup (egs_cons (egs_cons egs_nil)) rfl
  · have hi : i < rd.length := by simpa using hi
    have eq : rd[i]? = some (rd.getD i (0, [])) := get_getD hi
    have hq : rd.getD i (0, []) ∈ rd := List.mem_of_getElem? eq
    generalize rd.getD i (0, []) = q at *
    obtain ⟨t, ht⟩ := ddv q hq
    have hne := ne q hq
    have et : (dvr rd).fdiv (fn q.2 q.1) = t := by rw [ht]; exact Int.mul_fdiv_cancel_left _ hne
    have tle : t.natAbs ≤ (dvr rd).natAbs := by
      rw [ht, Int.natAbs_mul]
      exact Nat.le_mul_of_pos_left _ (Int.natAbs_pos.2 hne)
    have tlog := log_le (by omega) tle
    have s1 := (Sm.fn (qsm q hq) q.1).log
    have s2 := (Sm.fn (qsm q hq) (freeOf n rd)).log
    refine go_setL (k := q.1) (d := .int (-(fn q.2 (freeOf n rd)) * (dvr rd).fdiv (fn q.2 q.1))) rfl (ee_mulW (ee_neg (ee_ixL (ee_var rfl) (ee_var rfl) (at_il (by rw [qlen q hq]; exact fr1)))) (ee_fdv (ee_var rfl) (ee_ixL (ee_var rfl) (ee_var rfl) (at_il (by rw [qlen q hq]; exact lt q hq))) ⟨hne, by omega⟩) ?_) (ee_var rfl) ?_ (nx_sub ?_ hn')
    · rw [et]; unfold CMulW
      have : (dvr rd).natAbs.log2 < 9000 := dW
      rw [Int.natAbs_neg]
      omega
    · rw [List.length_map, setf_len (val := fun q => -(fn q.2 (freeOf n rd)) * (dvr rd).fdiv (fn q.2 q.1))]; simp; exact lt q hq
    · rw [List.take_add_one, eq, List.foldl_append, ← List.map_set]
      walk_at "sub"
  have efull : ((rd.take (rd.map rdD).length).foldl (fun f q => f.set q.1 (-(fn q.2 (freeOf n rd)) * (dvr rd).fdiv (fn q.2 q.1))) ((List.replicate n 0).set (freeOf n rd) (dvr rd))) = balV n rd := by rw [List.length_map, List.take_length]; rfl
  rw [efull]
  generalize balV n rd = v at *
  have nzm : 0 < (nzs v).length := by
    refine List.length_pos_of_mem (a := fn v (freeOf n rd)) ?_
    unfold nzs
    rw [List.mem_filter]
    exact ⟨fn_mem (by omega), by rw [v0]; simp; omega⟩
  refine q_leave (b := decide (fn (nzs v) 0 < 0)) (et_peek 5 rfl (et_test (ee_lt (ee_ixL (ds := (nzs v).map D.int) (en_lc1F (rep := D.int) (fun x => !decide (x = 0)) (fun x => D.int x) (ei_list (ee_var rfl)) (by simp) (by omega) (fun x hx => et_test (ee_neI (ee_var rfl) ee_int)) (fun x hx _ => ee_var rfl)).ee ee_int (at_il (c := 0) nzm)) ee_int))) (fun h => ?_) (fun h => ?_)
  · rw [bdef, if_pos h, List.map_map] at hrt
    refine q_freeze 5 rfl ?_
    exact go_retN (en_lc1 (rep := D.int) (w := D.int ∘ fun x => -x) (ei_list (ee_var rfl)) (by simp) (by omega) (fun x hx => ee_neg (ee_var rfl))) hrt
  · rw [bdef, if_neg (by rw [h]; decide)] at hrt
    exact go_retO 5 rfl hrt
end
end K35

namespace K35
open PySem PySem.Spec PyProof.Rows L2 Z StX M
local macro_rules | `(tactic| walk_at "sd") => `(tactic| first | decide | omega | assumption | rfl | (simp; done) | (simp only [List.length_map, List.length_cons, List.length_nil]; omega))
local macro_rules | `(tactic| walk_at "ev") => `(tactic| first
  | exact ee_int | exact ee_strX (by decide +kernel) | exact ee_str | exact ee_bl | exact ee_non
  | exact ee_var rfl
  | (refine' ee_add ?e1 ?e2; (case e1 => walk_at "ev"); (case e2 => walk_at "ev"))
  | (refine' ee_sub ?e1 ?e2; (case e1 => walk_at "ev"); (case e2 => walk_at "ev"))
  | (refine' ee_mul ?e1 ?e2 ?e3; (case e1 => walk_at "ev"); (case e2 => walk_at "ev"); (case e3 => walk_at "cm"))
  | (refine' ee_div ?e1 ?e2 ?e3; (case e1 => walk_at "ev"); (case e2 => walk_at "ev"); (case e3 => exact ⟨by decide, by decide⟩))
  | (refine' ee_mod ?e1 ?e2 ?e3; (case e1 => walk_at "ev"); (case e2 => walk_at "ev"); (case e3 => walk_at "sd"))
  | (refine' ee_powR ?e1 ?e2 ?e3 ?e4; (case e1 => walk_at "ev"); (case e2 => walk_at "ev"); (case e3 => exact ⟨by decide, by decide, by decide⟩); (case e4 => rfl))
  | (refine' ee_intI ?e1; (case e1 => walk_at "ev"))
  | (refine' ee_intB ?e1; (case e1 => walk_at "ev"))
  | (refine' ee_lenL ?e1; (case e1 => walk_at "ev"))
  | (refine' ee_lenX ?e1 ?e2; (case e1 => walk_at "ev"); (case e2 => walk_at "sz"))
  | (refine' ee_lenS ?e1 ?e2; (case e1 => walk_at "ev"); (case e2 => walk_at "sz"))
  | (refine' ee_lenT ?e1; (case e1 => walk_at "ev"))
  | (refine' ee_lt ?e1 ?e2; (case e1 => walk_at "ev"); (case e2 => walk_at "ev")) | (refine' ee_le ?e1 ?e2; (case e1 => walk_at "ev"); (case e2 => walk_at "ev")) | (refine' ee_gt ?e1 ?e2; (case e1 => walk_at "ev"); (case e2 => walk_at "ev")) | (refine' ee_ge ?e1 ?e2; (case e1 => walk_at "ev"); (case e2 => walk_at "ev"))
  | (refine' ee_eqI ?e1 ?e2; (case e1 => walk_at "ev"); (case e2 => walk_at "ev")) | (refine' ee_eqS ?e1 ?e2; (case e1 => walk_at "ev"); (case e2 => walk_at "ev")) | (refine' ee_eqB ?e1 ?e2; (case e1 => walk_at "ev"); (case e2 => walk_at "ev"))
  | (refine' ee_neI ?e1 ?e2; (case e1 => walk_at "ev"); (case e2 => walk_at "ev")) | (refine' ee_neS ?e1 ?e2; (case e1 => walk_at "ev"); (case e2 => walk_at "ev"))
  | (refine' ee_neg ?e1; (case e1 => walk_at "ev"))
  | (refine' ee_max2 ?e1 ?e2; (case e1 => walk_at "ev"); (case e2 => walk_at "ev")) | (refine' ee_min2 ?e1 ?e2; (case e1 => walk_at "ev"); (case e2 => walk_at "ev"))
  | (refine' ee_eqX ?e1 ?e2; (case e1 => walk_at "ev"); (case e2 => walk_at "ev")) | (refine' ee_neX ?e1 ?e2; (case e1 => walk_at "ev"); (case e2 => walk_at "ev"))
  | (refine' ee_inX ?e1 ?e2; (case e1 => walk_at "ev"); (case e2 => walk_at "ev")) | (refine' ee_ninX ?e1 ?e2; (case e1 => walk_at "ev"); (case e2 => walk_at "ev"))
  | (refine' ee_startsX ?e1 ?e2; (case e1 => walk_at "ev"); (case e2 => walk_at "ev"))
  | (refine' ee_catX ?e1 ?e2 ?e3; (case e1 => walk_at "ev"); (case e2 => walk_at "ev"); (case e3 => walk_at "sz"))
  | (refine' ee_slX ?e1 ?e2 ?e3 ?e4; (case e1 => walk_at "ev"); (case e2 => walk_at "evo"); (case e3 => walk_at "evo"); (case e4 => walk_at "sz"))
  | (refine' ee_inS ?e1 ?e2; (case e1 => walk_at "ev"); (case e2 => walk_at "ev")) | (refine' ee_ninS ?e1 ?e2; (case e1 => walk_at "ev"); (case e2 => walk_at "ev"))
  | (refine' ee_startswith ?e1 ?e2; (case e1 => walk_at "ev"); (case e2 => walk_at "ev"))
  | (refine' ee_notV ?e1; (case e1 => walk_at "ev"))
  | (refine' ee_catS ?e1 ?e2 ?e3; (case e1 => walk_at "ev"); (case e2 => walk_at "ev"); (case e3 => walk_at "sz"))
  | (refine' (en_lst ?e1 ?e2).ee; (case e1 => walk_at "eva"); (case e2 => walk_at "sd"))
  | (refine' ee_tup ?e1 ?e2; (case e1 => walk_at "eva"); (case e2 => walk_at "sd"))
  | (refine' (en_slL ?e1 ?e2 ?e3).ee; (case e1 => walk_at "ev"); (case e2 => walk_at "evo"); (case e3 => walk_at "evo"))
  | (refine' ee_slS ?e1 ?e2 ?e3 ?e4; (case e1 => walk_at "ev"); (case e2 => walk_at "evo"); (case e3 => walk_at "evo"); (case e4 => walk_at "sz"))
  | (refine' (en_listL ?e1).ee; (case e1 => walk_at "ev"))
  | (refine' (en_listT ?e1).ee; (case e1 => walk_at "ev"))
  | (refine' ee_tupL ?e1; (case e1 => walk_at "ev"))
  | (refine' ee_tupT ?e1; (case e1 => walk_at "ev")))
local macro_rules | `(tactic| walk_at "eva") => `(tactic| first | exact ea_nil | (refine' ea_cons ?e1 ?e2; (case e1 => walk_at "ev"); (case e2 => walk_at "eva")))
local macro_rules | `(tactic| walk_at "evo") => `(tactic| first | exact eo_none | (refine' eo_some ?e1; (case e1 => walk_at "ev")))
local macro_rules | `(tactic| walk_at "evt") => `(tactic| first
  | (refine' et_test ?e1; (case e1 => walk_at "ev")) | (refine' et_B ?e1; (case e1 => walk_at "ev")) | (refine' et_not ?e1; (case e1 => walk_at "evt"))
  | (refine' et_and ?e1 ?e2; (case e1 => walk_at "evt"); (case e2 => (intro _; walk_at "evt")))
  | (refine' et_or ?e1 ?e2; (case e1 => walk_at "evt"); (case e2 => (intro _; walk_at "evt"))))
local macro_rules | `(tactic| walk_at "sub") => `(tactic| first | exact Sub.refl _ | (refine sub_cons ?_; walk_at "sub") | (refine sub_no ?_; walk_at "sub"))
local macro_rules | `(tactic| walk_at "cm") => `(tactic| first | exact Or.inr ⟨by omega, by omega⟩ | exact Or.inl ⟨by omega, by omega⟩)
local macro_rules | `(tactic| walk_at "evi") => `(tactic| (refine' EvE.is ?h ?e; (case h => walk_at "ev"); (case e => first | rfl | (congr 1; done) | skip)))
local macro_rules | `(tactic| walk_at "sz") => `(tactic| first | assumption | omega | (simp; omega) | (simp only [List.length_append, List.length_map, List.length_cons, List.length_nil]; omega))

section
variable {K : PySem.W.Frag} {env : List Z.Slot} {ta tb te tc : TE} {d d1 d2 : D}
theorem reps_rep {H : Hp} {x : L2.V} (r : Rep K H d x) : ∀ n, Reps K H (List.replicate n d) (List.replicate n x)
  | 0 => Reps.nil
  | n + 1 => by rw [List.replicate_succ, List.replicate_succ]; exact Reps.cons r (reps_rep r n)
theorem flat_one {α : Type} (x : α) : ∀ n, (List.replicate n [x]).flatten = List.replicate n x
  | 0 => rfl
  | n + 1 => by rw [List.replicate_succ, List.flatten_cons, flat_one x n]; rfl
theorem en_rep {n : Nat} (h1 : EvN K ta env [d]) (h2 : EvE K tb env (.int (n : Int))) (hz : n ≤ 1000) : EvN K (tOp rRep ta tb) env (List.replicate n d) := fun B F σ hs vs Q q =>
  h1 B F σ hs vs _ fun B1 F1 p ws g1 hF hB hp r1 => h2 B1 F1 σ g1.f (vs.grow g1) _ fun B2 F2 y g2 r2 => by
    unfold Rep at r2; subst r2
    obtain ⟨x, rfl, rx⟩ := reps1 r1
    have g := g1.trans g2
    refine ⟨p, (n : Int), [x], rfl, rfl, g2.s _ _ hp, by omega, by omega, ?_, fun p2 hp2 => ?_⟩
    · have := small1000 hz
      simp
      omega
    · rw [Int.toNat_natCast, flat_one]
      exact q B2 _ p2 _ ⟨g.b, same_out g.f (g.f.free hp2), g.s.trans (same_new hp2), g.n⟩ (g.s.free hp2) (g.f.free hp2) upd_same (reps_rep (rx.mono g2.b) n)
theorem ee_isiL {n : String} {b : Bool} {ds : List D} (h : EvE K te env (.lst ds)) (hb : PySem.W.kitOne K (.type "list") (.type n) = some b) :
    EvE K (tCB (rIsi K) (tCons te (tCons (tC (.ty n)) tNil))) env (.bl b) := ee_cb (ea_cons h (ea_cons (d := .v (.ty n)) ee_v ea_nil)) fun B F xs hs r Q q => by
  obtain ⟨x, y, rfl, r1, r2⟩ := reps2 r
  unfold Rep at r1 r2; subst r2
  obtain ⟨a, ws, rfl, e1, e2⟩ := r1
  refine ⟨.ref a, _, .type "list", _, b, rfl, .ty n, ?_, hb, q B F _ (Gr.refl hs) (rp_bl B)⟩
  rcases e1 with (e1 | ⟨o, e1⟩) | ⟨o, its, m, e1, e2, _⟩
  · exact .base (.lst (hs _ _ e1))
  · exact .base (.frz (hs _ _ e1))
  · exact .kList e1 e2
end
def timesA : List Int := [1, 1, 2, 3, 6, 10, -1, 998244353, 1000000007, 2147483647, 2305843009213693951]
def timesB : List Int := [1, 1, 2, 3, 6, -1]
def lawTimes (row : List Int) : Int := if decide (fn row 0 % 6 < 5) = true then fn timesA (fn row 29 % 11).toNat else fn timesB (fn row 29 % 6).toNat
theorem lawTimes_bnd (row : List Int) : (lawTimes row).natAbs < 2 ^ 62 := by
  have h1 : (fn timesA (fn row 29 % 11).toNat).natAbs ≤ 2305843009213693951 := fn_bnd (by decide) _
  have h2 : (fn timesB (fn row 29 % 6).toNat).natAbs ≤ 2305843009213693951 := fn_bnd (by decide) _
  unfold lawTimes
  split <;> omega
def R_times : List D → D → Prop := fun ds r => ∃ row : List Int, ds = [il row] ∧ Rk row 30 ∧ r = .int (lawTimes row)
def lawBase (row : List Int) (len : Nat) : List Int := (List.range len).map fun j => lawNum (fn row 0 % 6) ((row.take (4 + 3 * j)).drop (1 + 3 * j))
def R_base : List D → D → Prop := fun ds r => ∃ (row : List Int) (len : Nat), ds = [il row, .int (len : Int)] ∧ Rk row 30 ∧ len ≤ 8 ∧ r = il (lawBase row len)
def unit (len p : Nat) : List Int := (List.range len).map fun j => if decide (((j : Nat) : Int) = ((p : Nat) : Int)) = true then 1 else 0
def units (len : Nat) : List (List Int) := (List.range len).map (unit len)
def R_units : List D → D → Prop := fun ds r => ∃ len : Nat, ds = [.int (len : Int)] ∧ len ≤ 8 ∧ r = .lst ((units len).map il)
section
variable {P : Program} {w : World} {K : PySem.W.Frag} {mg : Str → Option Value} {base : Heap} {f : Addr} {fd : FuncData}
theorem ok__law_times (F : Fun K "_law_times" "_law_times" s__law_times f fd) (T : Txt mg) : FnOk P w K mg base CX0 1 f fd ["row"] (spR K R_times) := by
  refine ok_def F sc__law_times (fun ds r h => by obtain ⟨l, rfl, _⟩ := h; rfl) (fun cdv A outer s H E hr => ⟨_, (pss_cons (ps_if (pt_cmpR op_lt (pe_op op_mod (pe_callTy call_int1 (by rfl) T.n_int (by decide +kernel) (pa_cons (pe_ix (k_ix_list K) (pv 0) pe_int (fun _ _ => rfl)) pa_nil)) pe_int) pe_int (nomark _)) (pss_cons (ps_set (i := 1) sc__law_times.nd rfl (Or.inl rfl) (pe_lst (pa_cons pe_int (pa_cons pe_int (pa_cons pe_int (pa_cons pe_int pa_nil))))))
    (pss_one (ps_ret (pe_ix (k_ix_list K) (pe_op (k_catS K) (pe_lst (pa_cons pe_int (pa_cons pe_int (pa_cons pe_int (pa_cons pe_int (pa_cons pe_int (pa_cons pe_int (pa_cons (pe_un un_neg pe_int) pa_nil)))))))) (pv 1)) (pe_op op_mod (pe_callTy call_int1 (by rfl) T.n_int (by decide +kernel) (pa_cons (pe_ix (k_ix_list K) (pv 0) pe_int (fun _ _ => rfl)) pa_nil)) pe_int) (fun _ _ => rfl))))) pss_nil)
    (pss_one (ps_ret (pe_ix (k_ix_list K) (pe_lst (pa_cons pe_int (pa_cons pe_int (pa_cons pe_int (pa_cons pe_int (pa_cons pe_int (pa_cons (pe_un un_neg pe_int) pa_nil))))))) (pe_op op_mod (pe_callTy call_int1 (by rfl) T.n_int (by decide +kernel) (pa_cons (pe_ix (k_ix_list K) (pv 0) pe_int (fun _ _ => rfl)) pa_nil)) pe_int) (fun _ _ => rfl))))), fun ds r h H0 H1 E' hrt => ?_⟩)
  obtain ⟨l, rfl, hl, rfl⟩ := h
  have a0 := hl.at 0
  have a1 := hl.at 29
  have x0 : atI (l.map D.int) ((0 : Nat) : Int) = some (.int (fn l 0)) := at_il (by rw [hl.1]; decide)
  have x1 : atI (l.map D.int) ((29 : Nat) : Int) = some (.int (fn l 29)) := at_il (by rw [hl.1]; decide)
  refine q_leave (b := decide (fn l 0 % 6 < 5)) (et_test (ee_lt (ee_mod (ee_intI (ee_ixL (ee_var rfl) ee_int x0)) ee_int (by decide)) ee_int)) (fun h => ?_) (fun h => ?_)
  · refine q_asg (en_lst (ea_cons ee_int (ea_cons ee_int (ea_cons ee_int (ea_cons ee_int ea_nil)))) (by simp)).ee ?_
    refine go_ret (ee_ixL (ds := timesA.map D.int) (en_cat (ds := ([1, 1, 2, 3, 6, 10, -1] : List Int).map D.int) (en_lst (ea_cons ee_int (ea_cons ee_int (ea_cons ee_int (ea_cons ee_int (ea_cons ee_int (ea_cons ee_int (ea_cons (ee_neg ee_int) ea_nil))))))) (by simp)).ee (ee_var rfl) (by simp)).ee (ee_mod (ee_intI (ee_ixL (ee_var rfl) ee_int x1)) ee_int (by decide)) (pick_at timesA (by omega) (by simp [timesA]; omega))) (hrt.is ?_)
    unfold lawTimes; rw [if_pos h]
  · refine go_ret (ee_ixL (ds := timesB.map D.int) (en_lst (ea_cons ee_int (ea_cons ee_int (ea_cons ee_int (ea_cons ee_int (ea_cons ee_int (ea_cons (ee_neg ee_int) ea_nil)))))) (by simp)).ee (ee_mod (ee_intI (ee_ixL (ee_var rfl) ee_int x1)) ee_int (by decide)) (pick_at timesB (by omega) (by simp [timesB]; omega))) (hrt.is ?_)
    unfold lawTimes; rw [if_neg (by rw [h]; decide)]
theorem ok__law_base (F : Fun K "_law_base" "_law_base" s__law_base f fd) (T : Txt mg) (C__law_number : Cal P w K mg base "_law_number" 1 ["kind", "numbers"] (spR K R_num)) : FnOk P w K mg base CX0 2 f fd ["row", "length"] (spR K R_base) := by
  refine ok_def F sc__law_base (fun ds r h => by obtain ⟨l, len, rfl, _⟩ := h; rfl) (fun cdv A outer s H E hr => ⟨_, (pss_cons (ps_set (i := 2) sc__law_base.nd rfl (Or.inr rfl) (pe_op op_mod (pe_callTy call_int1 (by rfl) T.n_int (by decide +kernel) (pa_cons (pe_ix (k_ix_list K) (pv 0) pe_int (fun _ _ => rfl)) pa_nil)) pe_int))
    (pss_one (ps_ret (pe_lc (own := [("j", 3)]) rfl sc__law_base.nd (pi_range1 (by rfl) T.n_range (pa_cons (pv 1) pa_nil)) (blkOk_by (N := N__law_base) (sc := defScope s__law_base) (by decide +kernel)) (fun _ _ _ _ _ => (pg_name (i := 3) sc__law_base.nd rfl (Or.inl rfl))) (fun _ _ _ _ _ => pts_nil) (fun _ _ _ _ _ => (pe_cal (C__law_number.mono (by decide)) hr (by rfl) (pa_cons (pv 2) (pa_cons (pe_slice (k_sl_list K) (pv 0) (po_some (pe_op op_add pe_int (pe_op op_mul pe_int (pv 3)))) (po_some (pe_op op_add pe_int (pe_op op_mul pe_int (pv 3))))) pa_nil)))))))), fun ds r h H0 H1 E' hrt => ?_⟩)
  obtain ⟨l, len, rfl, hl, hlen, rfl⟩ := h
  have x0 : atI (l.map D.int) ((0 : Nat) : Int) = some (.int (fn l 0)) := at_il (by rw [hl.1]; decide)
  refine q_asg (d := .int (fn l 0 % 6)) (ee_mod (ee_intI (ee_ixL (ee_var rfl) ee_int x0)) ee_int (by decide)) ?_
  have e1 : il (lawBase l len) = .lst ((List.range len).map (D.int ∘ fun j => lawNum (fn l 0 % 6) ((l.take (4 + 3 * j)).drop (1 + 3 * j)))) := by
    show D.lst (List.map _ (List.map _ _)) = _
    rw [List.map_map]
  rw [e1] at hrt
  refine go_ret (en_lc1 (rep := fun (j : Nat) => D.int (j : Int)) (w := D.int ∘ fun j => lawNum (fn l 0 % 6) ((l.take (4 + 3 * j)).drop (1 + 3 * j))) (ei_rngN (ee_var rfl) (by omega)) (by simp) (by simp; omega) (fun j hj => ?_)).ee hrt
  have hj : j < len := by simpa using hj
  have rk : Rk ((l.take (4 + 3 * j)).drop (1 + 3 * j)) 3 := by
    have := hl.cut (a := 1 + 3 * j) (b := 4 + 3 * j) (by omega)
    rwa [show 4 + 3 * j - (1 + 3 * j) = 3 by omega] at this
  refine ee_call (ea_cons (ee_var rfl) (ea_cons (d := il ((l.take (4 + 3 * j)).drop (1 + 3 * j))) ?_ ea_nil)) ⟨_, _, rfl, rk, rfl⟩
  refine EvE.is (en_slL (lo := some ((1 + 3 * j : Nat) : Int)) (hi := some ((4 + 3 * j : Nat) : Int)) (ee_var rfl) (eo_some (EvE.is (ee_add ee_int (ee_mul ee_int (ee_var rfl) (.inl ⟨by decide, by decide⟩))) (by rw [Int.natCast_add, Int.natCast_mul]; rfl))) (eo_some (EvE.is (ee_add ee_int (ee_mul ee_int (ee_var rfl) (.inl ⟨by decide, by decide⟩))) (by rw [Int.natCast_add, Int.natCast_mul]; rfl)))).ee ?_
  rw [cut_mid, ← List.map_take, ← List.map_drop]
theorem ok__law_units (F : Fun K "_law_units" "_law_units" s__law_units f fd) (T : Txt mg) : FnOk P w K mg base CX0 1 f fd ["length"] (spR K R_units) := by
  refine ok_def F sc__law_units (fun ds r h => by obtain ⟨len, rfl, _⟩ := h; rfl) (fun cdv A outer s H E hr => ⟨_, (pss_cons (ps_set (i := 1) sc__law_units.nd rfl (Or.inl rfl) (pe_lst pa_nil))
    (pss_cons (ps_for PassesOwn.never rfl (pi_range1 (by rfl) T.n_range (pa_cons (pv 0) pa_nil)) (pg_name (i := 2) sc__law_units.nd rfl (Or.inr rfl))
    (pss_one (ps_expr (pe_bm PySem.F.plainAttrs_list PySem.F.slot_list_append PySem.F.type_list_append mt_append (pv 1) (pa_cons (pe_lc (own := [("j", 3)]) rfl sc__law_units.nd (pi_range1 (by rfl) T.n_range (pa_cons (pv 0) pa_nil)) (blkOk_by (N := N__law_units) (sc := defScope s__law_units) (by decide +kernel)) (fun _ _ _ _ _ => (pg_name (i := 3) sc__law_units.nd rfl (Or.inl rfl))) (fun _ _ _ _ _ => pts_nil) (fun _ _ _ _ _ => (pe_callTy call_int1 (by rfl) T.n_int (by decide +kernel) (pa_cons (pe_cmpR op_eq (pv 3) (pv 2) (nomark _)) pa_nil)))) pa_nil)))))
    (pss_one (ps_ret (pv 1))))), fun ds r h H0 H1 E' hrt => ?_⟩)
  obtain ⟨len, rfl, hlen, rfl⟩ := h
  refine q_own (en_lst ea_nil (by decide)) ?_
  refine q_range len (fun p => [.val (.int (len : Int)), .own (((List.range p).map (unit len)).map il), .no, .no]) (ee_var rfl) (by omega) (by omega) (by walk_at "sub") (fun p hp G0 E2 hr2 hb2 hn' hc => ?_) ?_
  · refine go_app (i := 1) (d := il (unit len p)) rfl ?_ (by simp; omega) (nx_sub ?_ hn')
    · have e1 : il (unit len p) = .lst ((List.range len).map (D.int ∘ fun j => if decide (((j : Nat) : Int) = ((p : Nat) : Int)) = true then 1 else 0)) := by
        show D.lst (List.map _ (List.map _ _)) = _
        rw [List.map_map]
      rw [e1]
      exact (en_lc1 (rep := fun (j : Nat) => D.int (j : Int)) (w := D.int ∘ fun j => if decide (((j : Nat) : Int) = ((p : Nat) : Int)) = true then 1 else 0) (ei_rngN (ee_var rfl) (by omega)) (by simp) (by simp; omega) (fun j hj => ee_intB (ee_eqI (ee_var rfl) (ee_var rfl)))).ee
    · have e2 : ((List.range (p + 1)).map (unit len)).map il = ((List.range p).map (unit len)).map il ++ [il (unit len p)] := by rw [List.range_succ, List.map_append, List.map_append]; rfl
      rw [e2]
      walk_at "sub"
  · refine q_freeze 1 rfl ?_
    exact go_ret (ee_var rfl) hrt
end
/-! ### the matrix -/
abbrev St3 := Red × List (List Int) × List (List Int)
def cstep (t : Int) (k : Nat) (st : St3) (c : List Int) : St3 :=
  if (decide (((st.1.length : Nat) : Int) = ((k : Nat) : Int)) && decide (((k : Nat) : Int) < (((lwith st.1 c).length : Nat) : Int))) = true then (lwith st.1 c, st.2.1 ++ [c], st.2.2 ++ [c.map fun x => t * x]) else st
abbrev rowB (ns : List Int) (k : Nat) : List Int := lawRow (lawSeed ns (1 + k)) 30
def cands (ns : List Int) (len k : Nat) : List (List Int) := [lawBase (rowB ns k) len] ++ units len
def mst (ns : List Int) (len : Nat) : Nat → St3
  | 0 => ([], [], [])
  | k + 1 => (cands ns len k).foldl (cstep (lawTimes (rowB ns k)) k) (mst ns len k)
def osum (row : List Int) (len : Nat) (bases : List (List Int)) : Nat → List Int
  | 0 => List.replicate len 0
  | k + 1 => (List.range len).map fun j => fn (osum row len bases k) j + (fn row k % 7 - 3) * fn (bases.getD k []) j
theorem osum_len (row : List Int) (len : Nat) (bases : List (List Int)) : ∀ k, (osum row len bases k).length = len
  | 0 => by simp [osum]
  | k + 1 => by simp [osum]
abbrev fac8 (ns : List Int) : List Int := lawRow (lawSeed ns 10) 8
def matL (ns : List Int) (len place : Nat) : List (List Int) :=
  ((mst ns len (len - 1)).2.2.take place ++ [osum (fac8 ns) len (mst ns len (len - 1)).2.1 (mst ns len (len - 1)).2.1.length]) ++ (mst ns len (len - 1)).2.2.drop place
/-- what is needed of a state -/
structure MI (n : Nat) (st : St3) : Prop where
  lw : ∃ us, LW n us st.1 ∧ us.reverse = st.2.1
  bl : ∀ u ∈ st.2.1, u.length = n ∧ ∀ x ∈ u, x.natAbs ≤ 2 ^ 100
  tb : ∀ r ∈ st.2.2, ∃ u ∈ st.2.1, ∃ t : Int, t ≠ 0 ∧ t.natAbs < 2 ^ 62 ∧ r = u.map fun x => t * x
  bt : ∀ u ∈ st.2.1, ∃ r ∈ st.2.2, ∃ t : Int, t ≠ 0 ∧ r = u.map fun x => t * x
  ln : st.2.2.length = st.2.1.length
theorem MI.few {n : Nat} {st : St3} (h : MI n st) : st.1.length ≤ n ∧ st.2.1.length = st.1.length := by
  obtain ⟨us, l, e⟩ := h.lw
  have := l.few
  exact ⟨this.1, by rw [← e, List.length_reverse]; exact this.2⟩
theorem p100 : 2 ^ 100 ≤ BB := Nat.pow_le_pow_right (by decide) (by decide)
theorem MI.lok {n : Nat} {st : St3} (h : MI n st) (hn : n ≤ 8) {c : List Int} (hc : c.length = n) (hb : ∀ x ∈ c, x.natAbs ≤ 2 ^ 100) : LOk n st.1 c := by
  obtain ⟨us, l, e⟩ := h.lw
  exact lok_of l (fun u hu x hx => Nat.le_trans ((h.bl u (by rw [← e]; exact List.mem_reverse.2 hu)).2 x hx) p100) hn hc fun x hx => Nat.le_trans (hb x hx) p100
theorem MI.step {n : Nat} {st : St3} (h : MI n st) {t : Int} (ht : t ≠ 0) (ht2 : t.natAbs < 2 ^ 62) {k : Nat} {c : List Int} (hc : c.length = n) (hb : ∀ x ∈ c, x.natAbs ≤ 2 ^ 100) : MI n (cstep t k st c) := by
  unfold cstep
  split
  · rename_i hcond
    rw [Bool.and_eq_true] at hcond
    have h1 := of_decide_eq_true hcond.1
    have h2 := of_decide_eq_true hcond.2
    obtain ⟨us, l, e⟩ := h.lw
    rcases l.with hc with ⟨e1, _⟩ | ⟨cc, e1, l1, _⟩
    · rw [e1] at h2; omega
    · refine ⟨⟨c :: us, l1, by simp [e]⟩, fun u hu => ?_, fun r hr => ?_, fun u hu => ?_, by simp [h.ln]⟩
      · rcases List.mem_append.1 hu with a | a
        · exact h.bl u a
        · rw [List.mem_singleton.1 a]; exact ⟨hc, hb⟩
      · rcases List.mem_append.1 hr with a | a
        · obtain ⟨u, hu, t', h3, h4, h5⟩ := h.tb r a
          exact ⟨u, List.mem_append_left _ hu, t', h3, h4, h5⟩
        · exact ⟨c, by simp, t, ht, ht2, List.mem_singleton.1 a⟩
      · rcases List.mem_append.1 hu with a | a
        · obtain ⟨r, hr, t', h3, h4⟩ := h.bt u a
          exact ⟨r, List.mem_append_left _ hr, t', h3, h4⟩
        · exact ⟨c.map fun x => t * x, by simp, t, ht, by rw [List.mem_singleton.1 a]⟩
  · exact h
theorem lawTimes_ne {row : List Int} (hr : Rk row 30) : lawTimes row ≠ 0 := by
  have a := hr.at 29
  have key : ∀ (l : List Int), (∀ x ∈ l, x ≠ 0) → ∀ j, j < l.length → fn l j ≠ 0 := fun l h j hj => h _ (fn_mem hj)
  unfold lawTimes
  split
  · exact key timesA (by decide) _ (by simp [timesA]; omega)
  · exact key timesB (by decide) _ (by simp [timesB]; omega)
theorem rk_row (c : Int) (m : Nat) : Rk (lawRow c m) m := ⟨row_len c m, row_mem c m⟩
theorem cands_ok (ns : List Int) {len : Nat} (hl : len ≤ 8) (k : Nat) : ∀ c ∈ cands ns len k, c.length = len ∧ ∀ x ∈ c, x.natAbs ≤ 2 ^ 100 := fun c hc => by
  have p : 1 ≤ 2 ^ 100 := Nat.one_le_two_pow
  rcases List.mem_append.1 hc with a | a
  · rw [List.mem_singleton.1 a]
    refine ⟨by simp [lawBase], fun x hx => ?_⟩
    obtain ⟨j, hj, rfl⟩ := List.mem_map.1 hx
    have hj : j < len := by simpa using hj
    have rk2 := (rk_row (lawSeed ns (1 + k)) 30).cut (a := 1 + 3 * j) (b := 4 + 3 * j) (by omega)
    rw [show 4 + 3 * j - (1 + 3 * j) = 3 by omega] at rk2
    exact lawNum_bnd rk2
  · obtain ⟨p', _, rfl⟩ := List.mem_map.1 a
    refine ⟨by simp [unit], fun x hx => ?_⟩
    obtain ⟨j, hj, rfl⟩ := List.mem_map.1 hx
    split <;> omega
theorem MI.fold {n : Nat} {t : Int} (ht : t ≠ 0) (ht2 : t.natAbs < 2 ^ 62) {k : Nat} : ∀ (cs : List (List Int)) {st : St3}, MI n st → (∀ c ∈ cs, c.length = n ∧ ∀ x ∈ c, x.natAbs ≤ 2 ^ 100) → MI n (cs.foldl (cstep t k) st)
  | [], st, h, _ => h
  | c :: cs, st, h, hc => MI.fold ht ht2 cs (h.step ht ht2 (hc c List.mem_cons_self).1 (hc c List.mem_cons_self).2) fun x hx => hc x (List.mem_cons_of_mem _ hx)
theorem MI.start (n : Nat) : MI n ([], [], []) := ⟨⟨[], .nil, rfl⟩, fun u hu => (List.not_mem_nil hu).elim, fun u hu => (List.not_mem_nil hu).elim, fun u hu => (List.not_mem_nil hu).elim, rfl⟩
theorem mst_ok (ns : List Int) {len : Nat} (hl : len ≤ 8) : ∀ k, MI len (mst ns len k)
  | 0 => MI.start len
  | k + 1 => MI.fold (lawTimes_ne (rk_row _ _)) (lawTimes_bnd _) _ (mst_ok ns hl k) (cands_ok ns hl k)
theorem mst_at (ns : List Int) {len : Nat} (hl : len ≤ 8) (k i : Nat) : MI len (((cands ns len k).take i).foldl (cstep (lawTimes (rowB ns k)) k) (mst ns len k)) :=
  MI.fold (lawTimes_ne (rk_row _ _)) (lawTimes_bnd _) _ (mst_ok ns hl k) fun c hc => cands_ok ns hl k c (List.mem_of_mem_take hc)
end K35

namespace K35
open PySem PySem.Spec PyProof.Rows L2 Z StX M
local macro_rules | `(tactic| walk_at "sd") => `(tactic| first | decide | omega | assumption | rfl | (simp; done) | (simp only [List.length_map, List.length_cons, List.length_nil]; omega))
local macro_rules | `(tactic| walk_at "ev") => `(tactic| first
  | exact ee_int | exact ee_strX (by decide +kernel) | exact ee_str | exact ee_bl | exact ee_non
  | exact ee_var rfl
  | (refine' ee_add ?e1 ?e2; (case e1 => walk_at "ev"); (case e2 => walk_at "ev"))
  | (refine' ee_sub ?e1 ?e2; (case e1 => walk_at "ev"); (case e2 => walk_at "ev"))
  | (refine' ee_mul ?e1 ?e2 ?e3; (case e1 => walk_at "ev"); (case e2 => walk_at "ev"); (case e3 => walk_at "cm"))
  | (refine' ee_div ?e1 ?e2 ?e3; (case e1 => walk_at "ev"); (case e2 => walk_at "ev"); (case e3 => exact ⟨by decide, by decide⟩))
  | (refine' ee_mod ?e1 ?e2 ?e3; (case e1 => walk_at "ev"); (case e2 => walk_at "ev"); (case e3 => walk_at "sd"))
  | (refine' ee_powR ?e1 ?e2 ?e3 ?e4; (case e1 => walk_at "ev"); (case e2 => walk_at "ev"); (case e3 => exact ⟨by decide, by decide, by decide⟩); (case e4 => rfl))
  | (refine' ee_intI ?e1; (case e1 => walk_at "ev"))
  | (refine' ee_intB ?e1; (case e1 => walk_at "ev"))
  | (refine' ee_lenL ?e1; (case e1 => walk_at "ev"))
  | (refine' ee_lenX ?e1 ?e2; (case e1 => walk_at "ev"); (case e2 => walk_at "sz"))
  | (refine' ee_lenS ?e1 ?e2; (case e1 => walk_at "ev"); (case e2 => walk_at "sz"))
  | (refine' ee_lenT ?e1; (case e1 => walk_at "ev"))
  | (refine' ee_lt ?e1 ?e2; (case e1 => walk_at "ev"); (case e2 => walk_at "ev")) | (refine' ee_le ?e1 ?e2; (case e1 => walk_at "ev"); (case e2 => walk_at "ev")) | (refine' ee_gt ?e1 ?e2; (case e1 => walk_at "ev"); (case e2 => walk_at "ev")) | (refine' ee_ge ?e1 ?e2; (case e1 => walk_at "ev"); (case e2 => walk_at "ev"))
  | (refine' ee_eqI ?e1 ?e2; (case e1 => walk_at "ev"); (case e2 => walk_at "ev")) | (refine' ee_eqS ?e1 ?e2; (case e1 => walk_at "ev"); (case e2 => walk_at "ev")) | (refine' ee_eqB ?e1 ?e2; (case e1 => walk_at "ev"); (case e2 => walk_at "ev"))
  | (refine' ee_neI ?e1 ?e2; (case e1 => walk_at "ev"); (case e2 => walk_at "ev")) | (refine' ee_neS ?e1 ?e2; (case e1 => walk_at "ev"); (case e2 => walk_at "ev"))
  | (refine' ee_neg ?e1; (case e1 => walk_at "ev"))
  | (refine' ee_max2 ?e1 ?e2; (case e1 => walk_at "ev"); (case e2 => walk_at "ev")) | (refine' ee_min2 ?e1 ?e2; (case e1 => walk_at "ev"); (case e2 => walk_at "ev"))
  | (refine' ee_eqX ?e1 ?e2; (case e1 => walk_at "ev"); (case e2 => walk_at "ev")) | (refine' ee_neX ?e1 ?e2; (case e1 => walk_at "ev"); (case e2 => walk_at "ev"))
  | (refine' ee_inX ?e1 ?e2; (case e1 => walk_at "ev"); (case e2 => walk_at "ev")) | (refine' ee_ninX ?e1 ?e2; (case e1 => walk_at "ev"); (case e2 => walk_at "ev"))
  | (refine' ee_startsX ?e1 ?e2; (case e1 => walk_at "ev"); (case e2 => walk_at "ev"))
  | (refine' ee_catX ?e1 ?e2 ?e3; (case e1 => walk_at "ev"); (case e2 => walk_at "ev"); (case e3 => walk_at "sz"))
  | (refine' ee_slX ?e1 ?e2 ?e3 ?e4; (case e1 => walk_at "ev"); (case e2 => walk_at "evo"); (case e3 => walk_at "evo"); (case e4 => walk_at "sz"))
  | (refine' ee_inS ?e1 ?e2; (case e1 => walk_at "ev"); (case e2 => walk_at "ev")) | (refine' ee_ninS ?e1 ?e2; (case e1 => walk_at "ev"); (case e2 => walk_at "ev"))
  | (refine' ee_startswith ?e1 ?e2; (case e1 => walk_at "ev"); (case e2 => walk_at "ev"))
  | (refine' ee_notV ?e1; (case e1 => walk_at "ev"))
  | (refine' ee_catS ?e1 ?e2 ?e3; (case e1 => walk_at "ev"); (case e2 => walk_at "ev"); (case e3 => walk_at "sz"))
  | (refine' (en_lst ?e1 ?e2).ee; (case e1 => walk_at "eva"); (case e2 => walk_at "sd"))
  | (refine' ee_tup ?e1 ?e2; (case e1 => walk_at "eva"); (case e2 => walk_at "sd"))
  | (refine' (en_slL ?e1 ?e2 ?e3).ee; (case e1 => walk_at "ev"); (case e2 => walk_at "evo"); (case e3 => walk_at "evo"))
  | (refine' ee_slS ?e1 ?e2 ?e3 ?e4; (case e1 => walk_at "ev"); (case e2 => walk_at "evo"); (case e3 => walk_at "evo"); (case e4 => walk_at "sz"))
  | (refine' (en_listL ?e1).ee; (case e1 => walk_at "ev"))
  | (refine' (en_listT ?e1).ee; (case e1 => walk_at "ev"))
  | (refine' ee_tupL ?e1; (case e1 => walk_at "ev"))
  | (refine' ee_tupT ?e1; (case e1 => walk_at "ev")))
local macro_rules | `(tactic| walk_at "eva") => `(tactic| first | exact ea_nil | (refine' ea_cons ?e1 ?e2; (case e1 => walk_at "ev"); (case e2 => walk_at "eva")))
local macro_rules | `(tactic| walk_at "evo") => `(tactic| first | exact eo_none | (refine' eo_some ?e1; (case e1 => walk_at "ev")))
local macro_rules | `(tactic| walk_at "evt") => `(tactic| first
  | (refine' et_test ?e1; (case e1 => walk_at "ev")) | (refine' et_B ?e1; (case e1 => walk_at "ev")) | (refine' et_not ?e1; (case e1 => walk_at "evt"))
  | (refine' et_and ?e1 ?e2; (case e1 => walk_at "evt"); (case e2 => (intro _; walk_at "evt")))
  | (refine' et_or ?e1 ?e2; (case e1 => walk_at "evt"); (case e2 => (intro _; walk_at "evt"))))
local macro_rules | `(tactic| walk_at "sub") => `(tactic| first | exact Sub.refl _ | (refine sub_cons ?_; walk_at "sub") | (refine sub_no ?_; walk_at "sub"))
local macro_rules | `(tactic| walk_at "cm") => `(tactic| first | exact Or.inr ⟨by omega, by omega⟩ | exact Or.inl ⟨by omega, by omega⟩)
local macro_rules | `(tactic| walk_at "evi") => `(tactic| (refine' EvE.is ?h ?e; (case h => walk_at "ev"); (case e => first | rfl | (congr 1; done) | skip)))
local macro_rules | `(tactic| walk_at "sz") => `(tactic| first | assumption | omega | (simp; omega) | (simp only [List.length_append, List.length_map, List.length_cons, List.length_nil]; omega))

def R_matrix : List D → D → Prop := fun ds r => ∃ (ns : List Int) (len place : Nat), ds = [il ns, .int (len : Int), .int (place : Int)] ∧ 1 ≤ len ∧ len ≤ 8 ∧ place < len ∧ r = .lst ((matL ns len place).map il)
theorem foldl_take_succ {α β : Type} (g : β → α → β) (s : β) {xs : List α} {i : Nat} {x : α} (h : xs[i]? = some x) : (xs.take (i + 1)).foldl g s = g ((xs.take i).foldl g s) x := by rw [List.take_add_one, h, List.foldl_append]; rfl
theorem mst_few (ns : List Int) {len : Nat} (hl : len ≤ 8) (k : Nat) : (mst ns len k).2.1.length ≤ 8 ∧ (mst ns len k).2.2.length ≤ 8 := by
  have h := mst_ok ns hl k
  have := h.few
  have := h.ln
  omega
section
variable {P : Program} {w : World} {K : PySem.W.Frag} {mg : Str → Option Value} {base : Heap} {f : Addr} {fd : FuncData}
theorem ok__law_matrix (F : Fun K "_law_matrix" "_law_matrix" s__law_matrix f fd) (T : Txt mg) (C__law_row : Cal P w K mg base "_law_row" 1 ["cell", "many"] (spR K R_row)) (C__law_seed : Cal P w K mg base "_law_seed" 2 ["script", "k"] (spR K R_seed))
    (C__law_base : Cal P w K mg base "_law_base" 2 ["row", "length"] (spR K R_base)) (C__law_units : Cal P w K mg base "_law_units" 1 ["length"] (spR K R_units)) (C__law_with : Cal P w K mg base "_law_with" 2 ["rows", "vector"] (spR K R_lwith)) (C__law_times : Cal P w K mg base "_law_times" 1 ["row"] (spR K R_times)) :
    FnOk P w K mg base CX0 3 f fd ["script", "length", "place"] (spR K R_matrix) := by
  refine ok_def F sc__law_matrix (fun ds r h => by obtain ⟨ns, len, p, rfl, _⟩ := h; rfl) (fun cdv A outer s H E hr => ⟨_, (pss_cons (ps_set (i := 3) sc__law_matrix.nd rfl (Or.inr rfl) (pe_lst pa_nil))
    (pss_cons (ps_set (i := 4) sc__law_matrix.nd rfl (Or.inl rfl) (pe_lst pa_nil))
    (pss_cons (ps_set (i := 5) sc__law_matrix.nd rfl (Or.inl rfl) (pe_lst pa_nil))
    (pss_cons (ps_for PassesOwn.never rfl (pi_range1 (by rfl) T.n_range (pa_cons (pe_op op_sub (pv 1) pe_int) pa_nil)) (pg_name (i := 6) sc__law_matrix.nd rfl (Or.inr rfl))
    (pss_cons (ps_set (i := 7) sc__law_matrix.nd rfl (Or.inr rfl) (pe_cal (C__law_row.mono (by decide)) hr (by rfl) (pa_cons (pe_cal (C__law_seed.mono (by decide)) hr (by rfl) (pa_cons (pv 0) (pa_cons (pe_op op_add pe_int (pv 6)) pa_nil))) (pa_cons pe_int pa_nil))))
    (pss_one (ps_for PassesOwn.never rfl (k_pi_list K (pe_op (k_catS K) (pe_lst (pa_cons (pe_cal (C__law_base.mono (by decide)) hr (by rfl) (pa_cons (pv 7) (pa_cons (pv 1) pa_nil))) pa_nil)) (pe_cal (C__law_units.mono (by decide)) hr (by rfl) (pa_cons (pv 1) pa_nil)))) (pg_name (i := 8) sc__law_matrix.nd rfl (Or.inl rfl))
    (pss_one (ps_if (PW.pt (pw_and (pt_cmpR op_eq (pe_callB (k_call_len K) (by rfl) T.n_len (by decide +kernel) (pa_cons (pv 5) pa_nil)) (pv 6) (nomark _)) (pw_and1 (pt_cmpR op_gt (pe_callB (k_call_len K) (by rfl) T.n_len (by decide +kernel) (pa_cons (pe_cal (C__law_with.mono (by decide)) hr (by rfl) (pa_cons (pv 5) (pa_cons (pv 8) pa_nil))) pa_nil)) (pv 6) (nomark _))))) (pss_cons (ps_set (i := 5) sc__law_matrix.nd rfl (Or.inl rfl) (pe_cal (C__law_with.mono (by decide)) hr (by rfl) (pa_cons (pv 5) (pa_cons (pv 8) pa_nil))))
    (pss_cons (ps_expr (pe_bm PySem.F.plainAttrs_list PySem.F.slot_list_append PySem.F.type_list_append mt_append (pv 3) (pa_cons (pv 8) pa_nil)))
    (pss_one (ps_expr (pe_bm PySem.F.plainAttrs_list PySem.F.slot_list_append PySem.F.type_list_append mt_append (pv 4) (pa_cons (pe_lc (own := [("number", 13)]) rfl sc__law_matrix.nd (k_pi_list K (pv 8)) (blkOk_by (N := N__law_matrix) (sc := defScope s__law_matrix) (by decide +kernel)) (fun _ _ _ _ _ => (pg_name (i := 13) sc__law_matrix.nd rfl (Or.inl rfl))) (fun _ _ _ _ _ => pts_nil) (fun _ _ _ _ _ => (pe_op op_mul (pe_cal (C__law_times.mono (by decide)) hr (by rfl) (pa_cons (pv 7) pa_nil)) (pv 13)))) pa_nil)))))) pss_nil))))))
    (pss_cons (ps_set (i := 9) sc__law_matrix.nd rfl (Or.inl rfl) (pe_cal (C__law_row.mono (by decide)) hr (by rfl) (pa_cons (pe_cal (C__law_seed.mono (by decide)) hr (by rfl) (pa_cons (pv 0) (pa_cons pe_int pa_nil))) (pa_cons pe_int pa_nil))))
    (pss_cons (ps_set (i := 10) sc__law_matrix.nd rfl (Or.inr rfl) (pe_op op_rep (pe_lst (pa_cons pe_int pa_nil)) (pv 1)))
    (pss_cons (ps_for PassesOwn.never rfl (pi_range1 (by rfl) T.n_range (pa_cons (pe_callB (k_call_len K) (by rfl) T.n_len (by decide +kernel) (pa_cons (pv 3) pa_nil)) pa_nil)) (pg_name (i := 6) sc__law_matrix.nd rfl (Or.inr rfl))
    (pss_cons (ps_set (i := 11) sc__law_matrix.nd rfl (Or.inr rfl) (pe_op op_sub (pe_op op_mod (pe_callTy call_int1 (by rfl) T.n_int (by decide +kernel) (pa_cons (pe_ix (k_ix_list K) (pv 9) (pv 6) (fun _ _ => rfl)) pa_nil)) pe_int) pe_int))
    (pss_one (ps_set (i := 10) sc__law_matrix.nd rfl (Or.inr rfl) (pe_lc (own := [("j", 12)]) rfl sc__law_matrix.nd (pi_range1 (by rfl) T.n_range (pa_cons (pv 1) pa_nil)) (blkOk_by (N := N__law_matrix) (sc := defScope s__law_matrix) (by decide +kernel)) (fun _ _ _ _ _ => (pg_name (i := 12) sc__law_matrix.nd rfl (Or.inl rfl))) (fun _ _ _ _ _ => pts_nil) (fun _ _ _ _ _ => (pe_op op_add (pe_ix (k_ix_list K) (pv 10) (pv 12) (fun _ _ => rfl)) (pe_op op_mul (pv 11) (pe_ix (k_ix_list K) (pe_ix (k_ix_list K) (pv 3) (pv 6) (fun _ _ => rfl)) (pv 12) (fun _ _ => rfl))))))))))
    (pss_one (ps_ret (pe_op (k_catS K) (pe_op (k_catS K) (pe_slice (k_sl_list K) (pv 4) po_none (po_some (pv 2))) (pe_lst (pa_cons (pv 10) pa_nil))) (pe_slice (k_sl_list K) (pv 4) (po_some (pv 2)) po_none))))))))))), fun ds r h H0 H1 E' hrt => ?_⟩)
  obtain ⟨ns, len, place, rfl, hl1, hlen, hpl, rfl⟩ := h
  refine q_own (en_lst ea_nil (by decide)) ?_
  refine q_own (en_lst ea_nil (by decide)) ?_
  refine q_asg (d := .lst ((([] : Red)).map rdD)) (en_lst ea_nil (by decide)).ee ?_
  refine q_range (len - 1) (fun k => [.val (il ns), .val (.int (len : Int)), .val (.int (place : Int)), .own ((mst ns len k).2.1.map il), .own ((mst ns len k).2.2.map il), .val (.lst ((mst ns len k).1.map rdD)), .no, .no, .no, .no, .no, .no, .no, .no]) (n := (len : Int) - 1) (ee_sub (ee_var rfl) ee_int) (by omega) (by omega) (by walk_at "sub") (fun k hk G0 E2 hr2 hb2 hn' hc => ?_) ?_
  · refine q_asg (d := il (rowB ns k)) (ee_call (ea_cons (ee_call (ea_cons (ee_var rfl) (ea_cons (d := .int ((1 + k : Nat) : Int)) (EvE.is (ee_add ee_int (ee_var rfl)) (by rw [Int.natCast_add]; rfl)) ea_nil)) ⟨ns, 1 + k, rfl, by omega, rfl⟩) (ea_cons ee_int ea_nil)) ⟨lawSeed ns (1 + k), 30, rfl, by decide, rfl⟩) ?_
    have rb : Rk (rowB ns k) 30 := rk_row _ _
    have cl : (cands ns len k).length = len + 1 := by simp [cands, units]
    refine go_for1 (rep := il) (xs := cands ns len k) (fun i => [.val (il ns), .val (.int (len : Int)), .val (.int (place : Int)), .own (((((cands ns len k).take i).foldl (cstep (lawTimes (rowB ns k)) k) (mst ns len k))).2.1.map il), .own (((((cands ns len k).take i).foldl (cstep (lawTimes (rowB ns k)) k) (mst ns len k))).2.2.map il), .val (.lst ((((cands ns len k).take i).foldl (cstep (lawTimes (rowB ns k)) k) (mst ns len k)).1.map rdD)), .val (.int (k : Int)), .val (il (rowB ns k)), .no, .no, .no, .no, .no, .no])
      (ei_list ?_) (by walk_at "sub") (fun i c hc G1 E3 hr3 hb3 hn3 hc3 => ?_) ?_
    · have e : (cands ns len k).map il = [il (lawBase (rowB ns k) len)] ++ (units len).map il := by simp [cands]
      rw [e]
      exact (en_cat (en_lst (ea_cons (ee_call (ea_cons (ee_var rfl) (ea_cons (ee_var rfl) ea_nil)) ⟨rowB ns k, len, rfl, rb, hlen, rfl⟩) ea_nil) (by simp)).ee (ee_call (ea_cons (ee_var rfl) ea_nil) ⟨len, rfl, hlen, rfl⟩) (by simp [units]; omega)).ee
    · have hm := List.mem_of_getElem? hc
      obtain ⟨c1, c2⟩ := cands_ok ns hlen k c hm
      have mi := mst_at ns hlen k i
      have es := foldl_take_succ (cstep (lawTimes (rowB ns k)) k) (mst ns len k) hc
      rw [es] at hn3
      generalize ((cands ns len k).take i).foldl (cstep (lawTimes (rowB ns k)) k) (mst ns len k) = st at *
      have lok := mi.lok hlen c1 c2
      have few := mi.few
      have ln := mi.ln
      refine go_if (b := decide (((st.1.length : Nat) : Int) = ((k : Nat) : Int)) && decide (((k : Nat) : Int) < (((lwith st.1 c).length : Nat) : Int))) (et_and (et_test (EvE.is (ee_eqI (ee_lenL (ds := st.1.map rdD) (ee_var rfl)) (ee_var rfl)) (by rw [List.length_map]))) (fun _ => et_test (EvE.is (ee_gt (ee_lenL (ds := (lwith st.1 c).map rdD) (ee_call (ea_cons (ee_var rfl) (ea_cons (ee_var rfl) ea_nil)) ⟨len, st.1, c, rfl, by omega, by omega, lok, rfl⟩)) (ee_var rfl)) (by rw [List.length_map])))) (fun h => ?_) (fun h => ?_)
      · have ec : cstep (lawTimes (rowB ns k)) k st c = (lwith st.1 c, st.2.1 ++ [c], st.2.2 ++ [c.map fun x => lawTimes (rowB ns k) * x]) := if_pos h
        rw [ec] at hn3
        refine q_asg (d := .lst ((lwith st.1 c).map rdD)) (ee_call (ea_cons (ee_var rfl) (ea_cons (ee_var rfl) ea_nil)) ⟨len, st.1, c, rfl, by omega, by omega, lok, rfl⟩) ?_
        refine q_app (i := 3) (d := il c) rfl (ee_var rfl) (by rw [List.length_map]; omega) ?_
        have tb := lawTimes_bnd (rowB ns k)
        refine go_app (i := 4) (d := il (c.map fun x => lawTimes (rowB ns k) * x)) rfl ?_ (by rw [List.length_map]; omega) (nx_sub ?_ hn3)
        · have e2 : il (c.map fun x => lawTimes (rowB ns k) * x) = .lst (c.map (D.int ∘ fun x => lawTimes (rowB ns k) * x)) := by
            show D.lst (List.map _ (List.map _ _)) = _
            rw [List.map_map]
          rw [e2]
          exact (en_lc1 (rep := D.int) (w := D.int ∘ fun x => lawTimes (rowB ns k) * x) (ei_list (ds := c.map D.int) (ee_var rfl)) (by simp) (by omega) (fun x hx => ee_mul (ee_call (ea_cons (ee_var rfl) ea_nil) ⟨rowB ns k, rfl, rb, rfl⟩) (ee_var rfl) (.inl ⟨by omega, by omega⟩))).ee
        · try dsimp only
          rw [List.map_append, List.map_append]
          walk_at "sub"
      · have ec : cstep (lawTimes (rowB ns k)) k st c = st := if_neg (by rw [h]; decide)
        rw [ec] at hn3
        exact go_next (nx_sub (by walk_at "sub") hn3)
    · rw [List.take_length]
      exact nx_sub (by walk_at "sub") hn'
  have few := mst_few ns hlen (len - 1)
  have mi := mst_ok ns hlen (len - 1)
  have md : matL ns len place = ((mst ns len (len - 1)).2.2.take place ++ [osum (fac8 ns) len (mst ns len (len - 1)).2.1 (mst ns len (len - 1)).2.1.length]) ++ (mst ns len (len - 1)).2.2.drop place := rfl
  generalize mst ns len (len - 1) = st at *
  refine q_freeze 3 rfl ?_
  have rf : Rk (fac8 ns) 8 := rk_row _ _
  refine q_asg (d := il (fac8 ns)) (ee_call (ea_cons (ee_call (ea_cons (ee_var rfl) (ea_cons ee_int ea_nil)) ⟨ns, 10, rfl, by decide, rfl⟩) (ea_cons ee_int ea_nil)) ⟨lawSeed ns 10, 8, rfl, by decide, rfl⟩) ?_
  refine q_own (ds := (List.replicate len (0 : Int)).map .int) ?_ ?_
  · rw [List.map_replicate]
    exact en_rep (en_lst (ea_cons ee_int ea_nil) (by simp)) (ee_var rfl) (by omega)
  refine q_range st.2.1.length (fun k => [.val (il ns), .val (.int (len : Int)), .val (.int (place : Int)), .val (.lst (st.2.1.map il)), .own (st.2.2.map il), .val (.lst (st.1.map rdD)), .no, .no, .no, .val (il (fac8 ns)), .own ((osum (fac8 ns) len st.2.1 k).map .int), .no, .no, .no]) (n := ((st.2.1.length : Nat) : Int)) (EvE.is (ee_lenL (ee_var rfl)) (by rw [List.length_map])) (by omega) (by omega) (by walk_at "sub") (fun k hk G0 E2 hr2 hb2 hn' hc => ?_) ?_
  · have ak := rf.at k
    refine q_asg (d := .int (fn (fac8 ns) k % 7 - 3)) (ee_sub (ee_mod (ee_intI (ee_ixL (ee_var rfl) (ee_var rfl) (at_il (by rw [rf.1]; omega)))) ee_int (by decide)) ee_int) ?_
    refine q_freeze 10 rfl ?_
    refine go_own (ds := (osum (fac8 ns) len st.2.1 (k + 1)).map .int) ?_ (nx_sub (by walk_at "sub") hn')
    have eb : atI (st.2.1.map il) (k : Int) = some (il (st.2.1.getD k [])) := at_ill (by omega) (by omega)
    have bl : (st.2.1.getD k []).length = len := (mi.bl _ (List.mem_of_getElem? (get_getD hk))).1
    have gl := osum_len (fac8 ns) len st.2.1 k
    have e2 : (osum (fac8 ns) len st.2.1 (k + 1)).map D.int = (List.range len).map (D.int ∘ fun j => fn (osum (fac8 ns) len st.2.1 k) j + (fn (fac8 ns) k % 7 - 3) * fn (st.2.1.getD k []) j) := by
      show List.map _ (List.map _ _) = _
      rw [List.map_map]
    rw [e2]
    refine en_lc1 (rep := fun (j : Nat) => D.int (j : Int)) (w := D.int ∘ fun j => fn (osum (fac8 ns) len st.2.1 k) j + (fn (fac8 ns) k % 7 - 3) * fn (st.2.1.getD k []) j) (ei_rngN (ee_var rfl) (by omega)) (by simp) (by simp; omega) (fun j hj => ?_)
    have hj : j < len := by simpa using hj
    exact ee_add (ee_ixL (ee_var rfl) (ee_var rfl) (at_il (by omega))) (ee_mul (ee_var rfl) (ee_ixL (ee_ixL (ee_var rfl) (ee_var rfl) eb) (ee_var rfl) (at_il (by omega))) (.inl ⟨by omega, by omega⟩))
  refine q_freeze 4 rfl ?_
  refine q_freeze 10 rfl ?_
  rw [md] at hrt
  refine go_ret (EvE.is (en_cat (ds := Z.cutD (st.2.2.map il) none (some (place : Int)) ++ [il (osum (fac8 ns) len st.2.1 st.2.1.length)]) (es := Z.cutD (st.2.2.map il) (some (place : Int)) none) (en_cat (en_slL (ee_var rfl) eo_none (eo_some (ee_var rfl))).ee (en_lst (ea_cons (ee_var rfl) ea_nil) (by simp)).ee ?_).ee (en_slL (ee_var rfl) (eo_some (ee_var rfl)) eo_none).ee ?_).ee ?_) hrt
  · rw [cut_to]; simp; omega
  · rw [cut_to, cut_from]; simp; omega
  · rw [cut_to, cut_from, List.map_append, List.map_append, List.map_take, List.map_drop]; rfl
end
end K35

namespace M
open K35
/-! ### the matrix has all but one rank -/
theorem unit_fn {len p j : Nat} (hp : p < len) : fn (unit len p) j = if j = p then 1 else 0 := by
  rcases Nat.lt_or_ge j len with x | x
  · rw [fn_lt (by simpa [unit] using x)]
    simp only [unit, List.getElem_map, List.getElem_range]
    by_cases h : j = p
    · simp [h]
    · have : ¬ ((j : Int) = (p : Int)) := by omega
      simp [h, this]
  · rw [fn_ge (by simpa [unit] using x)]
    rw [if_neg (by omega)]
theorem LW.unit {n : Nat} {us : List (List Int)} {rows : Red} (l : LW n us rows) (h : rows.length < n) : ∃ p, p < n ∧ ∃ j, W (us.map fn) (csOf rows) (fn (unit n p)) j ≠ 0 := by
  by_cases hh : ∃ p, p < n ∧ ∃ j, W (us.map fn) (csOf rows) (fn (K35.unit n p)) j ≠ 0
  · exact hh
  · exfalso
    have z : ∀ p < n, ∀ j, W (us.map fn) (csOf rows) (fn (K35.unit n p)) j = 0 := fun p hp j => by
      by_cases e : W (us.map fn) (csOf rows) (fn (K35.unit n p)) j = 0
      · exact e
      · exact absurd ⟨p, hp, j, e⟩ hh
    have L : Led ((List.range n).map fun p => (p, fn (K35.unit n p))) := .of (fun q hq => by
      obtain ⟨p, hp, rfl⟩ := List.mem_map.1 hq
      have hp : p < n := by simpa using hp
      refine ⟨fun j hj => ?_, ?_⟩
      · show fn (K35.unit n p) j = 0
        have hj : j < p := hj
        rw [unit_fn hp, if_neg (by omega)]
      · show fn (K35.unit n p) p ≠ 0
        rw [unit_fn hp, if_pos rfl]; decide) (by
      rw [List.map_map]
      have : ((fun x : Nat × V => x.1) ∘ fun p => (p, fn (K35.unit n p))) = id := rfl
      rw [this, List.map_id]; exact List.nodup_range)
    have sub := L.sub l.led (fun q hq => by
      obtain ⟨p, hp, rfl⟩ := List.mem_map.1 hq
      have hp : p < n := by simpa using hp
      rw [vrows_2]
      refine Qs.of_W (us := us.map fn) (cs := csOf rows) l.good (fun u hu => ?_) (Qs.zero.ext (z p hp))
      obtain ⟨v, hv, rfl⟩ := List.mem_map.1 hu
      exact l.u_r v hv)
    have nd := L.nodup
    have := nd.length_le_of_subset sub
    simp [vrows] at this
    omega
theorem cstep_len {n : Nat} {st : St3} (h : MI n st) {t : Int} {k : Nat} {c : List Int} (hc : c.length = n) (hk : st.1.length = k) :
    (cstep t k st c).1.length = k + 1 ∨ (cstep t k st c = st ∧ ∀ us, LW n us st.1 → ∀ j, W (us.map fn) (csOf st.1) (fn c) j = 0) := by
  obtain ⟨us, l, _⟩ := h.lw
  rcases l.with hc with ⟨e1, z⟩ | ⟨cc, e1, _, j, hj⟩
  · right
    refine ⟨?_, fun us' l' j => ?_⟩
    · unfold cstep
      rw [if_neg]
      rw [e1, Bool.and_eq_true]
      rintro ⟨_, h2⟩
      have := of_decide_eq_true h2
      omega
    · rcases l'.with hc with ⟨_, z'⟩ | ⟨c2, e2, _, _⟩
      · exact z' j
      · rw [e1] at e2
        have := congrArg List.length e2
        simp at this
  · left
    unfold cstep
    rw [if_pos]
    · show (lwith st.1 c).length = k + 1
      rw [e1]; simp [hk]
    · rw [e1, Bool.and_eq_true]
      exact ⟨decide_eq_true (by omega), decide_eq_true (by simp; omega)⟩
theorem cstep_stay {st : St3} {t : Int} {k : Nat} {c : List Int} (hk : st.1.length = k + 1) : cstep t k st c = st := by
  unfold cstep
  rw [if_neg]
  rw [Bool.and_eq_true]
  rintro ⟨h1, _⟩
  have := of_decide_eq_true h1
  omega
theorem cfold {n : Nat} {t : Int} (ht : t ≠ 0) (ht2 : t.natAbs < 2 ^ 62) {k : Nat} : ∀ (cs : List (List Int)) {st : St3}, MI n st → (∀ c ∈ cs, c.length = n) → st.1.length = k →
    (cs.foldl (cstep t k) st).1.length = k + 1 ∨ (cs.foldl (cstep t k) st = st ∧ ∀ c ∈ cs, ∀ us, LW n us st.1 → ∀ j, W (us.map fn) (csOf st.1) (fn c) j = 0)
  | [], st, h, _, _ => .inr ⟨rfl, fun c hc => (List.not_mem_nil hc).elim⟩
  | c :: cs, st, h, hc, hk => by
    rw [List.foldl_cons]
    rcases cstep_len h (t := t) (hc c List.mem_cons_self) hk with e | ⟨e, z⟩
    · left
      have : ∀ (cs : List (List Int)) (s2 : St3), s2.1.length = k + 1 → (cs.foldl (cstep t k) s2).1.length = k + 1 := by
        intro cs
        induction cs with
        | nil => intro s2 h2; exact h2
        | cons c2 cs ih => intro s2 h2; rw [List.foldl_cons, cstep_stay h2]; exact ih s2 h2
      exact this cs _ e
    · rw [e]
      rcases cfold ht ht2 cs h (fun x hx => hc x (List.mem_cons_of_mem _ hx)) hk with e2 | ⟨e2, z2⟩
      · exact .inl e2
      · refine .inr ⟨e2, fun x hx => ?_⟩
        rcases List.mem_cons.1 hx with rfl | hx
        · exact z
        · exact z2 x hx
theorem mst_len (ns : List Int) {len : Nat} (hl : len ≤ 8) : ∀ k < len, (mst ns len k).1.length = k
  | 0, _ => rfl
  | k + 1, hk => by
    have ih := mst_len ns hl k (by omega)
    have mi := mst_ok ns hl k
    rcases cfold (lawTimes_ne (K35.rk_row (lawSeed ns (1 + k)) 30)) (lawTimes_bnd (rowB ns k)) (k := k) (cands ns len k) mi (fun c hc => (cands_ok ns hl k c hc).1) ih with e | ⟨_, z⟩
    · exact e
    · exfalso
      obtain ⟨us, l, _⟩ := mi.lw
      obtain ⟨p, hp, j, hj⟩ := LW.unit l (by omega)
      refine hj (z (K35.unit len p) (List.mem_append_right _ (List.mem_map_of_mem (List.mem_range.2 hp))) us l j)
theorem osum_qs {S : V → Prop} (row : List Int) (len : Nat) (bs : List (List Int)) (hb : ∀ u ∈ bs, u.length = len ∧ Qs S (fn u)) : ∀ k ≤ bs.length, Qs S (fn (osum row len bs k))
  | 0, _ => Qs.zero.ext fun j => by
    rcases Nat.lt_or_ge j len with x | x
    · rw [fn_lt (by simpa [osum] using x)]; simp [osum]
    · exact fn_ge (by simpa [osum] using x)
  | k + 1, hk => by
    have hm : bs.getD k [] ∈ bs := List.mem_of_getElem? (Z.get_getD (by omega))
    refine (Qs.lin 1 (fn row k % 7 - 3) (osum_qs row len bs hb k (by omega)) (hb _ hm).2).ext fun j => ?_
    rw [show fn (osum row len bs (k + 1)) j = fn (osum row len bs k) j + (fn row k % 7 - 3) * fn (bs.getD k []) j from ?_]
    · omega
    · refine fn_map_range (w := fun j => fn (osum row len bs k) j + (fn row k % 7 - 3) * fn (bs.getD k []) j) (fun j _ => rfl) (fun j hj => ?_) j
      show _ + _ = (0 : Int)
      rw [fn_ge (r := osum row len bs k) (j := j) (by rw [osum_len]; exact hj), fn_ge (r := bs.getD k []) (j := j) (by rw [(hb _ hm).1]; exact hj)]; omega
theorem osum_bnd (row : List Int) (hr : Rk row 8) (len : Nat) (bs : List (List Int)) {N : Nat} (hb : ∀ v ∈ bs, ∀ x ∈ v, x.natAbs ≤ N) : ∀ k, ∀ x ∈ osum row len bs k, x.natAbs ≤ 3 * k * N
  | 0, x, hx => by
    have := List.eq_of_mem_replicate hx
    subst this; simp
  | k + 1, x, hx => by
    obtain ⟨j, hj, rfl⟩ := List.mem_map.1 hx
    have h1 := fn_bnd (osum_bnd row hr len bs hb k) j
    have ak := hr.at k
    have g : (fn (bs.getD k []) j).natAbs ≤ N := by
      by_cases hi : k < bs.length
      · exact fn_bnd (hb _ (List.mem_of_getElem? (Z.get_getD hi))) j
      · have : bs.getD k [] = [] := by simp [List.getD_eq_getElem?_getD, Nat.le_of_not_lt hi]
        rw [this, fn_ge (Nat.zero_le _)]; exact Nat.zero_le _
    have m := Nat.mul_le_mul (show (fn row k % 7 - 3).natAbs ≤ 3 by omega) g
    rw [← Int.natAbs_mul] at m
    have e : 3 * (k + 1) * N = 3 * k * N + 3 * N := by rw [Nat.mul_add, Nat.add_mul]
    omega
theorem fn_times (t : Int) (u : List Int) (j : Nat) : fn (u.map fun x => t * x) j = t * fn u j := by
  rcases Nat.lt_or_ge j u.length with x | x
  · rw [fn_lt (by simpa using x), fn_lt x]; simp
  · rw [fn_ge (by simpa using x), fn_ge x]; omega
theorem matL_ok (ns : List Int) {len : Nat} (h1 : 1 ≤ len) (hl : len ≤ 8) {place : Nat} (hp : place < len) : Vok len (matL ns len place) ∧ (matL ns len place).length = len ∧ (red (matL ns len place) len).1.length + 1 = len := by
  have mi := mst_ok ns hl (len - 1)
  have ml := mst_len ns hl (len - 1) (by omega)
  have fw := mi.few
  have ln := mi.ln
  have mem : ∀ r, r ∈ matL ns len place ↔ r ∈ (mst ns len (len - 1)).2.2 ∨ r = osum (fac8 ns) len (mst ns len (len - 1)).2.1 (mst ns len (len - 1)).2.1.length := fun r => by
    have e : ∀ x, x ∈ (mst ns len (len - 1)).2.2 ↔ x ∈ (mst ns len (len - 1)).2.2.take place ∨ x ∈ (mst ns len (len - 1)).2.2.drop place := fun x => by
      rw [← List.mem_append, List.take_append_drop]
    unfold matL
    rw [List.mem_append, List.mem_append, List.mem_singleton, e]
    constructor
    · rintro ((h | h) | h)
      · exact .inl (.inl h)
      · exact .inr h
      · exact .inl (.inr h)
    · rintro ((h | h) | h)
      · exact .inl (.inl h)
      · exact .inr h
      · exact .inl (.inr h)
  have mlen : (matL ns len place).length = len := by
    unfold matL
    simp only [List.length_append, List.length_take, List.length_drop, List.length_singleton]
    omega
  generalize hst : mst ns len (len - 1) = st at *
  have rf : Rk (fac8 ns) 8 := K35.rk_row _ _
  have V0 : Vok len (matL ns len place) := by
    refine ⟨fun r hr => ?_, fun r hr => ?_⟩
    · rcases (mem r).1 hr with a | a
      · obtain ⟨u, hu, t, _, _, rfl⟩ := mi.tb r a
        rw [List.length_map]; exact (mi.bl u hu).1
      · rw [a, osum_len]
    · rcases (mem r).1 hr with a | a
      · obtain ⟨u, hu, t, _, h2, rfl⟩ := mi.tb r a
        intro x hx
        obtain ⟨y, hy, rfl⟩ := List.mem_map.1 hx
        rw [Int.natAbs_mul]
        refine Nat.le_trans (Nat.mul_le_mul (Nat.le_of_lt h2) ((mi.bl u hu).2 y hy)) ?_
        rw [← Nat.pow_add]
        exact Nat.pow_le_pow_right (by decide) (by decide)
      · intro x hx
        rw [a] at hx
        have := osum_bnd (fac8 ns) rf len st.2.1 (fun u hu => (mi.bl u hu).2) _ x hx
        refine Nat.le_trans this ?_
        have P : 2 ^ 100 * 1000 ≤ BB := by unfold BB; rw [show 190 = 100 + 90 from rfl, Nat.pow_add]; exact Nat.mul_le_mul_left _ (by decide)
        refine Nat.le_trans ?_ P
        rw [Nat.mul_comm]
        exact Nat.mul_le_mul_left _ (by omega)
  refine ⟨V0, mlen, ?_⟩
  obtain ⟨us, l, eus⟩ := mi.lw
  obtain ⟨us', I⟩ := Inv.all V0.len len
  have base_us : ∀ u ∈ st.2.1, Qs (· ∈ us.map fn) (fn u) := fun u hu => .mem (List.mem_map_of_mem (List.mem_reverse.1 (by rw [eus]; exact hu)))
  have up : ∀ v ∈ matL ns len place, Qs (· ∈ us.map fn) (fn v) := fun v hv => by
    rcases (mem v).1 hv with a | a
    · obtain ⟨u, hu, t, _, _, rfl⟩ := mi.tb v a
      exact (Qs.lin t 0 (base_us u hu) .zero).ext fun j => by rw [fn_times]; omega
    · rw [a]
      exact osum_qs _ _ _ (fun u hu => ⟨(mi.bl u hu).1, base_us u hu⟩) _ (Nat.le_refl _)
  have dn : ∀ u ∈ us, Qs (· ∈ (matL ns len place).map fn) (fn u) := fun u hu => by
    obtain ⟨r, hr, t, ht, e⟩ := mi.bt u (by rw [← eus]; exact List.mem_reverse.2 hu)
    refine .div t ht ((Qs.mem (List.mem_map_of_mem ((mem r).2 (.inl hr)))).ext fun j => ?_)
    rw [e, fn_times]
  have := I.led.len l.led (fun p hp => by
    obtain ⟨q, hq, rfl⟩ := vrows_mem hp
    rw [vrows_2]
    refine (I.sub q hq).trans fun x hx => ?_
    obtain ⟨v, hv, rfl⟩ := List.mem_map.1 hx
    refine (up v hv).trans fun x hx => ?_
    obtain ⟨u, hu, rfl⟩ := List.mem_map.1 hx
    exact l.u_r u hu) (fun p hp => by
    obtain ⟨q, hq, rfl⟩ := vrows_mem hp
    rw [vrows_2]
    refine (l.r_u q hq).trans fun x hx => ?_
    obtain ⟨u, hu, rfl⟩ := List.mem_map.1 hx
    refine (dn u hu).trans fun x hx => ?_
    obtain ⟨v, hv, rfl⟩ := List.mem_map.1 hx
    exact I.full v hv)
  simp [vrows] at this
  omega
end M

namespace K35
open PySem PySem.Spec PyProof.Rows L2 Z StX M
local macro_rules | `(tactic| walk_at "sd") => `(tactic| first | decide | omega | assumption | rfl | (simp; done) | (simp only [List.length_map, List.length_cons, List.length_nil]; omega))
local macro_rules | `(tactic| walk_at "ev") => `(tactic| first
  | exact ee_int | exact ee_strX (by decide +kernel) | exact ee_str | exact ee_bl | exact ee_non
  | exact ee_var rfl
  | (refine' ee_add ?e1 ?e2; (case e1 => walk_at "ev"); (case e2 => walk_at "ev"))
  | (refine' ee_sub ?e1 ?e2; (case e1 => walk_at "ev"); (case e2 => walk_at "ev"))
  | (refine' ee_mul ?e1 ?e2 ?e3; (case e1 => walk_at "ev"); (case e2 => walk_at "ev"); (case e3 => walk_at "cm"))
  | (refine' ee_div ?e1 ?e2 ?e3; (case e1 => walk_at "ev"); (case e2 => walk_at "ev"); (case e3 => exact ⟨by decide, by decide⟩))
  | (refine' ee_mod ?e1 ?e2 ?e3; (case e1 => walk_at "ev"); (case e2 => walk_at "ev"); (case e3 => walk_at "sd"))
  | (refine' ee_powR ?e1 ?e2 ?e3 ?e4; (case e1 => walk_at "ev"); (case e2 => walk_at "ev"); (case e3 => exact ⟨by decide, by decide, by decide⟩); (case e4 => rfl))
  | (refine' ee_intI ?e1; (case e1 => walk_at "ev"))
  | (refine' ee_intB ?e1; (case e1 => walk_at "ev"))
  | (refine' ee_lenL ?e1; (case e1 => walk_at "ev"))
  | (refine' ee_lenX ?e1 ?e2; (case e1 => walk_at "ev"); (case e2 => walk_at "sz"))
  | (refine' ee_lenS ?e1 ?e2; (case e1 => walk_at "ev"); (case e2 => walk_at "sz"))
  | (refine' ee_lenT ?e1; (case e1 => walk_at "ev"))
  | (refine' ee_lt ?e1 ?e2; (case e1 => walk_at "ev"); (case e2 => walk_at "ev")) | (refine' ee_le ?e1 ?e2; (case e1 => walk_at "ev"); (case e2 => walk_at "ev")) | (refine' ee_gt ?e1 ?e2; (case e1 => walk_at "ev"); (case e2 => walk_at "ev")) | (refine' ee_ge ?e1 ?e2; (case e1 => walk_at "ev"); (case e2 => walk_at "ev"))
  | (refine' ee_eqI ?e1 ?e2; (case e1 => walk_at "ev"); (case e2 => walk_at "ev")) | (refine' ee_eqS ?e1 ?e2; (case e1 => walk_at "ev"); (case e2 => walk_at "ev")) | (refine' ee_eqB ?e1 ?e2; (case e1 => walk_at "ev"); (case e2 => walk_at "ev"))
  | (refine' ee_neI ?e1 ?e2; (case e1 => walk_at "ev"); (case e2 => walk_at "ev")) | (refine' ee_neS ?e1 ?e2; (case e1 => walk_at "ev"); (case e2 => walk_at "ev"))
  | (refine' ee_neg ?e1; (case e1 => walk_at "ev"))
  | (refine' ee_max2 ?e1 ?e2; (case e1 => walk_at "ev"); (case e2 => walk_at "ev")) | (refine' ee_min2 ?e1 ?e2; (case e1 => walk_at "ev"); (case e2 => walk_at "ev"))
  | (refine' ee_eqX ?e1 ?e2; (case e1 => walk_at "ev"); (case e2 => walk_at "ev")) | (refine' ee_neX ?e1 ?e2; (case e1 => walk_at "ev"); (case e2 => walk_at "ev"))
  | (refine' ee_inX ?e1 ?e2; (case e1 => walk_at "ev"); (case e2 => walk_at "ev")) | (refine' ee_ninX ?e1 ?e2; (case e1 => walk_at "ev"); (case e2 => walk_at "ev"))
  | (refine' ee_startsX ?e1 ?e2; (case e1 => walk_at "ev"); (case e2 => walk_at "ev"))
  | (refine' ee_catX ?e1 ?e2 ?e3; (case e1 => walk_at "ev"); (case e2 => walk_at "ev"); (case e3 => walk_at "sz"))
  | (refine' ee_slX ?e1 ?e2 ?e3 ?e4; (case e1 => walk_at "ev"); (case e2 => walk_at "evo"); (case e3 => walk_at "evo"); (case e4 => walk_at "sz"))
  | (refine' ee_inS ?e1 ?e2; (case e1 => walk_at "ev"); (case e2 => walk_at "ev")) | (refine' ee_ninS ?e1 ?e2; (case e1 => walk_at "ev"); (case e2 => walk_at "ev"))
  | (refine' ee_startswith ?e1 ?e2; (case e1 => walk_at "ev"); (case e2 => walk_at "ev"))
  | (refine' ee_notV ?e1; (case e1 => walk_at "ev"))
  | (refine' ee_catS ?e1 ?e2 ?e3; (case e1 => walk_at "ev"); (case e2 => walk_at "ev"); (case e3 => walk_at "sz"))
  | (refine' (en_lst ?e1 ?e2).ee; (case e1 => walk_at "eva"); (case e2 => walk_at "sd"))
  | (refine' ee_tup ?e1 ?e2; (case e1 => walk_at "eva"); (case e2 => walk_at "sd"))
  | (refine' (en_slL ?e1 ?e2 ?e3).ee; (case e1 => walk_at "ev"); (case e2 => walk_at "evo"); (case e3 => walk_at "evo"))
  | (refine' ee_slS ?e1 ?e2 ?e3 ?e4; (case e1 => walk_at "ev"); (case e2 => walk_at "evo"); (case e3 => walk_at "evo"); (case e4 => walk_at "sz"))
  | (refine' (en_listL ?e1).ee; (case e1 => walk_at "ev"))
  | (refine' (en_listT ?e1).ee; (case e1 => walk_at "ev"))
  | (refine' ee_tupL ?e1; (case e1 => walk_at "ev"))
  | (refine' ee_tupT ?e1; (case e1 => walk_at "ev")))
local macro_rules | `(tactic| walk_at "eva") => `(tactic| first | exact ea_nil | (refine' ea_cons ?e1 ?e2; (case e1 => walk_at "ev"); (case e2 => walk_at "eva")))
local macro_rules | `(tactic| walk_at "evo") => `(tactic| first | exact eo_none | (refine' eo_some ?e1; (case e1 => walk_at "ev")))
local macro_rules | `(tactic| walk_at "evt") => `(tactic| first
  | (refine' et_test ?e1; (case e1 => walk_at "ev")) | (refine' et_B ?e1; (case e1 => walk_at "ev")) | (refine' et_not ?e1; (case e1 => walk_at "evt"))
  | (refine' et_and ?e1 ?e2; (case e1 => walk_at "evt"); (case e2 => (intro _; walk_at "evt")))
  | (refine' et_or ?e1 ?e2; (case e1 => walk_at "evt"); (case e2 => (intro _; walk_at "evt"))))
local macro_rules | `(tactic| walk_at "sub") => `(tactic| first | exact Sub.refl _ | (refine sub_cons ?_; walk_at "sub") | (refine sub_no ?_; walk_at "sub"))
local macro_rules | `(tactic| walk_at "cm") => `(tactic| first | exact Or.inr ⟨by omega, by omega⟩ | exact Or.inl ⟨by omega, by omega⟩)
local macro_rules | `(tactic| walk_at "evi") => `(tactic| (refine' EvE.is ?h ?e; (case h => walk_at "ev"); (case e => first | rfl | (congr 1; done) | skip)))
local macro_rules | `(tactic| walk_at "sz") => `(tactic| first | assumption | omega | (simp; omega) | (simp only [List.length_append, List.length_map, List.length_cons, List.length_nil]; omega))

/-! ### list == list -/
def pdI (l : List Int) : PyData := .list (l.map .int)
def pdL (vs : List (List Int)) : PyData := .list (vs.map pdI)
theorem clI : ∀ l : List Int, PyData.canLayAll0 (l.map PyData.int) = true
  | [] => rfl
  | x :: l => by rw [List.map_cons, PyData.canLayAll0, clI l]; rfl
theorem clL : ∀ l : List (List Int), PyData.canLayAll0 (l.map pdI) = true
  | [] => rfl
  | x :: l => by
    rw [List.map_cons, PyData.canLayAll0, clL l]
    have : (pdI x).canLay0 = true := by unfold pdI; rw [PyData.canLay0]; exact clI x
    rw [this]; rfl
theorem dpI : ∀ l : List Int, PyData.depthAll (l.map PyData.int) ≤ 1
  | [] => by simp [PyData.depthAll]
  | x :: l => by rw [List.map_cons, PyData.depthAll]; have := dpI l; simp [PyData.depth]; omega
theorem dpL : ∀ l : List (List Int), PyData.depthAll (l.map pdI) ≤ 2
  | [] => by simp [PyData.depthAll]
  | x :: l => by
    rw [List.map_cons, PyData.depthAll]
    have h1 := dpL l
    have h2 := dpI x
    have : (pdI x).depth ≤ 2 := by unfold pdI; rw [PyData.depth]; omega
    omega
theorem shI (l : List Int) : SeqAt.shaped (pdI l) = true := by
  unfold SeqAt.shaped pdI
  rw [PyData.canLay0, clI, PyData.depth]
  have := dpI l
  simp; omega
theorem shL (l : List (List Int)) : SeqAt.shaped (pdL l) = true := by
  unfold SeqAt.shaped pdL
  rw [PyData.canLay0, clL, PyData.depth]
  have := dpL l
  simp; omega
theorem eqI : ∀ l : List Int, PyData.eqvAll (l.map PyData.int) (l.map PyData.int) = true
  | [] => rfl
  | x :: l => by rw [List.map_cons, PyData.eqvAll, eqI l]; simp [PyData.eqv]
theorem eqL : ∀ l : List (List Int), PyData.eqvAll (l.map pdI) (l.map pdI) = true
  | [] => rfl
  | x :: l => by
    rw [List.map_cons, PyData.eqvAll, eqL l]
    have : PyData.eqv (pdI x) (pdI x) = true := by unfold pdI; rw [PyData.eqv]; exact eqI x
    rw [this]; rfl
section
variable {K : PySem.W.Frag} {env : List Z.Slot} {ta tb te tc : TE} {d d1 d2 : D}
theorem dpa_ints {H : Hp} : ∀ {l : List Int} {ws : List L2.V}, Reps K H (l.map D.int) ws → DpAll K H ws (l.map PyData.int)
  | [], ws, r => by
    have := r.ints; subst this; exact .nil
  | x :: l, ws, r => by
    have r := r
    rw [List.map_cons] at r
    unfold Reps at r
    obtain ⟨y, zs, rfl, h1, h2⟩ := r
    unfold Rep at h1; subst h1
    exact .cons (.int x) (dpa_ints h2)
theorem dp_ints {H : Hp} {l : List Int} {x : L2.V} (r : Rep K H (il l) x) : Dp K H x (pdI l) := by
  unfold Rep at r
  obtain ⟨a, ws, rfl, e1, e2⟩ := r
  exact .lst e1 (dpa_ints e2)
theorem dpa_rows {H : Hp} : ∀ {l : List (List Int)} {ws : List L2.V}, Reps K H (l.map il) ws → DpAll K H ws (l.map pdI)
  | [], ws, r => by
    rw [List.map_nil] at r
    unfold Reps at r; subst r; exact .nil
  | x :: l, ws, r => by
    have r := r
    rw [List.map_cons] at r
    unfold Reps at r
    obtain ⟨y, zs, rfl, h1, h2⟩ := r
    exact .cons (dp_ints h1) (dpa_rows h2)
theorem dp_rows {H : Hp} {l : List (List Int)} {x : L2.V} (r : Rep K H (.lst (l.map il)) x) : Dp K H x (pdL l) := by
  unfold Rep at r
  obtain ⟨a, ws, rfl, e1, e2⟩ := r
  exact .lst e1 (dpa_rows e2)
theorem ee_eqIL {l : List Int} (h1 : EvE K ta env (il l)) (h2 : EvE K tb env (il l)) : EvE K (tOp (rEqD K) ta tb) env (.bl true) := ee_op h1 h2 fun B F x y hf r1 r2 Q q => by
  refine ⟨pdI l, pdI l, dp_ints (r1.mono hf), dp_ints (r2.mono hf), shI l, shI l, ?_⟩
  have : PyData.eqv (pdI l) (pdI l) = true := by unfold pdI; rw [PyData.eqv]; exact eqI l
  rw [this]
  exact q B F _ (Gr.refl hf) (rp_bl B)
theorem ee_eqLL {l : List (List Int)} (h1 : EvE K ta env (.lst (l.map il))) (h2 : EvE K tb env (.lst (l.map il))) : EvE K (tOp (rEqD K) ta tb) env (.bl true) := ee_op h1 h2 fun B F x y hf r1 r2 Q q => by
  refine ⟨pdL l, pdL l, dp_rows (r1.mono hf), dp_rows (r2.mono hf), shL l, shL l, ?_⟩
  have : PyData.eqv (pdL l) (pdL l) = true := by unfold pdL; rw [PyData.eqv]; exact eqL l
  rw [this]
  exact q B F _ (Gr.refl hf) (rp_bl B)
theorem ee_neIL {l : List Int} (h1 : EvE K ta env (il l)) (h2 : EvE K tb env (il l)) : EvE K (tOp (rNeD K) ta tb) env (.bl false) := ee_op h1 h2 fun B F x y hf r1 r2 Q q => by
  refine ⟨pdI l, pdI l, dp_ints (r1.mono hf), dp_ints (r2.mono hf), shI l, shI l, ?_⟩
  have : PyData.eqv (pdI l) (pdI l) = true := by unfold pdI; rw [PyData.eqv]; exact eqI l
  rw [this]
  exact q B F _ (Gr.refl hf) (rp_bl B)
end
/-! ### the law's judgement -/
def fst0 (v : List Int) : Int := v.foldl (fun f x => if decide (f = 0) = true then x else f) 0
structure RightOk (v : List Int) (vs : List (List Int)) : Prop where
  vl : v.length = vs.length
  ll : vs.length ≤ 900
  rl : ∀ r ∈ vs, r.length = v.length
  vb : ∀ x ∈ v, x.natAbs.log2 < 100000
  rb : ∀ r ∈ vs, ∀ x ∈ r, Sm x
  gcd : v.foldl gcdF 0 = 1
  fst : 0 < fst0 v
  sum : ∀ r ∈ vs, ((List.range v.length).map fun j => fn r j * fn v j).sum = 0
def R_right : List D → D → Prop := fun ds r => ∃ (v : List Int) (vs : List (List Int)), ds = [il v, .lst (vs.map il)] ∧ RightOk v vs ∧ r = .bl true
section
variable {P : Program} {w : World} {K : PySem.W.Frag} {mg : Str → Option Value} {base : Heap} {f : Addr} {fd : FuncData}
theorem ok__law_right (F : Fun K "_law_right" "_law_right" s__law_right f fd) (T : Txt mg) (C__law_is_integer : Cal P w K mg base "_law_is_integer" 1 ["actual"] (spR K R_isint)) (C__law_gcd : Cal P w K mg base "_law_gcd" 1 ["one", "other"] (spR K R_gcd)) :
    FnOk P w K mg base CX0 2 f fd ["answer", "table"] (spR K R_right) := by
  refine ok_def F sc__law_right (fun ds r h => by obtain ⟨a, l, rfl, _⟩ := h; rfl) (fun cdv A outer s H E hr => ⟨_, (pss_cons (ps_if (PW.pt (pw_or (pt_not (pt_val (pe_callB (k_isi K) (by rfl) T.n_isinstance (by decide +kernel) (pa_cons (pv 0) (pa_cons (pe_bltn (v := .ty "list") (by rfl) T.n_list (by decide +kernel) rfl) pa_nil))))) (pw_or1 (pt_cmpR op_ne (pe_callB (k_call_len K) (by rfl) T.n_len (by decide +kernel) (pa_cons (pv 0) pa_nil)) (pe_callB (k_call_len K) (by rfl) T.n_len (by decide +kernel) (pa_cons (pv 1) pa_nil)) (nomark _))))) (pss_one (ps_ret pe_bl)) pss_nil)
    (pss_cons (ps_set (i := 2) sc__law_right.nd rfl (Or.inl rfl) pe_int)
    (pss_cons (ps_set (i := 3) sc__law_right.nd rfl (Or.inl rfl) pe_int)
    (pss_cons (ps_for PassesOwn.never rfl (k_pi_list K (pv 0)) (pg_name (i := 4) sc__law_right.nd rfl (Or.inl rfl))
    (pss_cons (ps_if (pt_not (pt_val (pe_cal (C__law_is_integer.mono (by decide)) hr (by rfl) (pa_cons (pv 4) pa_nil)))) (pss_one (ps_ret pe_bl)) pss_nil)
    (pss_cons (ps_set (i := 2) sc__law_right.nd rfl (Or.inl rfl) (pe_cal (C__law_gcd.mono (by decide)) hr (by rfl) (pa_cons (pv 2) (pa_cons (pv 4) pa_nil))))
    (pss_one (ps_if (pt_cmpR op_eq (pv 3) pe_int (nomark _)) (pss_one (ps_set (i := 3) sc__law_right.nd rfl (Or.inl rfl) (pv 4))) pss_nil)))))
    (pss_cons (ps_for PassesOwn.never rfl (k_pi_list K (pv 1)) (pg_name (i := 5) sc__law_right.nd rfl (Or.inr rfl))
    (pss_one (ps_if (pt_cmpR op_ne (pe_callB (k_sum K) (by rfl) T.n_sum (by decide +kernel) (pa_cons (pe_lc (own := [("j", 6)]) rfl sc__law_right.nd (pi_range1 (by rfl) T.n_range (pa_cons (pe_callB (k_call_len K) (by rfl) T.n_len (by decide +kernel) (pa_cons (pv 0) pa_nil)) pa_nil)) (blkOk_by (N := N__law_right) (sc := defScope s__law_right) (by decide +kernel)) (fun _ _ _ _ _ => (pg_name (i := 6) sc__law_right.nd rfl (Or.inl rfl))) (fun _ _ _ _ _ => pts_nil) (fun _ _ _ _ _ => (pe_op op_mulW (pe_ix (k_ix_list K) (pv 5) (pv 6) (fun _ _ => rfl)) (pe_ix (k_ix_list K) (pv 0) (pv 6) (fun _ _ => rfl))))) pa_nil)) pe_int (nomark _)) (pss_one (ps_ret pe_bl)) pss_nil)))
    (pss_one (ps_ret (pe_and (pe_cmpR op_gt (pv 3) pe_int (nomark _)) (pe_one (pe_cmpR op_eq (pv 2) pe_int (nomark _))))))))))), fun ds r h H0 H1 E' hrt => ?_⟩)
  obtain ⟨v, vs, rfl, ok, rfl⟩ := h
  refine q_leave (b := !true || !decide ((v.length : Int) = (vs.length : Nat))) (et_or (et_not (et_B (ee_isiL (ds := v.map D.int) (ee_var rfl) (kit_ty (by decide +kernel))))) (fun _ => et_test (EvE.is (ee_neI (ee_lenL (ds := v.map D.int) (ee_var rfl)) (ee_lenL (ds := vs.map il) (ee_var rfl))) (by rw [List.length_map, List.length_map])))) (fun h => by simp [ok.vl] at h) (fun h => ?_)
  refine q_asg (d := .int 0) ee_int ?_
  refine q_asg (d := .int 0) ee_int ?_
  refine q_for1 (rep := D.int) (xs := v) (fun i => [.val (il v), .val (.lst (vs.map il)), .val (.int ((v.take i).foldl gcdF 0)), .val (.int (fst0 (v.take i))), .no, .no, .no]) (ei_list (ee_var rfl)) (by walk_at "sub") (fun i x hx G0 E2 hr2 hb2 hn hc => ?_) ?_
  · have e1 : (v.take (i + 1)).foldl gcdF 0 = gcdF ((v.take i).foldl gcdF 0) x := by rw [List.take_add_one, hx, List.foldl_append]; rfl
    have e2 : fst0 (v.take (i + 1)) = if decide (fst0 (v.take i) = 0) = true then x else fst0 (v.take i) := by unfold fst0; rw [List.take_add_one, hx, List.foldl_append]; rfl
    rw [e1, e2] at hn
    refine q_leave (b := !true) (et_not (et_B (ee_call (ea_cons (ee_var rfl) ea_nil) ⟨x, rfl, rfl⟩))) (fun h => by cases h) (fun h => ?_)
    refine q_asg (d := .int (gcdF ((v.take i).foldl gcdF 0) x)) (ee_call (ea_cons (ee_var rfl) (ea_cons (ee_var rfl) ea_nil)) ⟨(v.take i).foldl gcdF 0, x, rfl, ok.vb x (List.mem_of_getElem? hx), rfl⟩) ?_
    refine go_if (b := decide (fst0 (v.take i) = 0)) (et_test (ee_eqI (ee_var rfl) ee_int)) (fun h => ?_) (fun h => ?_)
    · rw [if_pos h] at hn
      exact go_asg (d := .int x) (ee_var rfl) (nx_sub (by walk_at "sub") hn)
    · rw [if_neg (by rw [h]; decide)] at hn
      exact go_next (nx_sub (by walk_at "sub") hn)
  rw [List.take_length, ok.gcd]
  have hll := ok.ll
  have hvl := ok.vl
  refine q_for1 (rep := il) (xs := vs) (fun _ => [.val (il v), .val (.lst (vs.map il)), .val (.int 1), .val (.int (fst0 v)), .no, .no, .no]) (ei_list (ee_var rfl)) (Sub.refl _) (fun i r hx G0 E2 hr2 hb2 hn hc => ?_) ?_
  · have hm := List.mem_of_getElem? hx
    refine go_if (b := !decide ((0 : Int) = 0)) (et_test (EvE.is (ee_neI (ee_sum (ns := (List.range v.length).map fun j => fn r j * fn v j) ?_) ee_int) (by rw [ok.sum r hm]))) (fun h => by simp at h) (fun h => go_next (nx_sub (by walk_at "sub") hn))
    have e3 : ((List.range v.length).map fun j => fn r j * fn v j).map D.int = (List.range v.length).map (D.int ∘ fun j => fn r j * fn v j) := by rw [List.map_map]
    rw [e3]
    refine (en_lc1 (rep := fun (j : Nat) => D.int (j : Int)) (w := D.int ∘ fun j => fn r j * fn v j) (ei_rngN (EvE.is (ee_lenL (ds := v.map D.int) (ee_var rfl)) (by rw [List.length_map])) (by omega)) (by simp) (by simp; omega) (fun j hj => ?_)).ee
    have hj : j < v.length := by simpa using hj
    have f1 := ok.vb _ (fn_mem hj)
    have f2 := (Sm.fn (ok.rb _ hm) j).log
    exact ee_mulW (ee_ixL (ee_var rfl) (ee_var rfl) (at_il (by rw [ok.rl r hm]; exact hj))) (ee_ixL (ee_var rfl) (ee_var rfl) (at_il hj)) (by unfold CMulW; omega)
  refine go_ret (ee_andV (a := decide ((0 : Int) < fst0 v)) (b := decide ((1 : Int) = 1)) (ee_gt (ee_var rfl) ee_int) (fun _ => ee_eqI (ee_var rfl) ee_int)) (hrt.is ?_)
  have := ok.fst
  simp [this]
end
/-! ### the answer is right -/
theorem fst0_nzs : ∀ v : List Int, fst0 v = fn (nzs v) 0 := by
  have key : ∀ (v : List Int) (f : Int), v.foldl (fun f x => if decide (f = 0) = true then x else f) f = if f = 0 then fn (nzs v) 0 else f := by
    intro v
    induction v with
    | nil => intro f; by_cases h : f = 0 <;> simp [h, nzs, fn]
    | cons x v ih =>
      intro f
      rw [List.foldl_cons, ih]
      by_cases h : f = 0
      · simp only [h, decide_true, if_true]
        by_cases hx : x = 0
        · simp [hx, nzs]
        · simp [hx, nzs, fn]
      · simp [h]
  intro v
  have := key v 0
  simpa [fst0] using this
theorem nzs_neg (v : List Int) : nzs (v.map fun x => -x) = (nzs v).map fun x => -x := by
  unfold nzs
  rw [List.filter_map]
  congr 1
  refine List.filter_congr fun x _ => ?_
  by_cases h : x = 0
  · subst h; rfl
  · have : ¬ -x = 0 := by omega
    simp [h, this]
theorem fn_neg (v : List Int) (j : Nat) : fn (v.map fun x => -x) j = - fn v j := by
  rcases Nat.lt_or_ge j v.length with x | x
  · rw [fn_lt (by simpa using x), fn_lt x]; simp
  · rw [fn_ge (by simpa using x), fn_ge x]; rfl
theorem bal_right {vs : List (List Int)} {n : Nat} (V : Vok n vs) (hn : n ≤ 8) (hvn : vs.length = n) (hl : (red vs n).1.length + 1 = n) : BalOk vs n ∧ RightOk (bal n (red vs n).1) vs := by
  obtain ⟨us, I⟩ := Inv.all V.len n
  obtain ⟨vl, v0, d0, dots, gk⟩ := bal_ok I hl
  obtain ⟨qb, D, D0, Db, Dd⟩ := I.qbnd (B := BB) V.bnd
  have few := I.few
  have Dlt : D.natAbs < 2 ^ 4000 := Nat.lt_of_le_of_lt Db (mb_lt (by omega))
  have ne : ∀ q ∈ (red vs n).1, fn q.2 q.1 ≠ 0 := fun q hq => (I.ld q hq).2
  have sm := V.small (by omega) (Nat.le_refl n)
  have qsm := (sm.2.2 n (Nat.le_refl _)).2
  have key : ∀ i, ((((red vs n).1.map fun q => fn q.2 q.1).take i).foldl lcmF 1).natAbs < 2 ^ 4000 := fun i => by
    have := lcmL_facts (((red vs n).1.map fun q => fn q.2 q.1).take i) 1 (by decide) (fun x hx => by
      obtain ⟨q, hq, rfl⟩ := List.mem_map.1 (List.mem_of_mem_take hx)
      exact ne q hq)
    have dd := this.2.2.2 D ⟨D, by omega⟩ (fun x hx => by
      obtain ⟨q, hq, rfl⟩ := List.mem_map.1 (List.mem_of_mem_take hx)
      exact Dd q hq)
    exact Nat.lt_of_le_of_lt (Nat.le_of_dvd (Int.natAbs_pos.2 D0) (Int.natAbs_dvd_natAbs.2 dd)) Dlt
  have dlt : (dvr (red vs n).1).natAbs < 2 ^ 4000 := by
    have := key ((red vs n).1.map fun q => fn q.2 q.1).length
    rw [List.take_length] at this
    exact this
  obtain ⟨fx, fr1, fr2, fr3⟩ := free_ok (Good.nd I.good) I.qc hl
  refine ⟨⟨hvn, by omega, sm, Good.nd I.good, I.qc, ne, hl, fun i => Nat.lt_trans (log_lt (k := 4000) (by decide) (key i)) (by decide), vl, v0, d0⟩, ?_⟩
  -- sizes
  have vsz : ∀ x ∈ balV n (red vs n).1, x.natAbs < 2 ^ 8000 := by
    have P8 : 2 ^ 4000 ≤ 2 ^ 8000 := Nat.pow_le_pow_right (by decide) (by decide)
    obtain ⟨_, _, d2, _⟩ := lcmL_facts ((red vs n).1.map fun q => fn q.2 q.1) 1 (by decide) (fun x hx => by
      obtain ⟨q, hq, rfl⟩ := List.mem_map.1 hx
      exact ne q hq)
    have dd : ∀ q ∈ (red vs n).1, fn q.2 q.1 ∣ dvr (red vs n).1 := fun q hq => d2 _ (List.mem_map.2 ⟨q, hq, rfl⟩)
    intro x hx
    obtain ⟨j, hj, rfl⟩ := mem_fn hx
    have all : ∀ (rd2 : Red) (f0 : List Int), (∀ q ∈ rd2, q ∈ (red vs n).1) → (fn f0 j).natAbs < 2 ^ 8000 → (fn (rd2.foldl (fun f q => f.set q.1 (-(fn q.2 (freeOf n (red vs n).1)) * (dvr (red vs n).1).fdiv (fn q.2 q.1))) f0) j).natAbs < 2 ^ 8000 := by
      intro rd2
      induction rd2 with
      | nil => intro f0 _ h; exact h
      | cons q rd2 ih =>
        intro f0 hs h
        rw [List.foldl_cons]
        refine ih _ (fun q hq => hs q (List.mem_cons_of_mem _ hq)) ?_
        rw [fn_set]
        split
        · obtain ⟨t, ht⟩ := dd q (hs q List.mem_cons_self)
          have hne := ne q (hs q List.mem_cons_self)
          have et : (dvr (red vs n).1).fdiv (fn q.2 q.1) = t := by
            conv => lhs; rw [ht]
            exact Int.mul_fdiv_cancel_left _ hne
          have tle : t.natAbs ≤ (dvr (red vs n).1).natAbs := by
            rw [ht, Int.natAbs_mul]
            exact Nat.le_mul_of_pos_left _ (Int.natAbs_pos.2 hne)
          rw [et, Int.natAbs_mul, Int.natAbs_neg, show 8000 = 4000 + 4000 from rfl, Nat.pow_add]
          exact Nat.mul_lt_mul'' (Sm.fn (qsm q (hs q List.mem_cons_self)) _) (Nat.lt_of_le_of_lt tle dlt)
        · exact h
    refine all _ _ (fun q hq => hq) ?_
    rw [fn_set]
    split
    · omega
    · have : fn (List.replicate n (0 : Int)) j = 0 := by
        rcases Nat.lt_or_ge j n with x | x
        · rw [fn_lt (by simpa using x)]; simp
        · exact fn_ge (by simpa using x)
      rw [this]; exact Nat.pow_pos (by decide)
  have nzm : 0 < (nzs (balV n (red vs n).1)).length := by
    refine List.length_pos_of_mem (a := fn (balV n (red vs n).1) (freeOf n (red vs n).1)) ?_
    unfold nzs
    rw [List.mem_filter]
    exact ⟨fn_mem (by omega), by rw [v0]; simp; omega⟩
  have nz0 : fn (nzs (balV n (red vs n).1)) 0 ≠ 0 := by
    have := fn_mem nzm
    have h2 := (List.mem_filter.1 this).2
    simpa using h2
  have g1 : gcdL (balV n (red vs n).1) = 1 := by
    have := gk (gcdL (balV n (red vs n).1)).natAbs fun x hx => gcdL_dvd hx
    have := gcdL_nonneg (balV n (red vs n).1)
    omega
  have dsum : ∀ r ∈ vs, ((List.range n).map fun j => fn r j * fn (balV n (red vs n).1) j).sum = 0 := fun r hr => by
    have := dots r hr
    rw [dot_sum, vl] at this
    rw [← this]
    congr 1
    exact List.map_congr_left fun j _ => Int.mul_comm _ _
  unfold bal
  split
  · rename_i h
    have h : fn (nzs (balV n (red vs n).1)) 0 < 0 := of_decide_eq_true h
    refine ⟨by rw [List.length_map, vl, hvn], by omega, fun r hr => by rw [List.length_map, vl, V.len r hr], fun x hx => ?_, fun r hr x hx => BB_sm (V.bnd r hr x hx), ?_, ?_, fun r hr => ?_⟩
    · obtain ⟨y, hy, rfl⟩ := List.mem_map.1 hx
      rw [Int.natAbs_neg]
      exact Nat.lt_trans (log_lt (k := 8000) (by decide) (vsz y hy)) (by decide)
    · have e := gk (gcdL ((balV n (red vs n).1).map fun x => -x)).natAbs fun x hx => by
        have := gcdL_dvd (l := (balV n (red vs n).1).map fun x => -x) (x := -x) (List.mem_map.2 ⟨x, hx, rfl⟩)
        rwa [Int.natAbs_neg] at this
      have := gcdL_nonneg ((balV n (red vs n).1).map fun x => -x)
      show gcdL _ = 1
      omega
    · rw [fst0_nzs, nzs_neg, fn_neg]; omega
    · rw [List.length_map, vl]
      have e : ((List.range n).map fun j => fn r j * fn ((balV n (red vs n).1).map fun x => -x) j) = ((List.range n).map fun j => fn r j * fn (balV n (red vs n).1) j).map fun x => -x := by
        rw [List.map_map]
        exact List.map_congr_left fun j _ => by rw [fn_neg]; exact Int.mul_neg _ _
      rw [e]
      have neg : ∀ l : List Int, (l.map fun x => -x).sum = - l.sum := by
        intro l
        induction l with
        | nil => rfl
        | cons x l ih => rw [List.map_cons, List.sum_cons, List.sum_cons, ih]; omega
      rw [neg, dsum r hr]; rfl
  · rename_i h
    have h : ¬ fn (nzs (balV n (red vs n).1)) 0 < 0 := by simpa using h
    refine ⟨by rw [vl, hvn], by omega, fun r hr => by rw [vl, V.len r hr], fun x hx => Nat.lt_trans (log_lt (k := 8000) (by decide) (vsz x hx)) (by decide), fun r hr x hx => BB_sm (V.bnd r hr x hx), g1, ?_, fun r hr => by rw [vl]; exact dsum r hr⟩
    rw [fst0_nzs]; omega
end K35

namespace K35
open PySem PySem.Spec PyProof.Rows L2 Z StX M
local macro_rules | `(tactic| walk_at "sd") => `(tactic| first | decide | omega | assumption | rfl | (simp; done) | (simp only [List.length_map, List.length_cons, List.length_nil]; omega))
local macro_rules | `(tactic| walk_at "ev") => `(tactic| first
  | exact ee_int | exact ee_strX (by decide +kernel) | exact ee_str | exact ee_bl | exact ee_non
  | exact ee_var rfl
  | (refine' ee_add ?e1 ?e2; (case e1 => walk_at "ev"); (case e2 => walk_at "ev"))
  | (refine' ee_sub ?e1 ?e2; (case e1 => walk_at "ev"); (case e2 => walk_at "ev"))
  | (refine' ee_mul ?e1 ?e2 ?e3; (case e1 => walk_at "ev"); (case e2 => walk_at "ev"); (case e3 => walk_at "cm"))
  | (refine' ee_div ?e1 ?e2 ?e3; (case e1 => walk_at "ev"); (case e2 => walk_at "ev"); (case e3 => exact ⟨by decide, by decide⟩))
  | (refine' ee_mod ?e1 ?e2 ?e3; (case e1 => walk_at "ev"); (case e2 => walk_at "ev"); (case e3 => walk_at "sd"))
  | (refine' ee_powR ?e1 ?e2 ?e3 ?e4; (case e1 => walk_at "ev"); (case e2 => walk_at "ev"); (case e3 => exact ⟨by decide, by decide, by decide⟩); (case e4 => rfl))
  | (refine' ee_intI ?e1; (case e1 => walk_at "ev"))
  | (refine' ee_intB ?e1; (case e1 => walk_at "ev"))
  | (refine' ee_lenL ?e1; (case e1 => walk_at "ev"))
  | (refine' ee_lenX ?e1 ?e2; (case e1 => walk_at "ev"); (case e2 => walk_at "sz"))
  | (refine' ee_lenS ?e1 ?e2; (case e1 => walk_at "ev"); (case e2 => walk_at "sz"))
  | (refine' ee_lenT ?e1; (case e1 => walk_at "ev"))
  | (refine' ee_lt ?e1 ?e2; (case e1 => walk_at "ev"); (case e2 => walk_at "ev")) | (refine' ee_le ?e1 ?e2; (case e1 => walk_at "ev"); (case e2 => walk_at "ev")) | (refine' ee_gt ?e1 ?e2; (case e1 => walk_at "ev"); (case e2 => walk_at "ev")) | (refine' ee_ge ?e1 ?e2; (case e1 => walk_at "ev"); (case e2 => walk_at "ev"))
  | (refine' ee_eqI ?e1 ?e2; (case e1 => walk_at "ev"); (case e2 => walk_at "ev")) | (refine' ee_eqS ?e1 ?e2; (case e1 => walk_at "ev"); (case e2 => walk_at "ev")) | (refine' ee_eqB ?e1 ?e2; (case e1 => walk_at "ev"); (case e2 => walk_at "ev"))
  | (refine' ee_neI ?e1 ?e2; (case e1 => walk_at "ev"); (case e2 => walk_at "ev")) | (refine' ee_neS ?e1 ?e2; (case e1 => walk_at "ev"); (case e2 => walk_at "ev"))
  | (refine' ee_neg ?e1; (case e1 => walk_at "ev"))
  | (refine' ee_max2 ?e1 ?e2; (case e1 => walk_at "ev"); (case e2 => walk_at "ev")) | (refine' ee_min2 ?e1 ?e2; (case e1 => walk_at "ev"); (case e2 => walk_at "ev"))
  | (refine' ee_eqX ?e1 ?e2; (case e1 => walk_at "ev"); (case e2 => walk_at "ev")) | (refine' ee_neX ?e1 ?e2; (case e1 => walk_at "ev"); (case e2 => walk_at "ev"))
  | (refine' ee_inX ?e1 ?e2; (case e1 => walk_at "ev"); (case e2 => walk_at "ev")) | (refine' ee_ninX ?e1 ?e2; (case e1 => walk_at "ev"); (case e2 => walk_at "ev"))
  | (refine' ee_startsX ?e1 ?e2; (case e1 => walk_at "ev"); (case e2 => walk_at "ev"))
  | (refine' ee_catX ?e1 ?e2 ?e3; (case e1 => walk_at "ev"); (case e2 => walk_at "ev"); (case e3 => walk_at "sz"))
  | (refine' ee_slX ?e1 ?e2 ?e3 ?e4; (case e1 => walk_at "ev"); (case e2 => walk_at "evo"); (case e3 => walk_at "evo"); (case e4 => walk_at "sz"))
  | (refine' ee_inS ?e1 ?e2; (case e1 => walk_at "ev"); (case e2 => walk_at "ev")) | (refine' ee_ninS ?e1 ?e2; (case e1 => walk_at "ev"); (case e2 => walk_at "ev"))
  | (refine' ee_startswith ?e1 ?e2; (case e1 => walk_at "ev"); (case e2 => walk_at "ev"))
  | (refine' ee_notV ?e1; (case e1 => walk_at "ev"))
  | (refine' ee_catS ?e1 ?e2 ?e3; (case e1 => walk_at "ev"); (case e2 => walk_at "ev"); (case e3 => walk_at "sz"))
  | (refine' (en_lst ?e1 ?e2).ee; (case e1 => walk_at "eva"); (case e2 => walk_at "sd"))
  | (refine' ee_tup ?e1 ?e2; (case e1 => walk_at "eva"); (case e2 => walk_at "sd"))
  | (refine' (en_slL ?e1 ?e2 ?e3).ee; (case e1 => walk_at "ev"); (case e2 => walk_at "evo"); (case e3 => walk_at "evo"))
  | (refine' ee_slS ?e1 ?e2 ?e3 ?e4; (case e1 => walk_at "ev"); (case e2 => walk_at "evo"); (case e3 => walk_at "evo"); (case e4 => walk_at "sz"))
  | (refine' (en_listL ?e1).ee; (case e1 => walk_at "ev"))
  | (refine' (en_listT ?e1).ee; (case e1 => walk_at "ev"))
  | (refine' ee_tupL ?e1; (case e1 => walk_at "ev"))
  | (refine' ee_tupT ?e1; (case e1 => walk_at "ev")))
local macro_rules | `(tactic| walk_at "eva") => `(tactic| first | exact ea_nil | (refine' ea_cons ?e1 ?e2; (case e1 => walk_at "ev"); (case e2 => walk_at "eva")))
local macro_rules | `(tactic| walk_at "evo") => `(tactic| first | exact eo_none | (refine' eo_some ?e1; (case e1 => walk_at "ev")))
local macro_rules | `(tactic| walk_at "evt") => `(tactic| first
  | (refine' et_test ?e1; (case e1 => walk_at "ev")) | (refine' et_B ?e1; (case e1 => walk_at "ev")) | (refine' et_not ?e1; (case e1 => walk_at "evt"))
  | (refine' et_and ?e1 ?e2; (case e1 => walk_at "evt"); (case e2 => (intro _; walk_at "evt")))
  | (refine' et_or ?e1 ?e2; (case e1 => walk_at "evt"); (case e2 => (intro _; walk_at "evt"))))
local macro_rules | `(tactic| walk_at "sub") => `(tactic| first | exact Sub.refl _ | (refine sub_cons ?_; walk_at "sub") | (refine sub_no ?_; walk_at "sub"))
local macro_rules | `(tactic| walk_at "cm") => `(tactic| first | exact Or.inr ⟨by omega, by omega⟩ | exact Or.inl ⟨by omega, by omega⟩)
local macro_rules | `(tactic| walk_at "evi") => `(tactic| (refine' EvE.is ?h ?e; (case h => walk_at "ev"); (case e => first | rfl | (congr 1; done) | skip)))
local macro_rules | `(tactic| walk_at "sz") => `(tactic| first | assumption | omega | (simp; omega) | (simp only [List.length_append, List.length_map, List.length_cons, List.length_nil]; omega))

/-! ### the law -/
def R_law : List D → D → Prop := fun ds r => ∃ ns : List Int, ds = [.lst (ns.map .int)] ∧ ns.length ≤ 63 ∧ r = .bl true
def shapeL (ns : List Int) : List Int := lawRow (lawSeed ns 0) 6
def lenL (ns : List Int) : Nat := (if decide (fn (shapeL ns) 1 % 8 = 1) = true then 1 + fn (shapeL ns) 2 % 8 else 1 + fn (shapeL ns) 0 % 5).toNat
section
variable {P : Program} {w : World} {K : PySem.W.Frag} {mg : Str → Option Value} {base : Heap} {f : Addr} {fd : FuncData}
theorem ok_law (F : Fun K "law" "law" s_law f fd) (T : Txt mg)
    (C__law_row : Cal P w K mg base "_law_row" 1 ["cell", "many"] (spR K R_row)) (C__law_seed : Cal P w K mg base "_law_seed" 2 ["script", "k"] (spR K R_seed))
    (C__law_matrix : Cal P w K mg base "_law_matrix" 3 ["script", "length", "place"] (spR K R_matrix)) (C__law_right : Cal P w K mg base "_law_right" 2 ["answer", "table"] (spR K R_right)) (C_balance : Cal P w K mg base "balance" 4 ["matrix"] (spN K R_bal)) :
    FnOk P w K mg base CX0 5 f fd ["script"] (spR K R_law) := by
  refine ok_def F sc_law (fun ds r h => by obtain ⟨ns, rfl, _⟩ := h; rfl) (fun cdv A outer s H E hr => ⟨_, (pss_cons (ps_set (i := 1) sc_law.nd rfl (Or.inl rfl) (pe_cal (C__law_row.mono (by decide)) hr (by rfl) (pa_cons (pe_cal (C__law_seed.mono (by decide)) hr (by rfl) (pa_cons (pv 0) (pa_cons pe_int pa_nil))) (pa_cons pe_int pa_nil))))
    (pss_cons (ps_set (i := 2) sc_law.nd rfl (Or.inl rfl) (pe_op op_add pe_int (pe_op op_mod (pe_callTy call_int1 (by rfl) T.n_int (by decide +kernel) (pa_cons (pe_ix (k_ix_list K) (pv 1) pe_int (fun _ _ => rfl)) pa_nil)) pe_int)))
    (pss_cons (ps_if (pt_cmpR op_eq (pe_op op_mod (pe_callTy call_int1 (by rfl) T.n_int (by decide +kernel) (pa_cons (pe_ix (k_ix_list K) (pv 1) pe_int (fun _ _ => rfl)) pa_nil)) pe_int) pe_int (nomark _)) (pss_one (ps_set (i := 2) sc_law.nd rfl (Or.inl rfl) (pe_op op_add pe_int (pe_op op_mod (pe_callTy call_int1 (by rfl) T.n_int (by decide +kernel) (pa_cons (pe_ix (k_ix_list K) (pv 1) pe_int (fun _ _ => rfl)) pa_nil)) pe_int)))) pss_nil)
    (pss_cons (ps_set (i := 3) sc_law.nd rfl (Or.inl rfl) (pe_cal (C__law_matrix.mono (by decide)) hr (by rfl) (pa_cons (pv 0) (pa_cons (pv 2) (pa_cons (pe_op op_mod (pe_callTy call_int1 (by rfl) T.n_int (by decide +kernel) (pa_cons (pe_ix (k_ix_list K) (pv 1) pe_int (fun _ _ => rfl)) pa_nil)) (pv 2)) pa_nil)))))
    (pss_cons (ps_setLc (i := 4) (hy := rfl) (hyl := rfl) (hsw := sw_true rfl rfl rfl (by decide +kernel)) (own := [("row", 8)]) rfl sc_law.nd (k_pi_list K (pv 3)) (blkOk_by (N := N_law) (sc := defScope s_law) (by decide +kernel)) (fun _ _ _ _ _ => (pg_name (i := 8) sc_law.nd rfl (Or.inl rfl))) (fun _ _ _ _ _ => pts_nil) (fun _ _ _ _ _ => (pe_callTy (k_list_of K) (by rfl) T.n_list (by decide +kernel) (pa_cons (pv 8) pa_nil))))
    (pss_cons (ps_if (pt_cmpR op_eq (pe_op op_mod (pe_callTy call_int1 (by rfl) T.n_int (by decide +kernel) (pa_cons (pe_ix (k_ix_list K) (pv 1) pe_int (fun _ _ => rfl)) pa_nil)) pe_int) pe_int (nomark _)) (pss_one (ps_set (i := 4) sc_law.nd rfl (Or.inl rfl) (pe_callTy (k_tuple_of K) (by rfl) T.n_tuple (by decide +kernel) (pa_cons (pe_lc (own := [("row", 8)]) rfl sc_law.nd (k_pi_list K (pv 3)) (blkOk_by (N := N_law) (sc := defScope s_law) (by decide +kernel)) (fun _ _ _ _ _ => (pg_name (i := 8) sc_law.nd rfl (Or.inl rfl))) (fun _ _ _ _ _ => pts_nil) (fun _ _ _ _ _ => (pe_callTy (k_tuple_of K) (by rfl) T.n_tuple (by decide +kernel) (pa_cons (pv 8) pa_nil)))) pa_nil)))) pss_nil)
    (pss_cons (ps_set (i := 5) sc_law.nd rfl (Or.inl rfl) (pe_cal (C_balance.mono (by decide)) hr (by rfl) (pa_cons (pv 4) pa_nil)))
    (pss_cons (ps_if (pt_not (pt_val (pe_cal (C__law_right.mono (by decide)) hr (by rfl) (pa_cons (pv 5) (pa_cons (pv 3) pa_nil))))) (pss_one (ps_ret pe_bl)) pss_nil)
    (pss_cons (ps_set (i := 6) sc_law.nd rfl (Or.inl rfl) (pe_callTy (k_list_of K) (by rfl) T.n_list (by decide +kernel) (pa_cons (pv 5) pa_nil)))
    (pss_cons (ps_asg (pe_op op_add (pe_ix (k_ix_list K) (pv 5) pe_int (fun _ _ => rfl)) pe_int) (pg_sub (pv 5) pe_int set_list))
    (pss_cons (ps_expr (pe_bm PySem.F.plainAttrs_list PySem.F.slot_list_append PySem.F.type_list_append mt_append (pv 5) (pa_cons pe_int pa_nil)))
    (pss_cons (ps_set (i := 7) sc_law.nd rfl (Or.inl rfl) (pe_calK (C_balance.mono (by decide)) hr (by rfl) (pk_cons (pv 4) pk_nil)))
    (pss_cons (ps_if (PW.pt (pw_or (pt_not (pt_val (pe_callB (k_isi K) (by rfl) T.n_isinstance (by decide +kernel) (pa_cons (pv 7) (pa_cons (pe_bltn (v := .ty "list") (by rfl) T.n_list (by decide +kernel) rfl) pa_nil))))) (pw_or1 (pt_cmpR (k_neD K hr.units) (pv 7) (pv 6) (nomark _))))) (pss_one (ps_ret pe_bl)) pss_nil)
    (pss_one (ps_ret (pe_cmpR (k_eqD K hr.units) (pe_lc (own := [("row", 8)]) rfl sc_law.nd (k_pi_seq K (pv 4)) (blkOk_by (N := N_law) (sc := defScope s_law) (by decide +kernel)) (fun _ _ _ _ _ => (pg_name (i := 8) sc_law.nd rfl (Or.inl rfl))) (fun _ _ _ _ _ => pts_nil) (fun _ _ _ _ _ => (pe_callTy (k_list_of K) (by rfl) T.n_list (by decide +kernel) (pa_cons (pv 8) pa_nil)))) (pv 3) (nomark _))))))))))))))))), fun ds r h H0 H1 E' hrt => ?_⟩)
  obtain ⟨ns, rfl, hns, rfl⟩ := h
  refine q_asg (d := il (shapeL ns)) (ee_call (ea_cons (ee_call (ea_cons (ee_var rfl) (ea_cons ee_int ea_nil)) ⟨ns, 0, rfl, by decide, rfl⟩) (ea_cons ee_int ea_nil)) ⟨lawSeed ns 0, 6, rfl, by decide, rfl⟩) ?_
  have lenD : lenL ns = (if decide (fn (shapeL ns) 1 % 8 = 1) = true then 1 + fn (shapeL ns) 2 % 8 else 1 + fn (shapeL ns) 0 % 5).toNat := rfl
  have rk : Rk (shapeL ns) 6 := rk_row _ _
  generalize shapeL ns = shape at *
  have xx : ∀ j : Nat, j < 6 → atI (shape.map D.int) (j : Int) = some (.int (fn shape j)) := fun j hj => at_il (by rw [rk.1]; exact hj)
  have x0 := xx 0 (by decide)
  have x1 := xx 1 (by decide)
  have x2 := xx 2 (by decide)
  have x3 := xx 3 (by decide)
  have x4 := xx 4 (by decide)
  refine q_asg (d := .int (1 + fn shape 0 % 5)) (ee_add ee_int (ee_mod (ee_intI (ee_ixL (ee_var rfl) ee_int x0)) ee_int (by decide))) ?_
  refine q_ifJ (b := decide (fn shape 1 % 8 = 1)) [.val (il ns), .val (il shape), .val (.int (lenL ns : Int)), .no, .no, .no, .no, .no, .no] (et_test (ee_eqI (ee_mod (ee_intI (ee_ixL (ee_var rfl) ee_int x1)) ee_int (by decide)) ee_int)) (fun E1 hrt1 hbk hct hnx h => ?_) (fun E1 hrt1 hbk hct hnx h => ?_) ?_
  · rw [if_pos h] at lenD
    exact go_asg (d := .int (lenL ns : Int)) (EvE.is (ee_add ee_int (ee_mod (ee_intI (ee_ixL (ee_var rfl) ee_int x2)) ee_int (by decide))) (by congr 1; omega)) (nx_sub (by walk_at "sub") hnx)
  · rw [if_neg (by rw [h]; decide)] at lenD
    have e1 : ((lenL ns : Nat) : Int) = 1 + fn shape 0 % 5 := by omega
    rw [e1] at hnx
    exact go_next (nx_sub (by walk_at "sub") hnx)
  have hl1 : 1 ≤ lenL ns := by rw [lenD]; split <;> omega
  have hlen : lenL ns ≤ 8 := by rw [lenD]; split <;> omega
  clear lenD
  generalize lenL ns = len at *
  have m1 := Int.emod_lt_of_pos (fn shape 3) (show (0 : Int) < (len : Int) by omega)
  have m0 := Int.emod_nonneg (fn shape 3) (show (len : Int) ≠ 0 by omega)
  obtain ⟨place, hp⟩ : ∃ p : Nat, fn shape 3 % (len : Int) = (p : Int) := ⟨(fn shape 3 % (len : Int)).toNat, by omega⟩
  have hpl : place < len := by omega
  refine q_asg (d := .lst ((matL ns len place).map il)) (ee_call (ea_cons (ee_var rfl) (ea_cons (ee_var rfl) (ea_cons (d := .int (place : Int)) (EvE.is (ee_mod (ee_intI (ee_ixL (ee_var rfl) ee_int x3)) (ee_var rfl) (by omega)) (by rw [hp])) ea_nil))) ⟨ns, len, place, rfl, hl1, hlen, hpl, rfl⟩) ?_
  obtain ⟨V, hvn, hrk⟩ := matL_ok ns hl1 hlen hpl
  obtain ⟨bok, rok⟩ := bal_right V hlen hvn hrk
  generalize matL ns len place = vs at *
  refine q_asg (d := .lst (vs.map il)) (en_lc1 (rep := il) (w := il) (ei_list (ee_var rfl)) (by simp) (by omega) (fun v hv => (en_listL (ee_var rfl)).ee)).ee ?_
  refine q_ifJ (b := decide (fn shape 4 % 3 = 1)) [.val (il ns), .val (il shape), .val (.int (len : Int)), .val (.lst (vs.map il)), .val (sq (!decide (fn shape 4 % 3 = 1)) (!decide (fn shape 4 % 3 = 1)) vs), .no, .no, .no, .no] (et_test (ee_eqI (ee_mod (ee_intI (ee_ixL (ee_var rfl) ee_int x4)) ee_int (by decide)) ee_int)) (fun E1 hrt1 hbk hct hnx h => ?_) (fun E1 hrt1 hbk hct hnx h => ?_) ?_
  · rw [h] at hnx
    exact go_asg (d := .tup (vs.map fun v => .tup (v.map .int))) (ee_tupL (en_lc1 (rep := il) (w := fun v => D.tup (v.map .int)) (ei_list (ee_var rfl)) (by simp) (by omega) (fun v hv => ee_tupL (ee_var rfl))).ee) (nx_sub (by walk_at "sub") hnx)
  · rw [h] at hnx
    exact go_next (nx_sub (by walk_at "sub") hnx)
  generalize (!decide (fn shape 4 % 3 = 1)) = bq
  refine q_own (ds := (bal len (red vs len).1).map .int) (en_call (ea_cons (ee_var rfl) ea_nil) ⟨bq, bq, vs, len, rfl, bok, rfl⟩) ?_
  have hbl : (bal len (red vs len).1).length = len := by rw [rok.vl, hvn]
  generalize hav : bal len (red vs len).1 = av at *
  refine q_leave (b := !true) (et_peek 5 rfl (et_not (et_B (ee_call (ea_cons (ee_var rfl) (ea_cons (ee_var rfl) ea_nil)) ⟨av, vs, rfl, rok, rfl⟩)))) (fun h => by cases h) (fun _ => ?_)
  refine q_asg (d := il av) (en_peek 5 (ns := av) rfl (en_listL (ee_var rfl))).ee ?_
  refine q_setL (i := 5) (k := 0) (d := .int (fn av 0 + 1)) rfl (ee_add (ee_ixO 5 rfl ee_int (at_il (c := 0) (by omega))) ee_int) ee_int (by rw [List.length_map]; omega) ?_
  refine q_app (i := 5) (d := .int 1) rfl ee_int (by simp; omega) ?_
  refine q_asg (d := il av) (EvN.ee (en_call (ea_cons (ee_var rfl) ea_nil) ⟨bq, bq, vs, len, rfl, bok, by rw [hav]⟩)) ?_
  refine q_leave (b := !true || false) (et_or (et_not (et_B (ee_isiL (ds := av.map D.int) (ee_var rfl) (kit_ty (by decide +kernel))))) (fun _ => et_test (ee_neIL (l := av) (ee_var rfl) (ee_var rfl)))) (fun h => by cases h) (fun _ => ?_)
  exact go_ret (ee_eqLL (l := vs) (en_lc1 (rep := fun v : List Int => seqD bq (v.map .int)) (w := il) (ei_seq (b := bq) (ee_var rfl)) (by simp) (by omega) (fun v hv => (en_listQ (ee_var rfl)).ee)).ee (ee_var rfl)) (hrt.is rfl)
end
end K35

namespace K35
open PySem PySem.Spec PyProof.Rows L2 Z StX M
theorem all_mk {l : PySem.W.OpenLaw} {w : World} {K : PySem.W.Frag} {h : Heap} {mg : Str → Option Value} {fa : Addr} {f0 f1 f2 f3 f4 f5 f6 f7 f8 f9 f10 f11 f12 f13 f14 f15 f16 f17 f18 : Addr} (X : K.In h) (G : h.Ns mainGlobals mg) (hfa : mg "law" = some (.ref fa))
    {od0 an0 od1 an1 od2 an2 od3 an3 od4 an4 od5 an5 od6 an6 od7 an7 od8 an8 od9 an9 od10 an10 od11 an11 od12 an12 od13 an13 od14 an14 od15 an15 od16 an16 od17 an17 od18 an18 : Option Addr} {sl0 sl1 sl2 sl3 sl4 sl5 sl6 sl7 sl8 sl9 sl10 sl11 sl12 sl13 sl14 sl15 sl16 sl17 sl18 : Array (Option Value)} {oc0 kV0 dc0 pm0 cd0 ct0 oc1 kV1 dc1 pm1 cd1 ct1 oc2 kV2 dc2 pm2 cd2 ct2 oc3 kV3 dc3 pm3 cd3 ct3 oc4 kV4 dc4 pm4 cd4 ct4 oc5 kV5 dc5 pm5 cd5 ct5 oc6 kV6 dc6 pm6 cd6 ct6 oc7 kV7 dc7 pm7 cd7 ct7 oc8 kV8 dc8 pm8 cd8 ct8 oc9 kV9 dc9 pm9 cd9 ct9 oc10 kV10 dc10 pm10 cd10 ct10 oc11 kV11 dc11 pm11 cd11 ct11 oc12 kV12 dc12 pm12 cd12 ct12 oc13 kV13 dc13 pm13 cd13 ct13 oc14 kV14 dc14 pm14 cd14 ct14 oc15 kV15 dc15 pm15 cd15 ct15 oc16 kV16 dc16 pm16 cd16 ct16 oc17 kV17 dc17 pm17 cd17 ct17 oc18 kV18 dc18 pm18 cd18 ct18 : Value}
    (a0 : PySem.W.nsIn K mainGlobals "_law_cell" = some (some (.ref f0))) (l0 : K.lookup f0 = some ⟨oc0, od0, .func (PySem.W.fnOf "_law_cell" "_law_cell" (defArgs s__law_cell) (defBody s__law_cell) (defScope s__law_cell) .none kV0 dc0 pm0 an0 cd0 ct0), sl0⟩) (c0 : PySem.W.codeIn K cd0 "_law_cell" = true) (k0 : PySem.W.keepIn K (.ref f0) = true)
    (a1 : PySem.W.nsIn K mainGlobals "_law_row" = some (some (.ref f1))) (l1 : K.lookup f1 = some ⟨oc1, od1, .func (PySem.W.fnOf "_law_row" "_law_row" (defArgs s__law_row) (defBody s__law_row) (defScope s__law_row) .none kV1 dc1 pm1 an1 cd1 ct1), sl1⟩) (c1 : PySem.W.codeIn K cd1 "_law_row" = true) (k1 : PySem.W.keepIn K (.ref f1) = true)
    (a2 : PySem.W.nsIn K mainGlobals "primitive" = some (some (.ref f2))) (l2 : K.lookup f2 = some ⟨oc2, od2, .func (PySem.W.fnOf "primitive" "primitive" (defArgs s_primitive) (defBody s_primitive) (defScope s_primitive) .none kV2 dc2 pm2 an2 cd2 ct2), sl2⟩) (c2 : PySem.W.codeIn K cd2 "primitive" = true) (k2 : PySem.W.keepIn K (.ref f2) = true)
    (a3 : PySem.W.nsIn K mainGlobals "_common_multiple" = some (some (.ref f3))) (l3 : K.lookup f3 = some ⟨oc3, od3, .func (PySem.W.fnOf "_common_multiple" "_common_multiple" (defArgs s__common_multiple) (defBody s__common_multiple) (defScope s__common_multiple) .none kV3 dc3 pm3 an3 cd3 ct3), sl3⟩) (c3 : PySem.W.codeIn K cd3 "_common_multiple" = true) (k3 : PySem.W.keepIn K (.ref f3) = true)
    (a4 : PySem.W.nsIn K mainGlobals "cleared" = some (some (.ref f4))) (l4 : K.lookup f4 = some ⟨oc4, od4, .func (PySem.W.fnOf "cleared" "cleared" (defArgs s_cleared) (defBody s_cleared) (defScope s_cleared) .none kV4 dc4 pm4 an4 cd4 ct4), sl4⟩) (c4 : PySem.W.codeIn K cd4 "cleared" = true) (k4 : PySem.W.keepIn K (.ref f4) = true)
    (a5 : PySem.W.nsIn K mainGlobals "_reduced" = some (some (.ref f5))) (l5 : K.lookup f5 = some ⟨oc5, od5, .func (PySem.W.fnOf "_reduced" "_reduced" (defArgs s__reduced) (defBody s__reduced) (defScope s__reduced) .none kV5 dc5 pm5 an5 cd5 ct5), sl5⟩) (c5 : PySem.W.codeIn K cd5 "_reduced" = true) (k5 : PySem.W.keepIn K (.ref f5) = true)
    (a6 : PySem.W.nsIn K mainGlobals "balance" = some (some (.ref f6))) (l6 : K.lookup f6 = some ⟨oc6, od6, .func (PySem.W.fnOf "balance" "balance" (defArgs s_balance) (defBody s_balance) (defScope s_balance) .none kV6 dc6 pm6 an6 cd6 ct6), sl6⟩) (c6 : PySem.W.codeIn K cd6 "balance" = true) (k6 : PySem.W.keepIn K (.ref f6) = true)
    (a7 : PySem.W.nsIn K mainGlobals "_law_seed" = some (some (.ref f7))) (l7 : K.lookup f7 = some ⟨oc7, od7, .func (PySem.W.fnOf "_law_seed" "_law_seed" (defArgs s__law_seed) (defBody s__law_seed) (defScope s__law_seed) .none kV7 dc7 pm7 an7 cd7 ct7), sl7⟩) (c7 : PySem.W.codeIn K cd7 "_law_seed" = true) (k7 : PySem.W.keepIn K (.ref f7) = true)
    (a8 : PySem.W.nsIn K mainGlobals "_law_is_integer" = some (some (.ref f8))) (l8 : K.lookup f8 = some ⟨oc8, od8, .func (PySem.W.fnOf "_law_is_integer" "_law_is_integer" (defArgs s__law_is_integer) (defBody s__law_is_integer) (defScope s__law_is_integer) .none kV8 dc8 pm8 an8 cd8 ct8), sl8⟩) (c8 : PySem.W.codeIn K cd8 "_law_is_integer" = true) (k8 : PySem.W.keepIn K (.ref f8) = true)
    (a9 : PySem.W.nsIn K mainGlobals "_law_gcd" = some (some (.ref f9))) (l9 : K.lookup f9 = some ⟨oc9, od9, .func (PySem.W.fnOf "_law_gcd" "_law_gcd" (defArgs s__law_gcd) (defBody s__law_gcd) (defScope s__law_gcd) .none kV9 dc9 pm9 an9 cd9 ct9), sl9⟩) (c9 : PySem.W.codeIn K cd9 "_law_gcd" = true) (k9 : PySem.W.keepIn K (.ref f9) = true)
    (a10 : PySem.W.nsIn K mainGlobals "_law_number" = some (some (.ref f10))) (l10 : K.lookup f10 = some ⟨oc10, od10, .func (PySem.W.fnOf "_law_number" "_law_number" (defArgs s__law_number) (defBody s__law_number) (defScope s__law_number) .none kV10 dc10 pm10 an10 cd10 ct10), sl10⟩) (c10 : PySem.W.codeIn K cd10 "_law_number" = true) (k10 : PySem.W.keepIn K (.ref f10) = true)
    (a11 : PySem.W.nsIn K mainGlobals "_law_times" = some (some (.ref f11))) (l11 : K.lookup f11 = some ⟨oc11, od11, .func (PySem.W.fnOf "_law_times" "_law_times" (defArgs s__law_times) (defBody s__law_times) (defScope s__law_times) .none kV11 dc11 pm11 an11 cd11 ct11), sl11⟩) (c11 : PySem.W.codeIn K cd11 "_law_times" = true) (k11 : PySem.W.keepIn K (.ref f11) = true)
    (a12 : PySem.W.nsIn K mainGlobals "_law_base" = some (some (.ref f12))) (l12 : K.lookup f12 = some ⟨oc12, od12, .func (PySem.W.fnOf "_law_base" "_law_base" (defArgs s__law_base) (defBody s__law_base) (defScope s__law_base) .none kV12 dc12 pm12 an12 cd12 ct12), sl12⟩) (c12 : PySem.W.codeIn K cd12 "_law_base" = true) (k12 : PySem.W.keepIn K (.ref f12) = true)
    (a13 : PySem.W.nsIn K mainGlobals "_law_units" = some (some (.ref f13))) (l13 : K.lookup f13 = some ⟨oc13, od13, .func (PySem.W.fnOf "_law_units" "_law_units" (defArgs s__law_units) (defBody s__law_units) (defScope s__law_units) .none kV13 dc13 pm13 an13 cd13 ct13), sl13⟩) (c13 : PySem.W.codeIn K cd13 "_law_units" = true) (k13 : PySem.W.keepIn K (.ref f13) = true)
    (a14 : PySem.W.nsIn K mainGlobals "_law_reduced" = some (some (.ref f14))) (l14 : K.lookup f14 = some ⟨oc14, od14, .func (PySem.W.fnOf "_law_reduced" "_law_reduced" (defArgs s__law_reduced) (defBody s__law_reduced) (defScope s__law_reduced) .none kV14 dc14 pm14 an14 cd14 ct14), sl14⟩) (c14 : PySem.W.codeIn K cd14 "_law_reduced" = true) (k14 : PySem.W.keepIn K (.ref f14) = true)
    (a15 : PySem.W.nsIn K mainGlobals "_law_with" = some (some (.ref f15))) (l15 : K.lookup f15 = some ⟨oc15, od15, .func (PySem.W.fnOf "_law_with" "_law_with" (defArgs s__law_with) (defBody s__law_with) (defScope s__law_with) .none kV15 dc15 pm15 an15 cd15 ct15), sl15⟩) (c15 : PySem.W.codeIn K cd15 "_law_with" = true) (k15 : PySem.W.keepIn K (.ref f15) = true)
    (a16 : PySem.W.nsIn K mainGlobals "_law_matrix" = some (some (.ref f16))) (l16 : K.lookup f16 = some ⟨oc16, od16, .func (PySem.W.fnOf "_law_matrix" "_law_matrix" (defArgs s__law_matrix) (defBody s__law_matrix) (defScope s__law_matrix) .none kV16 dc16 pm16 an16 cd16 ct16), sl16⟩) (c16 : PySem.W.codeIn K cd16 "_law_matrix" = true) (k16 : PySem.W.keepIn K (.ref f16) = true)
    (a17 : PySem.W.nsIn K mainGlobals "_law_right" = some (some (.ref f17))) (l17 : K.lookup f17 = some ⟨oc17, od17, .func (PySem.W.fnOf "_law_right" "_law_right" (defArgs s__law_right) (defBody s__law_right) (defScope s__law_right) .none kV17 dc17 pm17 an17 cd17 ct17), sl17⟩) (c17 : PySem.W.codeIn K cd17 "_law_right" = true) (k17 : PySem.W.keepIn K (.ref f17) = true)
    (a18 : PySem.W.nsIn K mainGlobals "law" = some (some (.ref f18))) (l18 : K.lookup f18 = some ⟨oc18, od18, .func (PySem.W.fnOf "law" "law" (defArgs s_law) (defBody s_law) (defScope s_law) .none kV18 dc18 pm18 an18 cd18 ct18), sl18⟩) (c18 : PySem.W.codeIn K cd18 "law" = true) (k18 : PySem.W.keepIn K (.ref f18) = true)
    (z_gcd : PySem.W.nsIn K mainGlobals "gcd" = some (some (.builtin "math.gcd")))
    (z_lcm : PySem.W.nsIn K mainGlobals "lcm" = some (some (.builtin "math.lcm")))
    (n_len : PySem.W.nsIn K mainGlobals "len" = some none)
    (n_int : PySem.W.nsIn K mainGlobals "int" = some none)
    (n_range : PySem.W.nsIn K mainGlobals "range" = some none)
    (n_max : PySem.W.nsIn K mainGlobals "max" = some none)
    (n_any : PySem.W.nsIn K mainGlobals "any" = some none)
    (n_abs : PySem.W.nsIn K mainGlobals "abs" = some none)
    (n_sum : PySem.W.nsIn K mainGlobals "sum" = some none)
    (n_list : PySem.W.nsIn K mainGlobals "list" = some none)
    (n_tuple : PySem.W.nsIn K mainGlobals "tuple" = some none)
    (n_enumerate : PySem.W.nsIn K mainGlobals "enumerate" = some none)
    (n_zip : PySem.W.nsIn K mainGlobals "zip" = some none)
    (n_isinstance : PySem.W.nsIn K mainGlobals "isinstance" = some none)
    (n_bool : PySem.W.nsIn K mainGlobals "bool" = some none)
    : ∃ fd : FuncData, (∀ (s : Shared) (v : Value), BindsTo s fd ⟨[v], []⟩ [("script", v)]) ∧ ∀ base : Heap, K.In base → base.Ns mainGlobals mg → FnOk l.prog w K mg base CX0 5 fa fd ["script"] (spR K R_law) := by
  have e := hfa.symm.trans (PySem.W.mg_of X G a18)
  cases e
  have T : Txt mg := ⟨PySem.W.mg_none_of X G n_len, PySem.W.mg_none_of X G n_int, PySem.W.mg_none_of X G n_range, PySem.W.mg_none_of X G n_max, PySem.W.mg_none_of X G n_any, PySem.W.mg_none_of X G n_abs, PySem.W.mg_none_of X G n_sum, PySem.W.mg_none_of X G n_list, PySem.W.mg_none_of X G n_tuple, PySem.W.mg_none_of X G n_enumerate, PySem.W.mg_none_of X G n_zip, PySem.W.mg_none_of X G n_isinstance, PySem.W.mg_none_of X G n_bool, PySem.W.mg_of X G z_gcd, PySem.W.mg_of X G z_lcm⟩
  refine ⟨PySem.W.fnOf "law" "law" (defArgs s_law) (defBody s_law) (defScope s_law) .none kV18 dc18 pm18 an18 cd18 ct18, fun s v => .of_eq rfl, fun base _ _ => ?_⟩
  have C__law_cell : Cal l.prog w K mg base "_law_cell" 1 ["script", "k"] (spR K R_cell) := Cal.mk' (fun_mk (st := s__law_cell) l0 c0 k0) (PySem.W.mg_of X G a0) (ok__law_cell (fun_mk (st := s__law_cell) l0 c0 k0) T) (fun _ _ _ _ _ _ us hl => match us, hl with | [_, _], _ => rfl) (fun _ _ _ _ _ _ us hl => match us, hl with | [_, _], _ => rfl)
  have C__law_row : Cal l.prog w K mg base "_law_row" 1 ["cell", "many"] (spR K R_row) := Cal.mk' (fun_mk (st := s__law_row) l1 c1 k1) (PySem.W.mg_of X G a1) (ok__law_row (fun_mk (st := s__law_row) l1 c1 k1) T) (fun _ _ _ _ _ _ us hl => match us, hl with | [_, _], _ => rfl) (fun _ _ _ _ _ _ us hl => match us, hl with | [_, _], _ => rfl)
  have C_primitive : Cal l.prog w K mg base "primitive" 1 ["vector"] (spR K R_prim) := Cal.mk' (fun_mk (st := s_primitive) l2 c2 k2) (PySem.W.mg_of X G a2) (ok_primitive (fun_mk (st := s_primitive) l2 c2 k2) T) (fun _ _ _ _ _ _ us hl => match us, hl with | [_], _ => rfl) (fun _ _ _ _ _ _ us hl => match us, hl with | [_], _ => rfl)
  have C__common_multiple : Cal l.prog w K mg base "_common_multiple" 1 ["numbers"] (spR K R_lcm) := Cal.mk' (fun_mk (st := s__common_multiple) l3 c3 k3) (PySem.W.mg_of X G a3) (ok__common_multiple (fun_mk (st := s__common_multiple) l3 c3 k3) T) (fun _ _ _ _ _ _ us hl => match us, hl with | [_], _ => rfl) (fun _ _ _ _ _ _ us hl => match us, hl with | [_], _ => rfl)
  have C_cleared : Cal l.prog w K mg base "cleared" 2 ["row", "pivot_row", "column"] (spR K R_clr) := Cal.mk' (fun_mk (st := s_cleared) l4 c4 k4) (PySem.W.mg_of X G a4) (ok_cleared (fun_mk (st := s_cleared) l4 c4 k4) T C_primitive) (fun _ _ _ _ _ _ us hl => match us, hl with | [_, _, _], _ => rfl) (fun _ _ _ _ _ _ us hl => match us, hl with | [_, _, _], _ => rfl)
  have C__reduced : Cal l.prog w K mg base "_reduced" 3 ["vectors", "width"] (spR K R_red) := Cal.mk' (fun_mk (st := s__reduced) l5 c5 k5) (PySem.W.mg_of X G a5) (ok__reduced (fun_mk (st := s__reduced) l5 c5 k5) T C_primitive C_cleared) (fun _ _ _ _ _ _ us hl => match us, hl with | [_, _], _ => rfl) (fun _ _ _ _ _ _ us hl => match us, hl with | [_, _], _ => rfl)
  have C_balance : Cal l.prog w K mg base "balance" 4 ["matrix"] (spN K R_bal) := Cal.mk' (fun_mk (st := s_balance) l6 c6 k6) (PySem.W.mg_of X G a6) (ok_balance (fun_mk (st := s_balance) l6 c6 k6) T C__common_multiple C__reduced) (fun _ _ _ _ _ _ us hl => match us, hl with | [_], _ => rfl) (fun _ _ _ _ _ _ us hl => match us, hl with | [_], _ => rfl)
  have C__law_seed : Cal l.prog w K mg base "_law_seed" 2 ["script", "k"] (spR K R_seed) := Cal.mk' (fun_mk (st := s__law_seed) l7 c7 k7) (PySem.W.mg_of X G a7) (ok__law_seed (fun_mk (st := s__law_seed) l7 c7 k7) T C__law_cell) (fun _ _ _ _ _ _ us hl => match us, hl with | [_, _], _ => rfl) (fun _ _ _ _ _ _ us hl => match us, hl with | [_, _], _ => rfl)
  have C__law_is_integer : Cal l.prog w K mg base "_law_is_integer" 1 ["actual"] (spR K R_isint) := Cal.mk' (fun_mk (st := s__law_is_integer) l8 c8 k8) (PySem.W.mg_of X G a8) (ok__law_is_integer (fun_mk (st := s__law_is_integer) l8 c8 k8) T) (fun _ _ _ _ _ _ us hl => match us, hl with | [_], _ => rfl) (fun _ _ _ _ _ _ us hl => match us, hl with | [_], _ => rfl)
  have C__law_gcd : Cal l.prog w K mg base "_law_gcd" 1 ["one", "other"] (spR K R_gcd) := Cal.mk' (fun_mk (st := s__law_gcd) l9 c9 k9) (PySem.W.mg_of X G a9) (ok__law_gcd (fun_mk (st := s__law_gcd) l9 c9 k9) T) (fun _ _ _ _ _ _ us hl => match us, hl with | [_, _], _ => rfl) (fun _ _ _ _ _ _ us hl => match us, hl with | [_, _], _ => rfl)
  have C__law_number : Cal l.prog w K mg base "_law_number" 1 ["kind", "numbers"] (spR K R_num) := Cal.mk' (fun_mk (st := s__law_number) l10 c10 k10) (PySem.W.mg_of X G a10) (ok__law_number (fun_mk (st := s__law_number) l10 c10 k10) T) (fun _ _ _ _ _ _ us hl => match us, hl with | [_, _], _ => rfl) (fun _ _ _ _ _ _ us hl => match us, hl with | [_, _], _ => rfl)
  have C__law_times : Cal l.prog w K mg base "_law_times" 1 ["row"] (spR K R_times) := Cal.mk' (fun_mk (st := s__law_times) l11 c11 k11) (PySem.W.mg_of X G a11) (ok__law_times (fun_mk (st := s__law_times) l11 c11 k11) T) (fun _ _ _ _ _ _ us hl => match us, hl with | [_], _ => rfl) (fun _ _ _ _ _ _ us hl => match us, hl with | [_], _ => rfl)
  have C__law_base : Cal l.prog w K mg base "_law_base" 2 ["row", "length"] (spR K R_base) := Cal.mk' (fun_mk (st := s__law_base) l12 c12 k12) (PySem.W.mg_of X G a12) (ok__law_base (fun_mk (st := s__law_base) l12 c12 k12) T C__law_number) (fun _ _ _ _ _ _ us hl => match us, hl with | [_, _], _ => rfl) (fun _ _ _ _ _ _ us hl => match us, hl with | [_, _], _ => rfl)
  have C__law_units : Cal l.prog w K mg base "_law_units" 1 ["length"] (spR K R_units) := Cal.mk' (fun_mk (st := s__law_units) l13 c13 k13) (PySem.W.mg_of X G a13) (ok__law_units (fun_mk (st := s__law_units) l13 c13 k13) T) (fun _ _ _ _ _ _ us hl => match us, hl with | [_], _ => rfl) (fun _ _ _ _ _ _ us hl => match us, hl with | [_], _ => rfl)
  have C__law_reduced : Cal l.prog w K mg base "_law_reduced" 1 ["rows", "vector"] (spR K R_lred) := Cal.mk' (fun_mk (st := s__law_reduced) l14 c14 k14) (PySem.W.mg_of X G a14) (ok__law_reduced (fun_mk (st := s__law_reduced) l14 c14 k14) T) (fun _ _ _ _ _ _ us hl => match us, hl with | [_, _], _ => rfl) (fun _ _ _ _ _ _ us hl => match us, hl with | [_, _], _ => rfl)
  have C__law_with : Cal l.prog w K mg base "_law_with" 2 ["rows", "vector"] (spR K R_lwith) := Cal.mk' (fun_mk (st := s__law_with) l15 c15 k15) (PySem.W.mg_of X G a15) (ok__law_with (fun_mk (st := s__law_with) l15 c15 k15) T C__law_reduced) (fun _ _ _ _ _ _ us hl => match us, hl with | [_, _], _ => rfl) (fun _ _ _ _ _ _ us hl => match us, hl with | [_, _], _ => rfl)
  have C__law_matrix : Cal l.prog w K mg base "_law_matrix" 3 ["script", "length", "place"] (spR K R_matrix) := Cal.mk' (fun_mk (st := s__law_matrix) l16 c16 k16) (PySem.W.mg_of X G a16) (ok__law_matrix (fun_mk (st := s__law_matrix) l16 c16 k16) T C__law_row C__law_seed C__law_base C__law_units C__law_with C__law_times) (fun _ _ _ _ _ _ us hl => match us, hl with | [_, _, _], _ => rfl) (fun _ _ _ _ _ _ us hl => match us, hl with | [_, _, _], _ => rfl)
  have C__law_right : Cal l.prog w K mg base "_law_right" 2 ["answer", "table"] (spR K R_right) := Cal.mk' (fun_mk (st := s__law_right) l17 c17 k17) (PySem.W.mg_of X G a17) (ok__law_right (fun_mk (st := s__law_right) l17 c17 k17) T C__law_is_integer C__law_gcd) (fun _ _ _ _ _ _ us hl => match us, hl with | [_, _], _ => rfl) (fun _ _ _ _ _ _ us hl => match us, hl with | [_, _], _ => rfl)
  exact ok_law (fun_mk (st := s_law) l18 c18 k18) T C__law_row C__law_seed C__law_matrix C__law_right C_balance
end K35
open PySem PySem.W PyProof.Rows
set_option maxRecDepth 100000 in
set_option maxHeartbeats 0 in
theorem PySem.Challenge.cw_playhall_k35_balance_of_a_matrix_holds : PySem.Challenge.rw_playhall_k35_balance_of_a_matrix.Holds := by
  w_on; o_law; k_head; (case hw => w_witness2)
  k_fill
  refine L2.walk_of (l := PySem.Challenge.rw_playhall_k35_balance_of_a_matrix) (n := 63) (k := 5) (x := "script") (CX := fun _ => L2.CX0) (sp := fun w => Z.spR _ K35.R_law) rfl (by decide) rfl ⟨rfl, by decide, by decide⟩ (fun w h Y => PySem.W.kIn_of Y) ?F (fun _ _ a ns hl _ hS => Z.law_start hS ⟨ns, rfl, hl, rfl⟩) (fun _ _ _ _ _ h => h)
  case F =>
    intro w mg fa h KX G hmg
    refine' K35.all_mk KX G hmg ?a0 ?l0 ?c0 ?k0 ?a1 ?l1 ?c1 ?k1 ?a2 ?l2 ?c2 ?k2 ?a3 ?l3 ?c3 ?k3 ?a4 ?l4 ?c4 ?k4 ?a5 ?l5 ?c5 ?k5 ?a6 ?l6 ?c6 ?k6 ?a7 ?l7 ?c7 ?k7 ?a8 ?l8 ?c8 ?k8 ?a9 ?l9 ?c9 ?k9 ?a10 ?l10 ?c10 ?k10 ?a11 ?l11 ?c11 ?k11 ?a12 ?l12 ?c12 ?k12 ?a13 ?l13 ?c13 ?k13 ?a14 ?l14 ?c14 ?k14 ?a15 ?l15 ?c15 ?k15 ?a16 ?l16 ?c16 ?k16 ?a17 ?l17 ?c17 ?k17 ?a18 ?l18 ?c18 ?k18 ?z_gcd ?z_lcm ?n_len ?n_int ?n_range ?n_max ?n_any ?n_abs ?n_sum ?n_list ?n_tuple ?n_enumerate ?n_zip ?n_isinstance ?n_bool
    (case a0 => k_is); (case l0 => k_is); (case c0 => k_is); (case k0 => k_is); (case a1 => k_is); (case l1 => k_is); (case c1 => k_is); (case k1 => k_is); (case a2 => k_is); (case l2 => k_is); (case c2 => k_is); (case k2 => k_is); (case a3 => k_is); (case l3 => k_is); (case c3 => k_is); (case k3 => k_is); (case a4 => k_is); (case l4 => k_is); (case c4 => k_is); (case k4 => k_is); (case a5 => k_is); (case l5 => k_is); (case c5 => k_is); (case k5 => k_is); (case a6 => k_is); (case l6 => k_is); (case c6 => k_is); (case k6 => k_is); (case a7 => k_is); (case l7 => k_is); (case c7 => k_is); (case k7 => k_is); (case a8 => k_is); (case l8 => k_is); (case c8 => k_is); (case k8 => k_is); (case a9 => k_is); (case l9 => k_is); (case c9 => k_is); (case k9 => k_is); (case a10 => k_is); (case l10 => k_is); (case c10 => k_is); (case k10 => k_is); (case a11 => k_is); (case l11 => k_is); (case c11 => k_is); (case k11 => k_is); (case a12 => k_is); (case l12 => k_is); (case c12 => k_is); (case k12 => k_is); (case a13 => k_is); (case l13 => k_is); (case c13 => k_is); (case k13 => k_is); (case a14 => k_is); (case l14 => k_is); (case c14 => k_is); (case k14 => k_is); (case a15 => k_is); (case l15 => k_is); (case c15 => k_is); (case k15 => k_is); (case a16 => k_is); (case l16 => k_is); (case c16 => k_is); (case k16 => k_is); (case a17 => k_is); (case l17 => k_is); (case c17 => k_is); (case k17 => k_is); (case a18 => k_is); (case l18 => k_is); (case c18 => k_is); (case k18 => k_is); (case z_gcd => k_is); (case z_lcm => k_is); (case n_len => k_is); (case n_int => k_is); (case n_range => k_is); (case n_max => k_is); (case n_any => k_is); (case n_abs => k_is); (case n_sum => k_is); (case n_list => k_is); (case n_tuple => k_is); (case n_enumerate => k_is); (case n_zip => k_is); (case n_isinstance => k_is); (case n_bool => k_is)

