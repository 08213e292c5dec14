import PyProof.Rows.All
import Wide.All
import OpenK.AllK
import Wide.FinOn
import HandS.ForMost
import HandS.Flow
import HandS.Zip
import HandS.TupAny
import HandS.TupMul
import HandS.Style
import HandS.Conv
import HandS.Rev
import HandS.Deep
import PyProof.SeqIndex
import HandS.IsInst
import HandS.Wide
import HandS.CallLocal
import KE.GoesMore
import KE.KRevSl
import PySem.Challenge.RW_cordrules_k01_whole_rows_one_after_anoth
set_option Elab.async false
set_option linter.all false
set_option maxRecDepth 100000
set_option maxHeartbeats 4000000
/-! Vm: values as data, a heap by numbers, and what a piece of syntax does with them. -/
namespace Vm
open PySem PySem.Spec PyProof.Rows L2

/-! ### values as data; the heap by numbers -/
inductive D where
  | non | bl (b : Bool) | int (i : Int) | str (x : Str) | tup (xs : List D) | ref (n : Nat) | fn (x : String) | ty (n : String) | rl (xs : List D) | wt (xs : List D)

mutual
def D.eqv : D → D → Bool
  | .non, .non => true
  | .bl a, .bl b => a == b
  | .int a, .int b => a == b
  | .str a, .str b => decide (a = b)
  | .tup a, .tup b => D.eqvs a b
  | .ref a, .ref b => a == b
  | .fn a, .fn b => a == b
  | .ty a, .ty b => a == b
  | .rl a, .rl b => D.eqvs a b
  | .wt a, .wt b => D.eqvs a b
  | _, _ => false
def D.eqvs : List D → List D → Bool
  | [], [] => true
  | a :: as, b :: bs => D.eqv a b && D.eqvs as bs
  | _, _ => false
end
mutual
theorem D.eqv_eq : ∀ {a b : D}, D.eqv a b = true → a = b
  | .non, b, h => by cases b <;> simp_all [D.eqv]
  | .bl _, b, h => by cases b <;> simp_all [D.eqv]
  | .int _, b, h => by cases b <;> simp_all [D.eqv]
  | .str _, b, h => by cases b <;> simp_all [D.eqv]
  | .tup xs, b, h => by
    cases b <;> simp [D.eqv] at h
    rw [D.eqvs_eq h]
  | .ref _, b, h => by cases b <;> simp_all [D.eqv]
  | .fn _, b, h => by cases b <;> simp_all [D.eqv]
  | .ty _, b, h => by cases b <;> simp_all [D.eqv]
  | .rl xs, b, h => by
    cases b <;> simp [D.eqv] at h
    rw [D.eqvs_eq h]
  | .wt xs, b, h => by
    cases b <;> simp [D.eqv] at h
    rw [D.eqvs_eq h]
theorem D.eqvs_eq : ∀ {a b : List D}, D.eqvs a b = true → a = b
  | [], b, h => by cases b <;> simp_all [D.eqvs]
  | x :: xs, b, h => by
    cases b with
    | nil => simp [D.eqvs] at h
    | cons y ys =>
      simp [D.eqvs] at h
      rw [D.eqv_eq h.1, D.eqvs_eq h.2]
end
mutual
theorem D.eqv_rfl : ∀ (a : D), D.eqv a a = true
  | .non => rfl
  | .bl _ => by simp [D.eqv]
  | .int _ => by simp [D.eqv]
  | .str _ => by simp [D.eqv]
  | .tup xs => by simp [D.eqv, D.eqvs_rfl xs]
  | .ref _ => by simp [D.eqv]
  | .fn _ => by simp [D.eqv]
  | .ty _ => by simp [D.eqv]
  | .rl xs => by simp [D.eqv, D.eqvs_rfl xs]
  | .wt xs => by simp [D.eqv, D.eqvs_rfl xs]
theorem D.eqvs_rfl : ∀ (a : List D), D.eqvs a a = true
  | [] => rfl
  | x :: xs => by simp [D.eqvs, D.eqv_rfl x, D.eqvs_rfl xs]
end
instance : DecidableEq D := fun a b =>
  if h : D.eqv a b = true then .isTrue (D.eqv_eq h) else .isFalse fun e => h (e ▸ D.eqv_rfl a)

/-- what lies at a number -/
inductive VO where
  | lst (xs : List D)
  | dK (kvs : List (Key × D))
  | dT (kvs : List (List Key × D))
  deriving DecidableEq
abbrev VH := List VO
abbrev En := List (Option D)

/-! ### how they lie in the abstract heap -/
/-- a list of the module's own -/
def KL (K : PySem.W.Frag) (a : Addr) (xs : List V) : Prop :=
  ∃ (o : Obj) (its : Array Value) (n : Nat), K.lookup a = some o ∧ o.cls = .type "list" ∧ o.dict = none ∧ o.data = .seq its n ∧ its.size ≤ sizeLine ∧ Vals xs its.toList
/-- a tuple that has no dict of its own -/
def TupAt (K : PySem.W.Frag) (H : Hp) (a : Addr) (vs : List V) : Prop :=
  (∃ o, H a = some (.frz o (.tup vs)) ∧ o.dict = none) ∨
    ∃ (o : Obj) (its : Array Value) (n : Nat), K.lookup a = some o ∧ o.cls = .type "tuple" ∧ o.dict = none ∧ o.data = .seq its n ∧ its.size ≤ sizeLine ∧ Vals vs its.toList
theorem TupAt.sq {K : PySem.W.Frag} {H : Hp} {a : Addr} {vs : List V} (t : TupAt K H a vs) : SqT K H a vs := by
  rcases t with ⟨o, h, _⟩ | ⟨o, its, n, h1, h2, h3, h4, h5, h6⟩
  · exact .inl (.inr ⟨o, h⟩)
  · exact .inr ⟨o, its, n, h1, h2, h4, h5, h6⟩
section
variable (K : PySem.W.Frag) (mg : Str → Option Value)
mutual
def RelD (ρ : List Addr) (H : Hp) : D → V → Prop
  | .non, v => v = .non
  | .bl b, v => v = .bl b
  | .int i, v => v = .int i
  | .str x, v => v = .str x
  | .tup xs, v => ∃ a vs, v = .ref a ∧ TupAt K H a vs ∧ RelDs ρ H xs vs
  | .ref n, v => ∃ a, ρ[n]? = some a ∧ v = .ref a
  | .fn x, v => ∃ f, mg (Str.ofString x) = some (.ref f) ∧ v = .ref f
  | .ty n, v => v = .ty n
  | .rl xs, v => ∃ a vs, v = .ref a ∧ ((∃ o, H a = some (.frz o (.lst vs))) ∨ KL K a vs) ∧ RelDs ρ H xs vs
  | .wt xs, v => ∃ a vs, v = .ref a ∧ SqT K H a vs ∧ RelDs ρ H xs vs
def RelDs (ρ : List Addr) (H : Hp) : List D → List V → Prop
  | [], vs => vs = []
  | x :: xs, vs => ∃ v r, vs = v :: r ∧ RelD ρ H x v ∧ RelDs ρ H xs r
end
def RelKV {κ : Type} (ρ : List Addr) (H : Hp) : List (κ × D) → List (κ × V) → Prop
  | [], ws => ws = []
  | p :: ps, ws => ∃ q r, ws = q :: r ∧ p.1 = q.1 ∧ RelD K mg ρ H p.2 q.2 ∧ RelKV ρ H ps r
def RelO (ρ : List Addr) (H : Hp) : VO → Addr → Prop
  | .lst xs, a => ∃ vs, H a = some (.lst vs) ∧ RelDs K mg ρ H xs vs
  | .dK kvs, a => ∃ ws, H a = some (.dK ws) ∧ RelKV K mg ρ H kvs ws
  | .dT kvs, a => ∃ ws, H a = some (.dT ws) ∧ RelKV K mg ρ H kvs ws
structure RelH (ρ : List Addr) (h : VH) (H : Hp) : Prop where
  len : ρ.length = h.length
  obj : ∀ (n : Nat) (o : VO) (a : Addr), h[n]? = some o → ρ[n]? = some a → RelO K mg ρ H o a
  inj : ∀ (i j : Nat) (a : Addr) (o u : VO), ρ[i]? = some a → ρ[j]? = some a → h[i]? = some o → h[j]? = some u → i = j
/-- what stays: numbers, tuples, what is locked, what is tracked but has no number -/
structure Step (ρ : List Addr) (H : Hp) (ρ' : List Addr) (H' : Hp) : Prop where
  pre : ∃ more, ρ' = ρ ++ more
  tup : ∀ a vs, SqT K H a vs → SqT K H' a vs
  frz : ∀ a o u, H a = some (.frz o u) → H' a = some (.frz o u)
  frm : ∀ a o, H a = some o → a ∉ ρ → H' a = some o ∧ a ∉ ρ'
structure Step0 (ρ : List Addr) (H : Hp) (ρ' : List Addr) (H' : Hp) : Prop where
  pre : ∃ more, ρ' = ρ ++ more
  tup : ∀ a vs, SqT K H a vs → SqT K H' a vs
  frz : ∀ a o u, H a = some (.frz o u) → H' a = some (.frz o u)
def RelE (ρ : List Addr) (H : Hp) (env : En) (σ : L2.St) : Prop :=
  env.length = σ.length ∧ ∀ (i : Nat) (d : D), env[i]? = some (some d) → ∃ v, σ[i]? = some (some v) ∧ RelD K mg ρ H d v
end

section
variable {K : PySem.W.Frag} {mg : Str → Option Value} {ρ ρ' ρ'' : List Addr} {H H' H'' : Hp}
theorem Step.refl : Step K ρ H ρ H := ⟨⟨[], by simp⟩, fun _ _ h => h, fun _ _ _ h => h, fun _ _ h h' => ⟨h, h'⟩⟩
theorem Step.trans (a : Step K ρ H ρ' H') (b : Step K ρ' H' ρ'' H'') : Step K ρ H ρ'' H'' := by
  obtain ⟨⟨m1, e1⟩, t1, f1, r1⟩ := a
  obtain ⟨⟨m2, e2⟩, t2, f2, r2⟩ := b
  refine ⟨⟨m1 ++ m2, by rw [e2, e1, List.append_assoc]⟩, fun a vs h => t2 _ _ (t1 _ _ h), fun a o u h => f2 _ _ _ (f1 _ _ _ h), fun a o h h' => ?_⟩
  · obtain ⟨g, g'⟩ := r1 a o h h'
    exact r2 a o g g'
theorem Step0.at (s : Step0 K ρ H ρ' H') {n : Nat} {a : Addr} (e : ρ[n]? = some a) : ρ'[n]? = some a := by
  obtain ⟨m, rfl⟩ := s.pre
  rw [List.getElem?_append_left (List.getElem?_eq_some_iff.mp e).1]; exact e
mutual
theorem RelD.mono0 (s : Step0 K ρ H ρ' H') : ∀ {d : D} {v : V}, RelD K mg ρ H d v → RelD K mg ρ' H' d v
  | .non, _, h => h
  | .bl _, _, h => h
  | .int _, _, h => h
  | .str _, _, h => h
  | .tup xs, v, h => by
    unfold RelD at h ⊢
    obtain ⟨a, vs, e, h1, h2⟩ := h
    exact ⟨a, vs, e, h1.imp (fun ⟨o, z, zd⟩ => ⟨o, s.frz _ _ _ z, zd⟩) id, RelDs.mono0 s h2⟩
  | .wt xs, v, h => by
    unfold RelD at h ⊢
    obtain ⟨a, vs, e, h1, h2⟩ := h
    exact ⟨a, vs, e, s.tup _ _ h1, RelDs.mono0 s h2⟩
  | .ref n, v, h => by
    unfold RelD at h ⊢
    obtain ⟨a, e, e'⟩ := h
    exact ⟨a, s.at e, e'⟩
  | .fn _, _, h => by unfold RelD at h ⊢; exact h
  | .ty _, _, h => h
  | .rl xs, v, h => by
    unfold RelD at h ⊢
    obtain ⟨a, vs, e, h1, h2⟩ := h
    exact ⟨a, vs, e, h1.elim (fun ⟨o, z⟩ => .inl ⟨o, s.frz _ _ _ z⟩) .inr, RelDs.mono0 s h2⟩
theorem RelDs.mono0 (s : Step0 K ρ H ρ' H') : ∀ {d : List D} {v : List V}, RelDs K mg ρ H d v → RelDs K mg ρ' H' d v
  | [], _, h => by unfold RelDs at h ⊢; exact h
  | x :: xs, vs, h => by
    unfold RelDs at h ⊢
    obtain ⟨v, r, e, h1, h2⟩ := h
    exact ⟨v, r, e, RelD.mono0 s h1, RelDs.mono0 s h2⟩
end
theorem RelKV.mono0 {κ : Type} (s : Step0 K ρ H ρ' H') : ∀ {kvs : List (κ × D)} {ws : List (κ × V)}, RelKV K mg ρ H kvs ws → RelKV K mg ρ' H' kvs ws
  | [], _, h => h
  | p :: ps, ws, h => by
    obtain ⟨q, r, e, e1, h1, h2⟩ := h
    exact ⟨q, r, e, e1, h1.mono0 s, RelKV.mono0 s h2⟩
theorem Step.to0 (s : Step K ρ H ρ' H') : Step0 K ρ H ρ' H' := ⟨s.pre, s.tup, s.frz⟩
theorem Step.at (s : Step K ρ H ρ' H') {n : Nat} {a : Addr} (e : ρ[n]? = some a) : ρ'[n]? = some a := s.to0.at e
theorem RelD.mono {d : D} {v : V} (s : Step K ρ H ρ' H') (h : RelD K mg ρ H d v) : RelD K mg ρ' H' d v := h.mono0 s.to0
theorem RelDs.mono {d : List D} {v : List V} (s : Step K ρ H ρ' H') (h : RelDs K mg ρ H d v) : RelDs K mg ρ' H' d v := h.mono0 s.to0
theorem RelKV.mono {κ : Type} {kvs : List (κ × D)} {ws : List (κ × V)} (s : Step K ρ H ρ' H') (h : RelKV K mg ρ H kvs ws) : RelKV K mg ρ' H' kvs ws := h.mono0 s.to0
theorem RelE.mono {env : En} {σ : L2.St} (s : Step K ρ H ρ' H') (h : RelE K mg ρ H env σ) : RelE K mg ρ' H' env σ :=
  ⟨h.1, fun i d e => let ⟨v, e1, r⟩ := h.2 i d e; ⟨v, e1, r.mono s⟩⟩
theorem RelDs.length : ∀ {d : List D} {v : List V}, RelDs K mg ρ H d v → d.length = v.length
  | [], _, h => by unfold RelDs at h; subst h; rfl
  | x :: xs, vs, h => by
    unfold RelDs at h
    obtain ⟨v, r, rfl, _, h2⟩ := h
    simp [RelDs.length h2]
theorem RelDs.nil : RelDs K mg ρ H [] [] := by unfold RelDs; rfl
theorem RelDs.cons {d v ds vs} (h1 : RelD K mg ρ H d v) (h2 : RelDs K mg ρ H ds vs) : RelDs K mg ρ H (d :: ds) (v :: vs) := by
  unfold RelDs; exact ⟨v, vs, rfl, h1, h2⟩
theorem RelDs.append : ∀ {ds vs es us}, RelDs K mg ρ H ds vs → RelDs K mg ρ H es us → RelDs K mg ρ H (ds ++ es) (vs ++ us)
  | [], _, _, _, h, g => by unfold RelDs at h; subst h; exact g
  | x :: xs, _, _, _, h, g => by
    unfold RelDs at h
    obtain ⟨v, r, rfl, h1, h2⟩ := h
    exact RelDs.cons h1 (RelDs.append h2 g)
theorem RelDs.get : ∀ {ds : List D} {vs : List V} {i : Nat} {d : D}, RelDs K mg ρ H ds vs → ds[i]? = some d → ∃ v, vs[i]? = some v ∧ RelD K mg ρ H d v
  | [], _, _, _, _, e => by simp at e
  | x :: xs, _, 0, d, h, e => by
    unfold RelDs at h
    obtain ⟨v, r, rfl, h1, h2⟩ := h
    simp at e; subst e
    exact ⟨v, rfl, h1⟩
  | x :: xs, _, i + 1, d, h, e => by
    unfold RelDs at h
    obtain ⟨v, r, rfl, h1, h2⟩ := h
    simp at e
    obtain ⟨w, e1, r1⟩ := RelDs.get h2 e
    exact ⟨w, by simpa using e1, r1⟩
theorem RelDs.getV : ∀ {ds : List D} {vs : List V} {i : Nat} {v : V}, RelDs K mg ρ H ds vs → vs[i]? = some v → ∃ d, ds[i]? = some d ∧ RelD K mg ρ H d v
  | [], _, _, _, h, e => by unfold RelDs at h; subst h; simp at e
  | x :: xs, _, 0, d, h, e => by
    unfold RelDs at h
    obtain ⟨v, r, rfl, h1, h2⟩ := h
    simp at e; subst e
    exact ⟨x, rfl, h1⟩
  | x :: xs, _, i + 1, d, h, e => by
    unfold RelDs at h
    obtain ⟨v, r, rfl, h1, h2⟩ := h
    simp at e
    obtain ⟨w, e1, r1⟩ := RelDs.getV h2 e
    exact ⟨w, by simpa using e1, r1⟩
theorem RelDs.set : ∀ {ds : List D} {vs : List V} {d : D} {v : V} (i : Nat), RelD K mg ρ H d v → RelDs K mg ρ H ds vs → RelDs K mg ρ H (ds.set i d) (vs.set i v)
  | [], _, _, _, _, _, h => by unfold RelDs at h; subst h; exact RelDs.nil
  | x :: xs, _, d, v, 0, q, h => by
    unfold RelDs at h
    obtain ⟨w, r, rfl, h1, h2⟩ := h
    exact RelDs.cons q h2
  | x :: xs, _, d, v, i + 1, q, h => by
    unfold RelDs at h
    obtain ⟨w, r, rfl, h1, h2⟩ := h
    exact RelDs.cons h1 (RelDs.set i q h2)
theorem RelDs.take : ∀ {ds : List D} {vs : List V} (n : Nat), RelDs K mg ρ H ds vs → RelDs K mg ρ H (ds.take n) (vs.take n)
  | [], _, n, h => by unfold RelDs at h; subst h; simp [RelDs]
  | x :: xs, _, 0, h => by simp [RelDs]
  | x :: xs, _, n + 1, h => by
    unfold RelDs at h
    obtain ⟨w, r, rfl, h1, h2⟩ := h
    exact RelDs.cons h1 (RelDs.take n h2)
theorem RelDs.drop : ∀ {ds : List D} {vs : List V} (n : Nat), RelDs K mg ρ H ds vs → RelDs K mg ρ H (ds.drop n) (vs.drop n)
  | [], _, n, h => by unfold RelDs at h; subst h; simp [RelDs]
  | x :: xs, _, 0, h => h
  | x :: xs, _, n + 1, h => by
    unfold RelDs at h
    obtain ⟨w, r, rfl, h1, h2⟩ := h
    exact RelDs.drop n h2
theorem RelE.get {env : En} {σ : L2.St} {i : Nat} {d : D} (h : RelE K mg ρ H env σ) (e : env[i]? = some (some d)) : ∃ v, σ[i]? = some (some v) ∧ RelD K mg ρ H d v := h.2 i d e
theorem RelE.set {env : En} {σ : L2.St} {i : Nat} {d : D} {v : V} (h : RelE K mg ρ H env σ) (r : RelD K mg ρ H d v) : RelE K mg ρ H (env.set i (some d)) (σ.set i (some v)) := by
  refine ⟨by simp [h.1], fun j e q => ?_⟩
  by_cases hj : i = j
  · subst hj
    have hl : i < env.length := by
      rcases List.getElem?_eq_some_iff.mp q with ⟨z, _⟩
      simpa using z
    rw [List.getElem?_set_self hl] at q
    have q' : d = e := by simpa using q
    subst q'
    exact ⟨v, List.getElem?_set_self (by rw [← h.1]; exact hl), r⟩
  · rw [List.getElem?_set_ne hj] at q
    obtain ⟨w, e1, r1⟩ := h.2 j e q
    exact ⟨w, by rw [List.getElem?_set_ne hj]; exact e1, r1⟩

/-! ### the heap changes -/
theorem RelH.there {h : VH} (r : RelH K mg ρ h H) {n : Nat} {o : VO} (e : h[n]? = some o) : ∃ a, ρ[n]? = some a ∧ RelO K mg ρ H o a := by
  have hn : n < ρ.length := by rw [r.len]; exact (List.getElem?_eq_some_iff.mp e).1
  exact ⟨ρ[n], List.getElem?_eq_getElem hn, r.obj n o _ e (List.getElem?_eq_getElem hn)⟩
theorem RelO.mono0 {o : VO} {a : Addr} (s : Step0 K ρ H ρ' H') (k : H' a = H a) (h : RelO K mg ρ H o a) : RelO K mg ρ' H' o a := by
  cases o with
  | lst xs => obtain ⟨vs, e, r⟩ := h; exact ⟨vs, k.trans e, r.mono0 s⟩
  | dK kvs => obtain ⟨ws, e, r⟩ := h; exact ⟨ws, k.trans e, r.mono0 s⟩
  | dT kvs => obtain ⟨ws, e, r⟩ := h; exact ⟨ws, k.trans e, r.mono0 s⟩
theorem RelO.mono {o : VO} {a : Addr} (s : Step K ρ H ρ' H') (k : H' a = H a) (h : RelO K mg ρ H o a) : RelO K mg ρ' H' o a := h.mono0 s.to0 k
/-- a mutable thing is tracked -/
theorem RelO.tracked {o : VO} {a : Addr} (h : RelO K mg ρ H o a) : ∃ u, H a = some u ∧ (∀ vs, u ≠ .tup vs) ∧ ∀ ob w, u ≠ .frz ob w := by
  cases o with
  | lst xs => obtain ⟨vs, e, r⟩ := h; exact ⟨_, e, (fun _ q => by cases q), (fun _ _ q => by cases q)⟩
  | dK kvs => obtain ⟨vs, e, r⟩ := h; exact ⟨_, e, (fun _ q => by cases q), (fun _ _ q => by cases q)⟩
  | dT kvs => obtain ⟨vs, e, r⟩ := h; exact ⟨_, e, (fun _ q => by cases q), (fun _ _ q => by cases q)⟩

/-- an address that may be laid or written: no tuple, nothing locked stands there -/
def Wr (H : Hp) (p : Addr) : Prop := ∀ u, H p = some u → (∀ vs, u ≠ .tup vs) ∧ ∀ ob w, u ≠ .frz ob w
theorem Wr.none {p : Addr} (h : H p = none) : Wr H p := fun u e => by rw [h] at e; cases e
theorem RelO.wr {o : VO} {a : Addr} (h : RelO K mg ρ H o a) : Wr H a := fun u e => by
  obtain ⟨u', e', t⟩ := h.tracked
  rw [e] at e'; cases e'; exact t
theorem sqT_upd {p a : Addr} {o : HO} {vs : List V} (hp : Wr H p) (h : SqT K H a vs) : SqT K (upd H p o) a vs := by
  rcases h with (h | ⟨ob, h⟩) | h
  · have : a ≠ p := fun e => by subst e; exact (hp _ h).1 _ rfl
    exact .inl (.inl (by rw [upd_ne this]; exact h))
  · have : a ≠ p := fun e => by subst e; exact (hp _ h).2 _ _ rfl
    exact .inl (.inr ⟨ob, by rw [upd_ne this]; exact h⟩)
  · exact .inr h
theorem frz_upd {p a : Addr} {o : HO} {ob : Obj} {u : HO} (hp : Wr H p) (h : H a = some (.frz ob u)) : upd H p o a = some (.frz ob u) := by
  have : a ≠ p := fun e => by subst e; exact (hp _ h).2 _ _ rfl
  rw [upd_ne this]; exact h
/-- a new thing without a number (a tuple) -/
theorem Step.untold {p : Addr} {u : HO} (hp : H p = none) : Step K ρ H ρ (upd H p u) :=
  ⟨⟨[], by simp⟩, fun _ _ h => sqT_upd (.none hp) h, fun _ _ _ h => frz_upd (.none hp) h, fun a o h h' => ⟨by rw [upd_ne (ne_of_none h hp)]; exact h, h'⟩⟩
theorem RelH.untold {h : VH} {p : Addr} {u : HO} (r : RelH K mg ρ h H) (hp : H p = none) : RelH K mg ρ h (upd H p u) :=
  ⟨r.len, fun n o a e1 e2 => (r.obj n o a e1 e2).mono (Step.untold hp) (by
    obtain ⟨u', e', _⟩ := (r.obj n o a e1 e2).tracked
    exact upd_ne (ne_of_none e' hp)), r.inj⟩
/-- a new thing with the next number -/
theorem Step.lay {p : Addr} {u : HO} (hp : H p = none) : Step K ρ H (ρ ++ [p]) (upd H p u) :=
  ⟨⟨[p], rfl⟩, fun _ _ h => sqT_upd (.none hp) h, fun _ _ _ h => frz_upd (.none hp) h, fun a o h h' => ⟨by rw [upd_ne (ne_of_none h hp)]; exact h, by
    simp only [List.mem_append, List.mem_singleton, not_or]
    exact ⟨h', ne_of_none h hp⟩⟩⟩
theorem RelH.lay {h : VH} {p : Addr} {u : HO} {o : VO} (r : RelH K mg ρ h H) (hp : H p = none) (new : RelO K mg (ρ ++ [p]) (upd H p u) o p) : RelH K mg (ρ ++ [p]) (h ++ [o]) (upd H p u) := by
  have old : ∀ (i : Nat) (a : Addr), (ρ ++ [p])[i]? = some a → (i < ρ.length ∧ ρ[i]? = some a) ∨ (i = ρ.length ∧ a = p) := fun i a e => by
    by_cases hi : i < ρ.length
    · rw [List.getElem?_append_left hi] at e
      exact .inl ⟨hi, e⟩
    · have hi2 : i < (ρ ++ [p]).length := (List.getElem?_eq_some_iff.mp e).1
      simp at hi2
      have : i = ρ.length := by omega
      subst this
      simp at e
      exact .inr ⟨rfl, e.symm⟩
  refine ⟨by simp [r.len], fun n o' a e1 e2 => ?_, fun i j a x y e1 e2 e3 e4 => ?_⟩
  · rcases old n a e2 with ⟨hn, e⟩ | ⟨hn, e⟩
    · rw [r.len] at hn
      rw [List.getElem?_append_left hn] at e1
      have ro := r.obj n o' a e1 e
      refine ro.mono (Step.lay hp) ?_
      obtain ⟨u', e', _⟩ := ro.tracked
      exact upd_ne (ne_of_none e' hp)
    · subst e
      rw [hn, r.len] at e1
      simp at e1
      subst e1
      exact new
  · have tr : ∀ (i : Nat) (x : VO), ρ[i]? = some p → h[i]? = some x → False := fun i x q1 q2 => by
      obtain ⟨u', e', _⟩ := (r.obj i x p q2 q1).tracked
      rw [hp] at e'; cases e'
    rcases old i a e1 with ⟨hi, q1⟩ | ⟨hi, q1⟩ <;> rcases old j a e2 with ⟨hj, q2⟩ | ⟨hj, q2⟩
    · rw [r.len] at hi hj
      rw [List.getElem?_append_left hi] at e3
      rw [List.getElem?_append_left hj] at e4
      exact r.inj i j a x y q1 q2 e3 e4
    · subst q2
      rw [r.len] at hi
      rw [List.getElem?_append_left hi] at e3
      exact (tr i x q1 e3).elim
    · subst q1
      rw [r.len] at hj
      rw [List.getElem?_append_left hj] at e4
      exact (tr j y q2 e4).elim
    · omega
/-- a thing is written -/
theorem Step.write {n : Nat} {a : Addr} {u : HO} (hn : ρ[n]? = some a) (hw : Wr H a) : Step K ρ H ρ (upd H a u) :=
  ⟨⟨[], by simp⟩, fun _ _ h => sqT_upd hw h, fun _ _ _ h => frz_upd hw h, fun b o h h' => ⟨by
    rw [upd_ne (fun e => h' (by rw [e]; exact List.mem_of_getElem? hn))]; exact h, h'⟩⟩
theorem RelH.write {h : VH} {n : Nat} {a : Addr} {u : HO} {o o' : VO} (r : RelH K mg ρ h H) (ho : h[n]? = some o) (hn : ρ[n]? = some a) (new : RelO K mg ρ (upd H a u) o' a) :
    RelH K mg ρ (h.set n o') (upd H a u) := by
  have hw : Wr H a := (r.obj n o a ho hn).wr
  have get : ∀ (i : Nat) (x : VO), (h.set n o')[i]? = some x → (i = n ∧ x = o') ∨ (i ≠ n ∧ h[i]? = some x) := fun i x e => by
    by_cases hi : n = i
    · subst hi
      rw [List.getElem?_set_self (List.getElem?_eq_some_iff.mp ho).1] at e
      cases e; exact .inl ⟨rfl, rfl⟩
    · rw [List.getElem?_set_ne hi] at e
      exact .inr ⟨fun z => hi z.symm, e⟩
  refine ⟨by simp [r.len], fun i x b e1 e2 => ?_, fun i j b x y e1 e2 e3 e4 => ?_⟩
  · rcases get i x e1 with ⟨hi, hx⟩ | ⟨hi, hx⟩
    · subst hi hx
      rw [hn] at e2; cases e2
      exact new
    · refine (r.obj i x b hx e2).mono (Step.write hn hw) (upd_ne fun e => ?_)
      subst e
      exact hi (r.inj i n b x o e2 hn hx ho)
  · have old : ∀ (i : Nat) (x : VO), (h.set n o')[i]? = some x → ∃ x', h[i]? = some x' := fun i x e => by
      rcases get i x e with ⟨hi, hx⟩ | ⟨hi, hx⟩
      · subst hi; exact ⟨o, ho⟩
      · exact ⟨x, hx⟩
    obtain ⟨x', q1⟩ := old i x e3
    obtain ⟨y', q3⟩ := old j y e4
    exact r.inj i j b x' y' e1 e2 q1 q3
theorem RelH.lst {h : VH} (r : RelH K mg ρ h H) {n : Nat} {xs : List D} (e : h[n]? = some (.lst xs)) : ∃ a vs, ρ[n]? = some a ∧ H a = some (.lst vs) ∧ RelDs K mg ρ H xs vs := by
  obtain ⟨a, e1, vs, e2, r2⟩ := r.there e
  exact ⟨a, vs, e1, e2, r2⟩
theorem RelH.new_not_mem {h : VH} (r : RelH K mg ρ h H) {p : Addr} (hp : H p = none) : p ∉ ρ := fun hm => by
  obtain ⟨n, hn, e⟩ := List.mem_iff_getElem.mp hm
  have hn' : n < h.length := by rw [← r.len]; exact hn
  obtain ⟨u, e1, _⟩ := (r.obj n h[n] p (List.getElem?_eq_getElem hn') (by rw [← e]; exact List.getElem?_eq_getElem hn)).tracked
  rw [hp] at e1; cases e1
/-- a thing that stands gets the next number -/
theorem Step0.adopt {p : Addr} : Step0 K ρ H (ρ ++ [p]) H := ⟨⟨[p], rfl⟩, fun _ _ h => h, fun _ _ _ h => h⟩
theorem RelH.adopt {h : VH} {p : Addr} {o : VO} (r : RelH K mg ρ h H) (hp : p ∉ ρ) (new : RelO K mg (ρ ++ [p]) H o p) : RelH K mg (ρ ++ [p]) (h ++ [o]) H := by
  have old : ∀ (i : Nat) (a : Addr), (ρ ++ [p])[i]? = some a → (i < ρ.length ∧ ρ[i]? = some a) ∨ (i = ρ.length ∧ a = p) := fun i a e => by
    by_cases hi : i < ρ.length
    · rw [List.getElem?_append_left hi] at e
      exact .inl ⟨hi, e⟩
    · have hi2 : i < (ρ ++ [p]).length := (List.getElem?_eq_some_iff.mp e).1
      simp at hi2
      have : i = ρ.length := by omega
      subst this
      simp at e
      exact .inr ⟨rfl, e.symm⟩
  refine ⟨by simp [r.len], fun n o' a e1 e2 => ?_, fun i j a x y e1 e2 e3 e4 => ?_⟩
  · rcases old n a e2 with ⟨hn, e⟩ | ⟨hn, e⟩
    · rw [r.len] at hn
      rw [List.getElem?_append_left hn] at e1
      exact (r.obj n o' a e1 e).mono0 Step0.adopt rfl
    · subst e
      rw [hn, r.len] at e1
      simp at e1
      subst e1
      exact new
  · rcases old i a e1 with ⟨hi, q1⟩ | ⟨hi, q1⟩ <;> rcases old j a e2 with ⟨hj, q2⟩ | ⟨hj, q2⟩
    · rw [r.len] at hi hj
      rw [List.getElem?_append_left hi] at e3
      rw [List.getElem?_append_left hj] at e4
      exact r.inj i j a x y q1 q2 e3 e4
    · subst q2
      exact (hp (List.mem_of_getElem? q1)).elim
    · subst q1
      exact (hp (List.mem_of_getElem? q2)).elim
    · omega
/-- the items of a value that is a list (or a read-only one), or a tuple -/
def lstOf (h : VH) : D → Option (List D)
  | .ref n => match h[n]? with | some (.lst xs) => some xs | _ => none
  | .rl xs => some xs
  | _ => none
theorem lstOf_ok {h : VH} {d : D} {v : V} {xs : List D} (r : RelH K mg ρ h H) (q : RelD K mg ρ H d v) (e : lstOf h d = some xs) : ∃ a vs, v = .ref a ∧ SqL K H a vs ∧ RelDs K mg ρ H xs vs := by
  cases d with
  | ref n =>
    simp only [lstOf] at e
    split at e
    · rename_i ys hy
      cases e
      unfold RelD at q
      obtain ⟨a, ea, rfl⟩ := q
      obtain ⟨a', vs, e1, e2, e3⟩ := r.lst hy
      rw [ea] at e1; cases e1
      exact ⟨a, vs, rfl, SqL.of e2, e3⟩
    · cases e
  | rl ys =>
    cases e
    unfold RelD at q
    obtain ⟨a, vs, rfl, h1, h2⟩ := q
    exact ⟨a, vs, rfl, h1.elim (fun ⟨o, z⟩ => .inl (.inr ⟨o, z⟩)) .inr, h2⟩
  | _ => cases e
def tupOf : D → Option (List D)
  | .tup xs => some xs
  | .wt xs => some xs
  | _ => none
theorem tupOf_ok {d : D} {v : V} {xs : List D} (q : RelD K mg ρ H d v) (e : tupOf d = some xs) : ∃ a vs, v = .ref a ∧ SqT K H a vs ∧ RelDs K mg ρ H xs vs := by
  cases d with
  | tup ys =>
    cases e
    unfold RelD at q
    obtain ⟨a, vs, e, h1, h2⟩ := q
    exact ⟨a, vs, e, h1.sq, h2⟩
  | wt ys => cases e; unfold RelD at q; exact q
  | _ => cases e
end

/-! ### the readings: what a piece of syntax does with data -/
/-- behind: from (ρ, H) the heap h' and the value d have come -/
def Got (K : PySem.W.Frag) (mg : Str → Option Value) (ρ : List Addr) (H : Hp) (d : D) (h' : VH) (Q : V → Hp → Prop) : Prop :=
  ∀ ρ' v H', Step K ρ H ρ' H' → RelH K mg ρ' h' H' → RelD K mg ρ' H' d v → Q v H'
abbrev EM := En → VH → Option (D × VH)
abbrev BM := En → VH → Option (Bool × VH)
abbrev AM := En → VH → Option (List D × VH)
inductive SO where
  | nx (env : En) (h : VH) | rt (d : D) (h : VH) | bk (env : En) (h : VH) | ct (env : En) (h : VH)
abbrev SM := En → VH → Option SO
abbrev GM := D → En → VH → Option (En × VH)
section
variable (K : PySem.W.Frag) (mg : Str → Option Value)
def tS (m : EM) : TE := fun σ H Q => ∃ ρ env h d h', RelE K mg ρ H env σ ∧ RelH K mg ρ h H ∧ m env h = some (d, h') ∧ Got K mg ρ H d h' Q
def bS (m : BM) : TT := fun σ H Q => ∃ ρ env h b h', RelE K mg ρ H env σ ∧ RelH K mg ρ h H ∧ m env h = some (b, h') ∧ ∀ ρ' H', Step K ρ H ρ' H' → RelH K mg ρ' h' H' → Q b H'
def aS (m : AM) : TA := fun σ H Q => ∃ ρ env h ds h', RelE K mg ρ H env σ ∧ RelH K mg ρ h H ∧ m env h = some (ds, h') ∧ ∀ ρ' vs H', Step K ρ H ρ' H' → RelH K mg ρ' h' H' → RelDs K mg ρ' H' ds vs → Q vs H'
def SK (D : Ends) (ρ : List Addr) (H : Hp) : SO → Prop
  | .nx env' h' => ∀ ρ' σ' H', Step K ρ H ρ' H' → RelH K mg ρ' h' H' → RelE K mg ρ' H' env' σ' → D.nx σ' H'
  | .rt d h' => Got K mg ρ H d h' D.rt
  | .bk env' h' => ∀ ρ' σ' H', Step K ρ H ρ' H' → RelH K mg ρ' h' H' → RelE K mg ρ' H' env' σ' → D.bk σ' H'
  | .ct env' h' => ∀ ρ' σ' H', Step K ρ H ρ' H' → RelH K mg ρ' h' H' → RelE K mg ρ' H' env' σ' → D.ct σ' H'
def sS (m : SM) : TS := fun D σ H => ∃ ρ env h r, RelE K mg ρ H env σ ∧ RelH K mg ρ h H ∧ m env h = some r ∧ SK K mg D ρ H r
def gS (m : GM) : TG := fun v σ H Q => ∃ ρ env h d env' h', RelD K mg ρ H d v ∧ RelE K mg ρ H env σ ∧ RelH K mg ρ h H ∧ m d env h = some (env', h') ∧ ∀ ρ' σ' H', Step K ρ H ρ' H' → RelH K mg ρ' h' H' → RelE K mg ρ' H' env' σ' → Q σ' H'
end
theorem Got.mono {K : PySem.W.Frag} {mg : Str → Option Value} {ρ ρ' : List Addr} {H H' : Hp} {d : D} {h' : VH} {Q : V → Hp → Prop} (s : Step K ρ H ρ' H') (g : Got K mg ρ H d h' Q) : Got K mg ρ' H' d h' Q :=
  fun ρ'' v H'' s' r q => g ρ'' v H'' (s.trans s') r q
theorem SK.mono {K : PySem.W.Frag} {mg : Str → Option Value} {ρ ρ' : List Addr} {H H' : Hp} {D : Ends} (s : Step K ρ H ρ' H') : ∀ {r : SO}, SK K mg D ρ H r → SK K mg D ρ' H' r
  | .nx _ _, g => fun ρ'' σ' H'' s' => g ρ'' σ' H'' (s.trans s')
  | .rt _ _, g => Got.mono s g
  | .bk _ _, g => fun ρ'' σ' H'' s' => g ρ'' σ' H'' (s.trans s')
  | .ct _ _, g => fun ρ'' σ' H'' s' => g ρ'' σ' H'' (s.trans s')

/-! ### weaker readings -/
section
variable {X : Cx}
theorem PEi {e : Expr} {t t' : TE} (h : PE X e t) (i : ∀ σ H Q, t' σ H Q → t σ H Q) : PE X e t' := ⟨fun pins s σ H Q I q => h.run pins s σ H Q I (i _ _ _ q)⟩
theorem PTi {e : Expr} {t t' : TT} (h : PT X e t) (i : ∀ σ H Q, t' σ H Q → t σ H Q) : PT X e t' := ⟨fun pins s σ H Q I q => h.run pins s σ H Q I (i _ _ _ q)⟩
theorem PWi {e : Expr} {t t' : TT} (h : PW X e t) (i : ∀ σ H Q, t' σ H Q → t σ H Q) : PW X e t' := ⟨fun w pins s σ H Q I q => h.run w pins s σ H Q I (i _ _ _ q)⟩
theorem PAi {e : List Expr} {t t' : TA} (h : PA X e t) (i : ∀ σ H Q, t' σ H Q → t σ H Q) : PA X e t' := ⟨fun p pins s σ H Q I q => h.run p pins s σ H Q I (i _ _ _ q)⟩
theorem PSi {e : Stmt} {t t' : TS} (h : PS X e t) (i : ∀ D σ H, t' D σ H → t D σ H) : PS X e t' := ⟨fun pins s σ H D I q => h.run pins s σ H D I (i _ _ _ q)⟩
theorem PSsi {e : List Stmt} {t t' : TS} (h : PSs X e t) (i : ∀ D σ H, t' D σ H → t D σ H) : PSs X e t' := ⟨fun pins s σ H D I q => h.run pins s σ H D I (i _ _ _ q)⟩
theorem PGi {e : Expr} {t t' : TG} (h : PG X e t) (i : ∀ v σ H Q, t' v σ H Q → t v σ H Q) : PG X e t' := ⟨fun pins s σ H v u Q I r q => h.run pins s σ H v u Q I r (i _ _ _ _ q)⟩
end
end Vm
namespace Vm
open PySem PySem.Spec PyProof.Rows L2

/-! ### expressions -/
def mVar (i : Nat) : EM := fun env h => match env[i]? with | some (some d) => some (d, h) | _ => none
def mC (d : D) : EM := fun _ h => some (d, h)
def mBin (f : D → D → VH → Option (D × VH)) (a b : EM) : EM := fun env h => (a env h).bind fun p => (b env p.2).bind fun q => f p.1 q.1 q.2
def mUn (f : D → VH → Option (D × VH)) (a : EM) : EM := fun env h => (a env h).bind fun p => f p.1 p.2
def mIf (c : BM) (a b : EM) : EM := fun env h => (c env h).bind fun p => if p.1 = true then a env p.2 else b env p.2
def mNil : AM := fun _ h => some ([], h)
def mCons (a : EM) (r : AM) : AM := fun env h => (a env h).bind fun p => (r env p.2).bind fun q => some (p.1 :: q.1, q.2)
def lim : Nat := 1000000
theorem lim_ok {n : Nat} (h : n ≤ lim) : n ≤ sizeLine := Nat.le_trans h (by decide)
def mTup (a : AM) : EM := fun env h => (a env h).bind fun p => if p.1.length ≤ lim then some (.tup p.1, p.2) else none
def mLst (a : AM) : EM := fun env h => (a env h).bind fun p => if p.1.length ≤ lim then some (.ref p.2.length, p.2 ++ [.lst p.1]) else none
/-- a function of values -/
def mFn (f : List D → VH → Option (D × VH)) (a : AM) : EM := fun env h => (a env h).bind fun p => f p.1 p.2
def bV (a : EM) : BM := fun env h => (a env h).bind fun p => match p.1 with | .bl b => some (b, p.2) | _ => none
def bT (tr : D → VH → Option Bool) (a : EM) : BM := fun env h => (a env h).bind fun p => (tr p.1 p.2).bind fun b => some (b, p.2)
def bAnd (a b : BM) : BM := fun env h => (a env h).bind fun p => if p.1 = true then b env p.2 else some (false, p.2)
def bOr (a b : BM) : BM := fun env h => (a env h).bind fun p => if p.1 = true then some (true, p.2) else b env p.2
def bNot (a : BM) : BM := fun env h => (a env h).bind fun p => some (!p.1, p.2)
/-- and, or, not as values, by truth -/
def mAnd (tr : D → VH → Option Bool) (a b : EM) : EM := fun env h => (a env h).bind fun p => (tr p.1 p.2).bind fun k => if k = true then b env p.2 else some p
def mOr (tr : D → VH → Option Bool) (a b : EM) : EM := fun env h => (a env h).bind fun p => (tr p.1 p.2).bind fun k => if k = true then some p else b env p.2
def mNot (tr : D → VH → Option Bool) (a : EM) : EM := fun env h => (a env h).bind fun p => (tr p.1 p.2).bind fun k => some (.bl (!k), p.2)
def mChain (f g : D → D → VH → Option (D × VH)) (a b c : EM) : EM := fun env h => (a env h).bind fun p => (b env p.2).bind fun q => (f p.1 q.1 q.2).bind fun r =>
  match r.1 with
  | .bl true => (c env r.2).bind fun z => g q.1 z.1 z.2
  | .bl false => some (.bl false, r.2)
  | _ => none

/-- the truth of a value -/
def dTru : D → VH → Option Bool
  | .non, _ => some false
  | .bl b, _ => some b
  | .int i, _ => some (i != 0)
  | .str x, _ => if x.length ≤ lim then some ((x.length : Int) != 0) else none
  | .tup xs, _ => some (!xs.isEmpty)
  | .ref n, h => match h[n]? with
    | some (.lst xs) => some (!xs.isEmpty)
    | some (.dK xs) => some (!xs.isEmpty)
    | _ => none
  | .rl xs, _ => some (!xs.isEmpty)
  | .wt xs, _ => some (!xs.isEmpty)
  | _, _ => none

section
variable {K : PySem.W.Frag} {mg : Str → Option Value} {ρ : List Addr} {H : Hp}
theorem RelKV.length {κ : Type} : ∀ {kvs : List (κ × D)} {ws : List (κ × V)}, RelKV K mg ρ H kvs ws → kvs.length = ws.length
  | [], _, h => by unfold RelKV at h; subst h; rfl
  | p :: ps, _, h => by
    obtain ⟨q, r, rfl, _, _, h2⟩ := h
    simp [RelKV.length h2]
theorem isEmpty_len {α β : Type} {xs : List α} {ys : List β} (h : xs.length = ys.length) : xs.isEmpty = ys.isEmpty := by
  cases xs <;> cases ys <;> simp_all
theorem dTru_ok {h : VH} {d : D} {v : V} {k : Bool} (r : RelH K mg ρ h H) (q : RelD K mg ρ H d v) (e : dTru d h = some k) : TruV K v H k := by
  cases d with
  | non => cases q; simp [dTru] at e; exact e
  | bl b => cases q; simp [dTru] at e; exact e.symm
  | int i => cases q; simp [dTru] at e; exact e.symm
  | str x =>
    cases q
    simp only [dTru] at e
    split at e
    · rename_i hz
      have e := Option.some.inj e
      exact ⟨lim_ok hz, e.symm⟩
    · cases e
  | tup xs =>
    unfold RelD at q
    obtain ⟨a, vs, rfl, h1, h2⟩ := q
    have e := Option.some.inj e
    exact .inr (.inl ⟨vs, h1.sq, by rw [← e, isEmpty_len h2.length]⟩)
  | wt xs =>
    unfold RelD at q
    obtain ⟨a, vs, rfl, h1, h2⟩ := q
    have e := Option.some.inj e
    exact .inr (.inl ⟨vs, h1, by rw [← e, isEmpty_len h2.length]⟩)
  | ref n =>
    unfold RelD at q
    obtain ⟨a, ea, rfl⟩ := q
    simp only [dTru] at e
    split at e
    · rename_i xs hx
      obtain ⟨a', vs, e1, e2, e3⟩ := r.lst hx
      rw [ea] at e1; cases e1
      exact .inl ⟨vs, SqL.of e2, by rw [← Option.some.inj e, isEmpty_len e3.length]⟩
    · rename_i xs hx
      obtain ⟨a', e1, ws, e2, e3⟩ := r.there hx
      rw [ea] at e1; cases e1
      exact .inr (.inr ⟨ws, e2, by rw [← Option.some.inj e, isEmpty_len e3.length]⟩)
    · cases e
  | fn x => cases e
  | ty n => cases e
  | rl xs =>
    unfold RelD at q
    obtain ⟨a, vs, rfl, h1, h2⟩ := q
    have e := Option.some.inj e
    exact .inl ⟨vs, h1.elim (fun ⟨o, z⟩ => .inl (.inr ⟨o, z⟩)) .inr, by rw [← e, isEmpty_len h2.length]⟩
end

/-! ### operations by values -/
def rS (K : PySem.W.Frag) (mg : Str → Option Value) (f : D → D → VH → Option (D × VH)) : R2 := fun x y H Q => ∃ ρ h dx dy d h', RelH K mg ρ h H ∧ RelD K mg ρ H dx x ∧ RelD K mg ρ H dy y ∧ f dx dy h = some (d, h') ∧ Got K mg ρ H d h' Q
def OpV (X : Cx) (F : Value → Value → Sem Value) (f : D → D → VH → Option (D × VH)) : Prop := OpR X F (rS X.K X.mg f)
def cS (K : PySem.W.Frag) (mg : Str → Option Value) (f : List D → VH → Option (D × VH)) : List V → Hp → VK → Prop := fun xs H Q => ∃ ρ h ds d h', RelH K mg ρ h H ∧ RelDs K mg ρ H ds xs ∧ f ds h = some (d, h') ∧ Got K mg ρ H d h' Q
def CallV (X : Cx) (F : Value) (f : List D → VH → Option (D × VH)) : Prop := CallR X F (cS X.K X.mg f)

section
variable {X : Cx} {a b c : Expr} {ma mb mc : EM} {ba bb : BM} {pos : Pos} {rest : List Expr}
abbrev EV (X : Cx) (e : Expr) (m : EM) : Prop := PE X e (tS X.K X.mg m)
abbrev BV (X : Cx) (e : Expr) (m : BM) : Prop := PT X e (bS X.K X.mg m)
abbrev WV (X : Cx) (e : Expr) (m : BM) : Prop := PW X e (bS X.K X.mg m)
abbrev AV (X : Cx) (e : List Expr) (m : AM) : Prop := PA X e (aS X.K X.mg m)
abbrev SV (X : Cx) (e : Stmt) (m : SM) : Prop := PS X e (sS X.K X.mg m)
abbrev SsV (X : Cx) (e : List Stmt) (m : SM) : Prop := PSs X e (sS X.K X.mg m)
abbrev GV (X : Cx) (e : Expr) (m : GM) : Prop := PG X e (gS X.K X.mg m)

theorem ev_var (i : Nat) {x : Str} {pos : Pos} (hN : X.N[i]? = some x := by rfl) (hv : Vis X.env.scope x := by first | exact Or.inl rfl | exact Or.inr (Or.inl rfl) | exact Or.inr (Or.inr rfl)) (hd : (x == ("__debug__" : Str)) = false := by decide)
    (hcd : (x == ("__classdict__" : Str)) = false := by decide) : EV X (.Name x pos) (mVar i) := by
  refine PEi (pe_var (i := i) hN hv hd hcd) fun σ H Q ⟨ρ, env, h, d, h', rE, rH, em, g⟩ => ?_
  unfold mVar at em
  split at em
  · rename_i d' hd'
    cases em
    obtain ⟨v, e1, r⟩ := rE.get hd'
    exact ⟨v, e1, g ρ v H .refl rH r⟩
  · cases em
theorem ev_of {e : Expr} {v : V} {d : D} (he : PE X e (tC v)) (hr : ∀ ρ H, RelD X.K X.mg ρ H d v) : EV X e (mC d) := by
  refine PEi he fun σ H Q ⟨ρ, env, h, d', h', rE, rH, em, g⟩ => ?_
  cases em
  exact g ρ v H .refl rH (hr ρ H)
theorem ev_int {i j pos} : EV X (.Constant (.int i) j pos) (mC (.int i)) := ev_of pe_int fun _ _ => rfl
theorem ev_bl {i j pos} : EV X (.Constant (.bool i) j pos) (mC (.bl i)) := ev_of pe_bl fun _ _ => rfl
theorem ev_non {j pos} : EV X (.Constant .none j pos) (mC .non) := ev_of pe_non fun _ _ => rfl
theorem ev_str {i j pos} : EV X (.Constant (.str i) j pos) (mC (.str i)) := ev_of pe_str fun _ _ => rfl
theorem ev_bin {op : Operator} {f : D → D → VH → Option (D × VH)} (ho : OpV X (binaryOp op) f) (ha : EV X a ma) (hb : EV X b mb) : EV X (.BinOp a op b pos) (mBin f ma mb) := by
  refine PEi (pe_op ho ha hb) fun σ H Q ⟨ρ, env, h, d, h', rE, rH, em, g⟩ => ?_
  unfold mBin at em
  obtain ⟨⟨x, h1⟩, e1, em⟩ := Option.bind_eq_some_iff.mp em
  obtain ⟨⟨y, h2⟩, e2, em⟩ := Option.bind_eq_some_iff.mp em
  refine ⟨ρ, env, h, x, h1, rE, rH, e1, fun ρ1 v H1 s1 r1 q1 => ?_⟩
  refine ⟨ρ1, env, h1, y, h2, rE.mono s1, r1, e2, fun ρ2 w H2 s2 r2 q2 => ?_⟩
  exact ⟨ρ2, h2, x, y, d, h', r2, q1.mono s2, q2, em, Got.mono (s1.trans s2) g⟩
theorem ev_cmp {op : CmpOp} {f : D → D → VH → Option (D × VH)} (ho : OpV X (compareOp op) f) (ha : EV X a ma) (hb : EV X b mb) (hm : behindInMarks op b = false) : EV X (.Compare a [op] [b] pos) (mBin f ma mb) := by
  refine PEi (pe_cmpR ho ha hb hm) fun σ H Q ⟨ρ, env, h, d, h', rE, rH, em, g⟩ => ?_
  unfold mBin at em
  obtain ⟨⟨x, h1⟩, e1, em⟩ := Option.bind_eq_some_iff.mp em
  obtain ⟨⟨y, h2⟩, e2, em⟩ := Option.bind_eq_some_iff.mp em
  refine ⟨ρ, env, h, x, h1, rE, rH, e1, fun ρ1 v H1 s1 r1 q1 => ?_⟩
  refine ⟨ρ1, env, h1, y, h2, rE.mono s1, r1, e2, fun ρ2 w H2 s2 r2 q2 => ?_⟩
  exact ⟨ρ2, h2, x, y, d, h', r2, q1.mono s2, q2, em, Got.mono (s1.trans s2) g⟩
theorem bv_cmp {op : CmpOp} {f : D → D → VH → Option (D × VH)} (ho : OpV X (compareOp op) f) (ha : EV X a ma) (hb : EV X b mb) (hm : behindInMarks op b = false) : BV X (.Compare a [op] [b] pos) (bV (mBin f ma mb)) := by
  refine PTi (pt_cmpR ho ha hb hm) fun σ H Q ⟨ρ, env, h, k, h', rE, rH, em, g⟩ => ?_
  unfold bV mBin at em
  obtain ⟨⟨z, h3⟩, e3, em⟩ := Option.bind_eq_some_iff.mp em
  obtain ⟨⟨x, h1⟩, e1, e3⟩ := Option.bind_eq_some_iff.mp e3
  obtain ⟨⟨y, h2⟩, e2, e3⟩ := Option.bind_eq_some_iff.mp e3
  refine ⟨ρ, env, h, x, h1, rE, rH, e1, fun ρ1 v H1 s1 r1 q1 => ?_⟩
  refine ⟨ρ1, env, h1, y, h2, rE.mono s1, r1, e2, fun ρ2 w H2 s2 r2 q2 => ?_⟩
  refine ⟨ρ2, h2, x, y, z, h3, r2, q1.mono s2, q2, e3, fun ρ3 u H3 s3 r3 q3 => ?_⟩
  cases z with
  | bl k' =>
    cases em
    unfold RelD at q3
    subst q3
    exact ⟨_, rfl, g ρ3 H3 ((s1.trans s2).trans s3) r3⟩
  | _ => cases em
theorem ev_chain {op op' : CmpOp} {f f' : D → D → VH → Option (D × VH)} (ho : OpV X (compareOp op) f) (ho' : OpV X (compareOp op') f') (ha : EV X a ma) (hb : EV X b mb) (hc : EV X c mc) (hm : lastMarks [op, op'] [b, c] = false := by rfl) :
    EV X (.Compare a [op, op'] [b, c] pos) (mChain f f' ma mb mc) := by
  refine PEi (pe_chain ho ho' ha hb hc hm) fun σ H Q ⟨ρ, env, h, d, h', rE, rH, em, g⟩ => ?_
  unfold mChain at em
  obtain ⟨⟨x, h1⟩, e1, em⟩ := Option.bind_eq_some_iff.mp em
  obtain ⟨⟨y, h2⟩, e2, em⟩ := Option.bind_eq_some_iff.mp em
  obtain ⟨⟨z, h3⟩, e3, em⟩ := Option.bind_eq_some_iff.mp em
  refine ⟨ρ, env, h, x, h1, rE, rH, e1, fun ρ1 v H1 s1 r1 q1 => ?_⟩
  refine ⟨ρ1, env, h1, y, h2, rE.mono s1, r1, e2, fun ρ2 w H2 s2 r2 q2 => ?_⟩
  refine ⟨ρ2, h2, x, y, z, h3, r2, q1.mono s2, q2, e3, fun ρ3 u H3 s3 r3 q3 => ?_⟩
  have s13 := (s1.trans s2).trans s3
  cases z with
  | bl k =>
    unfold RelD at q3
    subst q3
    refine ⟨k, rfl, ?_⟩
    cases k with
    | true =>
      simp only at em
      obtain ⟨⟨t, h4⟩, e4, em⟩ := Option.bind_eq_some_iff.mp em
      rw [if_pos rfl]
      refine ⟨ρ3, env, h3, t, h4, rE.mono s13, r3, e4, fun ρ4 u4 H4 s4 r4 q4 => ?_⟩
      exact ⟨ρ4, h4, y, t, d, h', r4, (q2.mono s3).mono s4, q4, em, Got.mono (s13.trans s4) g⟩
    | false =>
      simp only at em
      cases em
      rw [if_neg Bool.false_ne_true]
      exact g ρ3 _ H3 s13 r3 rfl
  | _ => cases em
theorem ev_if {cc : Expr} {bc : BM} (hc : BV X cc bc) (ha : EV X a ma) (hb : EV X b mb) : EV X (.IfExp cc a b pos) (mIf bc ma mb) := by
  refine PEi (pe_ifExp hc ha hb) fun σ H Q ⟨ρ, env, h, d, h', rE, rH, em, g⟩ => ?_
  unfold mIf at em
  obtain ⟨⟨k, h1⟩, e1, em⟩ := Option.bind_eq_some_iff.mp em
  refine ⟨ρ, env, h, k, h1, rE, rH, e1, fun ρ1 H1 s1 r1 => ?_⟩
  cases k with
  | true =>
    rw [if_pos rfl] at em ⊢
    exact ⟨ρ1, env, h1, d, h', rE.mono s1, r1, em, g.mono s1⟩
  | false =>
    rw [if_neg Bool.false_ne_true] at em ⊢
    exact ⟨ρ1, env, h1, d, h', rE.mono s1, r1, em, g.mono s1⟩
/-! tests -/
theorem bv_val (h : EV X a ma) (he : ∀ whole, isTrue a X.env whole = (do let v ← whole; standAt a.pos; holding [v] (truthy v)) := by intro _; rfl) : BV X a (bT dTru ma) := by
  refine PTi (pt_truth h he) fun σ H Q ⟨ρ, env, h, k, h', rE, rH, em, g⟩ => ?_
  unfold bT at em
  obtain ⟨⟨x, h1⟩, e1, em⟩ := Option.bind_eq_some_iff.mp em
  obtain ⟨k', e2, em⟩ := Option.bind_eq_some_iff.mp em
  cases em
  refine ⟨ρ, env, h, x, h1, rE, rH, e1, fun ρ1 v H1 s1 r1 q1 => ?_⟩
  exact ⟨_, dTru_ok r1 q1 e2, g ρ1 H1 s1 r1⟩
theorem bv_not (h : BV X a ba) : BV X (.UnaryOp .Not a pos) (bNot ba) := by
  refine PTi (pt_not h) fun σ H Q ⟨ρ, env, h, k, h', rE, rH, em, g⟩ => ?_
  unfold bNot at em
  obtain ⟨⟨k', h1⟩, e1, em⟩ := Option.bind_eq_some_iff.mp em
  cases em
  exact ⟨ρ, env, h, k', h1, rE, rH, e1, fun ρ1 H1 s1 r1 => g ρ1 H1 s1 r1⟩
theorem wv_and1 (h : BV X a ba) : WV X (.BoolOp .And [a] pos) ba := pw_and1 h
theorem wv_or1 (h : BV X a ba) : WV X (.BoolOp .Or [a] pos) ba := pw_or1 h
theorem wv_and (h : BV X a ba) (h2 : WV X (.BoolOp .And (b :: rest) pos) bb) : WV X (.BoolOp .And (a :: b :: rest) pos) (bAnd ba bb) := by
  refine PWi (pw_and h h2) fun σ H Q ⟨ρ, env, h, k, h', rE, rH, em, g⟩ => ?_
  unfold bAnd at em
  obtain ⟨⟨k', h1⟩, e1, em⟩ := Option.bind_eq_some_iff.mp em
  refine ⟨ρ, env, h, k', h1, rE, rH, e1, fun ρ1 H1 s1 r1 => ?_⟩
  cases k' with
  | true =>
    rw [if_pos rfl] at em ⊢
    exact ⟨ρ1, env, h1, k, h', rE.mono s1, r1, em, fun ρ2 H2 s2 r2 => g ρ2 H2 (s1.trans s2) r2⟩
  | false =>
    rw [if_neg Bool.false_ne_true] at em ⊢
    cases em
    exact g ρ1 H1 s1 r1
theorem wv_or (h : BV X a ba) (h2 : WV X (.BoolOp .Or (b :: rest) pos) bb) : WV X (.BoolOp .Or (a :: b :: rest) pos) (bOr ba bb) := by
  refine PWi (pw_or h h2) fun σ H Q ⟨ρ, env, h, k, h', rE, rH, em, g⟩ => ?_
  unfold bOr at em
  obtain ⟨⟨k', h1⟩, e1, em⟩ := Option.bind_eq_some_iff.mp em
  refine ⟨ρ, env, h, k', h1, rE, rH, e1, fun ρ1 H1 s1 r1 => ?_⟩
  cases k' with
  | true =>
    rw [if_pos rfl] at em ⊢
    cases em
    exact g ρ1 H1 s1 r1
  | false =>
    rw [if_neg Bool.false_ne_true] at em ⊢
    exact ⟨ρ1, env, h1, k, h', rE.mono s1, r1, em, fun ρ2 H2 s2 r2 => g ρ2 H2 (s1.trans s2) r2⟩
theorem bv_w (h : WV X a ba) : BV X a ba := h.pt
/-! and, or, not as values -/
theorem ev_one {op} (h : EV X a ma) : EV X (.BoolOp op [a] pos) ma := pe_one h
theorem ev_and (ha : EV X a ma) (hb : EV X (.BoolOp .And (b :: rest) pos) mb) : EV X (.BoolOp .And (a :: b :: rest) pos) (mAnd dTru ma mb) := by
  refine PEi (pe_andT ha hb) fun σ H Q ⟨ρ, env, h, d, h', rE, rH, em, g⟩ => ?_
  unfold mAnd at em
  obtain ⟨⟨x, h1⟩, e1, em⟩ := Option.bind_eq_some_iff.mp em
  obtain ⟨k, e2, em⟩ := Option.bind_eq_some_iff.mp em
  refine ⟨ρ, env, h, x, h1, rE, rH, e1, fun ρ1 v H1 s1 r1 q1 => ⟨k, dTru_ok r1 q1 e2, ?_⟩⟩
  cases k with
  | true =>
    rw [if_pos rfl] at em ⊢
    exact ⟨ρ1, env, h1, d, h', rE.mono s1, r1, em, g.mono s1⟩
  | false =>
    rw [if_neg Bool.false_ne_true] at em ⊢
    cases em
    exact g ρ1 v H1 s1 r1 q1
theorem ev_or (ha : EV X a ma) (hb : EV X (.BoolOp .Or (b :: rest) pos) mb) : EV X (.BoolOp .Or (a :: b :: rest) pos) (mOr dTru ma mb) := by
  refine PEi (pe_orT ha hb) fun σ H Q ⟨ρ, env, h, d, h', rE, rH, em, g⟩ => ?_
  unfold mOr at em
  obtain ⟨⟨x, h1⟩, e1, em⟩ := Option.bind_eq_some_iff.mp em
  obtain ⟨k, e2, em⟩ := Option.bind_eq_some_iff.mp em
  refine ⟨ρ, env, h, x, h1, rE, rH, e1, fun ρ1 v H1 s1 r1 q1 => ⟨k, dTru_ok r1 q1 e2, ?_⟩⟩
  cases k with
  | true =>
    rw [if_pos rfl] at em ⊢
    cases em
    exact g ρ1 v H1 s1 r1 q1
  | false =>
    rw [if_neg Bool.false_ne_true] at em ⊢
    exact ⟨ρ1, env, h1, d, h', rE.mono s1, r1, em, g.mono s1⟩
theorem ev_not (ha : EV X a ma) : EV X (.UnaryOp .Not a pos) (mNot dTru ma) := by
  refine PEi (pe_notT ha) fun σ H Q ⟨ρ, env, h, d, h', rE, rH, em, g⟩ => ?_
  unfold mNot at em
  obtain ⟨⟨x, h1⟩, e1, em⟩ := Option.bind_eq_some_iff.mp em
  obtain ⟨k, e2, em⟩ := Option.bind_eq_some_iff.mp em
  cases em
  exact ⟨ρ, env, h, x, h1, rE, rH, e1, fun ρ1 v H1 s1 r1 q1 => ⟨k, dTru_ok r1 q1 e2, g ρ1 _ H1 s1 r1 rfl⟩⟩
/-! argument lists, displays -/
variable {es : List Expr} {mas : AM}
theorem av_nil : AV X [] mNil := PAi pa_nil fun σ H Q ⟨ρ, env, h, ds, h', rE, rH, em, g⟩ => by
  cases em
  exact g ρ [] H .refl rH .nil
theorem av_cons (ha : EV X a ma) (hr : AV X es mas) (hs : starEach (a :: es) X.env = (false, eval a X.env) :: starEach es X.env := by rfl) : AV X (a :: es) (mCons ma mas) := by
  refine PAi (pa_cons ha hr hs) fun σ H Q ⟨ρ, env, h, ds, h', rE, rH, em, g⟩ => ?_
  unfold mCons at em
  obtain ⟨⟨x, h1⟩, e1, em⟩ := Option.bind_eq_some_iff.mp em
  obtain ⟨⟨xs, h2⟩, e2, em⟩ := Option.bind_eq_some_iff.mp em
  cases em
  refine ⟨ρ, env, h, x, h1, rE, rH, e1, fun ρ1 v H1 s1 r1 q1 => ?_⟩
  refine ⟨ρ1, env, h1, xs, h2, rE.mono s1, r1, e2, fun ρ2 vs H2 s2 r2 q2 => ?_⟩
  exact g ρ2 (v :: vs) H2 (s1.trans s2) r2 (.cons (q1.mono s2) q2)
theorem Got.tup {K : PySem.W.Frag} {mg : Str → Option Value} {ρ : List Addr} {H : Hp} {h' : VH} {xs : List D} {vs : List V} {Q : V → Hp → Prop} (g : Got K mg ρ H (.tup xs) h' Q) (r : RelH K mg ρ h' H) (q : RelDs K mg ρ H xs vs) {p : Addr} {o : Obj} (hp : H p = none) (ho : o.dict = none) :
    Q (.ref p) (upd H p (.frz o (.tup vs))) := by
  have s := Step.untold (K := K) (ρ := ρ) (u := .frz o (.tup vs)) hp
  refine g ρ _ _ s (r.untold hp) ?_
  unfold RelD
  exact ⟨p, vs, rfl, .inl ⟨o, upd_same, ho⟩, q.mono s⟩
theorem Got.lst {K : PySem.W.Frag} {mg : Str → Option Value} {ρ : List Addr} {H : Hp} {h' : VH} {xs : List D} {vs : List V} {Q : V → Hp → Prop} (g : Got K mg ρ H (.ref h'.length) (h' ++ [.lst xs]) Q) (r : RelH K mg ρ h' H) (q : RelDs K mg ρ H xs vs) {p : Addr} (hp : H p = none) :
    Q (.ref p) (upd H p (.lst vs)) := by
  have s := Step.lay (K := K) (ρ := ρ) (u := .lst vs) hp
  refine g _ _ _ s (r.lay hp ⟨vs, upd_same, q.mono s⟩) ?_
  unfold RelD
  exact ⟨p, by rw [← r.len]; simp, rfl⟩
/-- a new tuple, known to its object -/
theorem newTup {pins : List (Addr × Obj)} {σ : L2.St} {H : Hp} {s : Shared} {Q : VK} {ys : List V} {us : List Value} (I : Inv X pins σ H s) (r : Vals ys us) (hz : ys.length ≤ sizeLine) (t : Nat)
    (q : ∀ p, H p = none → ∀ o : Obj, o.dict = none → Q (.ref p) (upd H p (.frz o (.tup ys)))) : EP X pins σ Q (.ref s.heap.objs.size) { s with heap := s.heap.push { cls := .type "tuple", data := .seq us.toArray }, toks := t } := by
  have fresh := I.hok.fresh (Nat.le_refl s.heap.objs.size)
  have at_ := Heap.get?_push_size (h := s.heap) (o := { cls := .type "tuple", data := .seq us.toArray }) rfl
  refine ⟨.ref s.heap.objs.size, upd H s.heap.objs.size (.frz { cls := .type "tuple", data := .seq us.toArray } (.tup ys)), I.laid (fun _ _ e => Heap.get?_push_of_some _ e) (Nat.le_refl _) ?_, rfl, q _ fresh _ rfl⟩
  exact ⟨at_, hz, us, r, _, at_, rfl, _, rfl⟩
theorem ev_tup {x1} (h : AV X es mas) : EV X (.Tuple es x1 pos) (mTup mas) := by
  refine ⟨fun pins s σ H Q I ⟨ρ, env, h0, d, h', rE, rH, em, g⟩ => ?_⟩
  unfold mTup at em
  obtain ⟨⟨xs, h1⟩, e1, em⟩ := Option.bind_eq_some_iff.mp em
  split at em
  · rename_i hz
    cases em
    have run := h.run pos pins s σ H (fun vs H1 => vs.length ≤ sizeLine ∧ ∀ p, H1 p = none → ∀ o : Obj, o.dict = none → Q (.ref p) (upd H1 p (.frz o (.tup vs)))) I
      ⟨ρ, env, h0, xs, h1, rE, rH, e1, fun ρ1 vs H1 s1 r1 q1 => ⟨by rw [← q1.length]; exact lim_ok hz, fun p hp o ho => (g.mono s1).tup r1 q1 hp ho⟩⟩
    refine wpAny_Tuple_spliced (thn run ?_)
    rintro us s1 ⟨vs, H1, I1, r, z, q⟩
    exact ⟨by rw [← r.length]; exact z, newTup I1 r z s1.toks q⟩
  · cases em
theorem ev_lst (h : AV X es mas) : EV X (.List es pos) (mLst mas) := by
  refine PEi (pe_lst h) fun σ H Q ⟨ρ, env, h, d, h', rE, rH, em, g⟩ => ?_
  unfold mLst at em
  obtain ⟨⟨xs, h1⟩, e1, em⟩ := Option.bind_eq_some_iff.mp em
  split at em
  · rename_i hz
    cases em
    refine ⟨ρ, env, h, xs, h1, rE, rH, e1, fun ρ1 vs H1 s1 r1 q1 => ⟨by rw [← q1.length]; exact lim_ok hz, fun p hp => ?_⟩⟩
    exact (g.mono s1).lst r1 q1 hp
  · cases em
/-- a builtin, a built-in class called -/
theorem ev_callB {id : String} {f : List D → VH → Option (D × VH)} {x : Str} {p : Pos} (hc : CallV X (.builtin id) f) (hg : Gl X x) (hm : X.mg x = none) (hv : bootBuiltins x = some (.builtin id)) (ha : AV X (a :: es) mas) (hn : x ≠ "__name__" := by decide) (hdb : (x == ("__debug__" : Str)) = false := by decide) (he : starEach (a :: es) X.env = (false, eval a X.env) :: starEach es X.env := by rfl) (hpl : (backTo pos (starEach es X.env)).any (·.1) = false := by rfl) :
    EV X (.Call (.Name x p) (a :: es) [] pos) (mFn f mas) := by
  refine PEi (pe_callB hc hg hm hv ha hn hdb he hpl) fun σ H Q ⟨ρ, env, h, d, h', rE, rH, em, g⟩ => ?_
  unfold mFn at em
  obtain ⟨⟨xs, h1⟩, e1, em⟩ := Option.bind_eq_some_iff.mp em
  refine ⟨ρ, env, h, xs, h1, rE, rH, e1, fun ρ1 vs H1 s1 r1 q1 => ?_⟩
  exact ⟨ρ1, h1, xs, d, h', r1, q1, em, g.mono s1⟩
theorem ev_callT {T : String} {f : List D → VH → Option (D × VH)} {x : Str} {p : Pos} (hc : CallV X (.type T) f) (hg : Gl X x) (hm : X.mg x = none) (hv : bootBuiltins x = some (.type T)) (ha : AV X (a :: es) mas) (hn : x ≠ "__name__" := by decide) (hdb : (x == ("__debug__" : Str)) = false := by decide) (he : starEach (a :: es) X.env = (false, eval a X.env) :: starEach es X.env := by rfl) (hpl : (backTo pos (starEach es X.env)).any (·.1) = false := by rfl) :
    EV X (.Call (.Name x p) (a :: es) [] pos) (mFn f mas) := by
  refine PEi (pe_callTy hc hg hm hv ha hn hdb he hpl) fun σ H Q ⟨ρ, env, h, d, h', rE, rH, em, g⟩ => ?_
  unfold mFn at em
  obtain ⟨⟨xs, h1⟩, e1, em⟩ := Option.bind_eq_some_iff.mp em
  refine ⟨ρ, env, h, xs, h1, rE, rH, e1, fun ρ1 vs H1 s1 r1 q1 => ?_⟩
  exact ⟨ρ1, h1, xs, d, h', r1, q1, em, g.mono s1⟩
end

/-! ### a def -/
def spS (K : PySem.W.Frag) (mg : Str → Option Value) (n : Nat) (F : List D → VH → Option (D × VH)) : Sp := fun vs H Q _ => ∃ ρ h ds d h', ds.length = n ∧ RelH K mg ρ h H ∧ RelDs K mg ρ H ds vs ∧ F ds h = some (d, h') ∧ Got K mg ρ H d h' Q
/-- the def at f keeps the promise sp wherever no repr is under way -/
structure FnG (P : Program) (w : World) (K : PySem.W.Frag) (mg : Str → Option Value) (base : Heap) (k : Nat) (f : Addr) (fd : FuncData) (ps : List Str) (sp : Sp) : Prop where
  many : ∀ vs H Q E, sp vs H Q E → vs.length = ps.length
  go : ∀ (A : Around) (outer : List PySem.Env) (s : Shared) (H : Hp) (args : Args) (us : List Value) (vs : List V) (Q : VK) (E : XK), A.guards = some [] → Room k A → Env0 P w K mg base A outer s H →
    BindsTo s fd args (ps.zip us) → Vals vs us → sp vs H Q E → codeAny (model P w) A (.call (.ref f) args) (CR CX0 outer P w H s Q E) s
/-- the def x of the text does what F says, at level k -/
structure DefV (P : Program) (w : World) (K : PySem.W.Frag) (mg : Str → Option Value) (base : Heap) (x : Str) (k : Nat) (ps : List Str) (F : List D → VH → Option (D × VH)) : Prop where
  ex : ∃ f fd, mg x = some (.ref f) ∧ PySem.W.keepIn K (.ref f) = true ∧ Binds K fd ps [] ∧ FnG P w K mg base k f fd ps (spS K mg ps.length F)
/-- another function for the same def, where it says no more -/
theorem DefV.imp {P : Program} {w : World} {K : PySem.W.Frag} {mg : Str → Option Value} {base : Heap} {x : Str} {k : Nat} {ps : List Str} {F F' : List D → VH → Option (D × VH)} (G : DefV P w K mg base x k ps F)
    (h : ∀ ds h d h', F' ds h = some (d, h') → F ds h = some (d, h')) : DefV P w K mg base x k ps F' := by
  obtain ⟨f, fd, a, b, c, G⟩ := G.ex
  have im : ∀ vs H Q E, spS K mg ps.length F' vs H Q E → spS K mg ps.length F vs H Q E := fun vs H Q E ⟨ρ, h0, ds, d, h1, e1, e2, e3, e4, e5⟩ => ⟨ρ, h0, ds, d, h1, e1, e2, e3, h _ _ _ _ e4, e5⟩
  exact ⟨f, fd, a, b, c, ⟨fun vs H Q E q => G.many vs H Q E (im _ _ _ _ q), fun A o s H args us vs Q E g r e bt v q => G.go A o s H args us vs Q E g r e bt v (im _ _ _ _ q)⟩⟩
section
variable {X : Cx} {a : Expr} {es : List Expr} {mas : AM} {pos : Pos}
theorem runG {k : Nat} {f : Addr} {fd : FuncData} {ps : List Str} {sp : Sp} {pins : List (Addr × Obj)} {σ : L2.St} {H : Hp} {s : Shared} {Q : VK} {us : List Value} {vs : List V} (G : FnG X.prog X.w X.K X.mg X.base k f fd ps sp) (hg : X.A.guards = some []) (hr : Room k X.A)
    (hb : Binds X.K fd ps []) (I : Inv X pins σ H s) (r : Vals vs us) (h : sp vs H Q E0) : wpAny (model X.prog X.w) X.A (call (.ref f) us) (EP X pins σ Q) X.xe s := by
  have many := G.many _ _ _ _ h
  have bt := hb s us I.kIn (by rw [List.append_nil, ← r.length]; exact many)
  rw [List.append_nil] at bt
  have run := G.go X.A X.stack s H ⟨us, []⟩ us vs Q E0 hg hr I.env0 bt r h
  refine wpAny_call (codeAny_mono run ?_)
  intro res s' fin
  match res, fin with
  | .ok (.ret _), fin => exact I.after fin
  | .ok .next, fin => exact fin.elim
  | .ok .brk, fin => exact fin.elim
  | .ok .cont, fin => exact fin.elim
  | .error _, fin => exact fin.elim
theorem ev_call {x : Str} {k : Nat} {ps : List Str} {F : List D → VH → Option (D × VH)} {p : Pos} (G : DefV X.prog X.w X.K X.mg X.base x k ps F) (hG : X.A.guards = some []) (hr : Room k X.A) (hg : Gl X x) (ha : AV X (a :: es) mas)
    (hn : ∀ env h ds h', mas env h = some (ds, h') → ds.length = ps.length)
    (hdb : (x == ("__debug__" : Str)) = false := by decide) (he : starEach (a :: es) X.env = (false, eval a X.env) :: starEach es X.env := by rfl) (hpl : (backTo pos (starEach es X.env)).any (·.1) = false := by rfl) :
    EV X (.Call (.Name x p) (a :: es) [] pos) (mFn F mas) := by
  obtain ⟨f, fd, hm, hk, hb, FO⟩ := G.ex
  refine ⟨fun pins s σ H Q I ⟨ρ, env, h, d, h', rE, rH, em, g⟩ => wpAny_Call_Name_kw (ld_glob I hg hm ?_ hdb)⟩
  unfold mFn at em
  obtain ⟨⟨xs, h1⟩, e1, em⟩ := Option.bind_eq_some_iff.mp em
  refine PySem.W.callWith_K (h₀ := X.base) I.ok.mod.kin hk (thn (ha.run pos pins s σ H _ I ⟨ρ, env, h, xs, h1, rE, rH, e1, fun ρ1 vs H1 s1 r1 q1 => ?_⟩) fun us s1 ⟨vs, H1, I1, r, q⟩ => ⟨I1.kIn, runG FO hG hr hb I1 r q⟩) he hpl
  exact ⟨ρ1, h1, xs, d, h', hn _ _ _ _ e1, r1, q1, em, g.mono s1⟩
theorem ev_call0 {x : Str} {k : Nat} {F : List D → VH → Option (D × VH)} {p : Pos} (G : DefV X.prog X.w X.K X.mg X.base x k [] F) (hG : X.A.guards = some []) (hr : Room k X.A) (hg : Gl X x) (hdb : (x == ("__debug__" : Str)) = false := by decide) :
    EV X (.Call (.Name x p) [] [] pos) (mFn F mNil) := by
  obtain ⟨f, fd, hm, hk, hb, FO⟩ := G.ex
  refine ⟨fun pins s σ H Q I ⟨ρ, env, h, d, h', rE, rH, em, g⟩ => wpAny_Call_Name_kw (ld_glob I hg hm ?_ hdb)⟩
  refine PySem.W.callWith_K0 I.kIn hk (runG (us := []) (vs := []) FO hG hr hb I .nil ?_)
  exact ⟨ρ, h, [], d, h', rfl, rH, .nil, em, g⟩
theorem len_nil {env : En} {h : VH} {ds : List D} {h' : VH} (e : mNil env h = some (ds, h')) : ds.length = 0 := by cases e; rfl
theorem len_cons {m : EM} {r : AM} {n : Nat} (hr : ∀ env h ds h', r env h = some (ds, h') → ds.length = n) : ∀ env h ds h', mCons m r env h = some (ds, h') → ds.length = n + 1 := fun env h ds h' e => by
  unfold mCons at e
  obtain ⟨⟨x, h1⟩, e1, e⟩ := Option.bind_eq_some_iff.mp e
  obtain ⟨⟨xs, h2⟩, e2, e⟩ := Option.bind_eq_some_iff.mp e
  cases e
  simp [hr _ _ _ _ e2]
end

/-! ### statements -/
def sNext : SM := fun env h => some (.nx env h)
def sSeq (a b : SM) : SM := fun env h => match a env h with | some (.nx env' h') => b env' h' | r => r
def sExpr (m : EM) : SM := fun env h => (m env h).bind fun p => some (.nx env p.2)
def sRet (m : EM) : SM := fun env h => (m env h).bind fun p => some (.rt p.1 p.2)
def sRetN : SM := fun _ h => some (.rt .non h)
def sIf (c : BM) (a b : SM) : SM := fun env h => (c env h).bind fun p => if p.1 = true then a env p.2 else b env p.2
def sBrk : SM := fun env h => some (.bk env h)
def sCt : SM := fun env h => some (.ct env h)
def sNever : SM := fun _ _ => none
def sAsg (m : EM) (g : GM) : SM := fun env h => (m env h).bind fun p => (g p.1 env p.2).bind fun q => some (.nx q.1 q.2)
def gNm (i : Nat) : GM := fun d env h => some (env.set i (some d), h)
abbrev GMs := List D → En → VH → Option (En × VH)
def gN : GMs := fun ds env h => match ds with | [] => some (env, h) | _ => none
def gC (g : GM) (r : GMs) : GMs := fun ds env h => match ds with | d :: ds => (g d env h).bind fun p => r ds p.1 p.2 | _ => none
def gT (r : GMs) : GM := fun d env h => match d with | .tup ds => r ds env h | .wt ds => r ds env h | _ => none
/-- o[i] = v -/
def dPut (o i v : D) (h : VH) : Option VH := match o with
  | .ref n => match h[n]?, i with
    | some (.lst xs), .int k => (ixN xs.length k).bind fun j => some (h.set n (.lst (xs.set j v)))
    | _, _ => none
  | _ => none
section
variable {X : Cx} {st : Stmt} {sts : List Stmt} {e : Expr} {m : EM} {a b : SM} {pos : Pos}
theorem ss_nil : SsV X [] sNext := PSsi pss_nil fun D σ H ⟨ρ, env, h, r, rE, rH, em, g⟩ => by
  cases em
  exact g ρ σ H .refl rH rE
theorem ss_cons (h1 : SV X st a) (h2 : SsV X sts b) : SsV X (st :: sts) (sSeq a b) := by
  refine PSsi (pss_cons h1 h2) fun D σ H ⟨ρ, env, h, r, rE, rH, em, g⟩ => ?_
  unfold sSeq at em
  cases ea : a env h with
  | none => rw [ea] at em; cases em
  | some ra =>
    rw [ea] at em
    refine ⟨ρ, env, h, ra, rE, rH, ea, ?_⟩
    cases ra with
    | nx env' h' => exact fun ρ' σ' H' s' r' e' => ⟨ρ', env', h', r, e', r', em, g.mono s'⟩
    | rt d h' => cases em; exact g
    | bk env' h' => cases em; exact g
    | ct env' h' => cases em; exact g
theorem ss_one (h1 : SV X st a) : SsV X [st] a := pss_one h1
theorem sv_pass : SV X (.Pass pos) sNext := PSi ps_pass fun D σ H ⟨ρ, env, h, r, rE, rH, em, g⟩ => by
  cases em
  exact g ρ σ H .refl rH rE
theorem sv_break : SV X (.Break pos) sBrk := PSi ps_break fun D σ H ⟨ρ, env, h, r, rE, rH, em, g⟩ => by
  cases em
  exact g ρ σ H .refl rH rE
theorem sv_continue : SV X (.Continue pos) sCt := PSi ps_continue fun D σ H ⟨ρ, env, h, r, rE, rH, em, g⟩ => by
  cases em
  exact g ρ σ H .refl rH rE
theorem sv_never : SV X st sNever := PSi ps_never fun D σ H ⟨ρ, env, h, r, rE, rH, em, g⟩ => by cases em
theorem sv_expr (he : EV X e m) (hs : swapsWith e none pos.line X.env = pure false := by rfl) : SV X (.Expr e pos) (sExpr m) := by
  refine PSi (ps_expr he hs) fun D σ H ⟨ρ, env, h, r, rE, rH, em, g⟩ => ?_
  unfold sExpr at em
  obtain ⟨⟨x, h1⟩, e1, em⟩ := Option.bind_eq_some_iff.mp em
  cases em
  exact ⟨ρ, env, h, x, h1, rE, rH, e1, fun ρ1 v H1 s1 r1 q1 => g ρ1 σ H1 s1 r1 (rE.mono s1)⟩
theorem sv_ret (he : EV X e m) : SV X (.Return (some e) pos) (sRet m) := by
  refine PSi (ps_ret he) fun D σ H ⟨ρ, env, h, r, rE, rH, em, g⟩ => ?_
  unfold sRet at em
  obtain ⟨⟨x, h1⟩, e1, em⟩ := Option.bind_eq_some_iff.mp em
  cases em
  exact ⟨ρ, env, h, x, h1, rE, rH, e1, g⟩
theorem sv_retN : SV X (.Return none pos) sRetN := PSi ps_retN fun D σ H ⟨ρ, env, h, r, rE, rH, em, g⟩ => by
  cases em
  exact g ρ .non H .refl rH rfl
theorem sv_if {c : Expr} {sa sb : List Stmt} {bc : BM} (hc : BV X c bc) (ha : SsV X sa a) (hb : SsV X sb b) : SV X (.If c sa sb pos) (sIf bc a b) := by
  refine PSi (ps_if hc ha hb) fun D σ H ⟨ρ, env, h, r, rE, rH, em, g⟩ => ?_
  unfold sIf at em
  obtain ⟨⟨k, h1⟩, e1, em⟩ := Option.bind_eq_some_iff.mp em
  refine ⟨ρ, env, h, k, h1, rE, rH, e1, fun ρ1 H1 s1 r1 => ?_⟩
  cases k with
  | true =>
    rw [if_pos rfl] at em ⊢
    exact ⟨ρ1, env, h1, r, rE.mono s1, r1, em, g.mono s1⟩
  | false =>
    rw [if_neg Bool.false_ne_true] at em ⊢
    exact ⟨ρ1, env, h1, r, rE.mono s1, r1, em, g.mono s1⟩
/-! targets -/
variable {tg : Expr} {gm : GM}
theorem gv_name {i : Nat} {x : Str} {pos : Pos} (hN : X.N.Nodup) (hi : X.N[i]? = some x := by rfl) (hx : Loc X.env.scope x := by first | exact Or.inl rfl | exact Or.inr rfl) (hf : X.fn x = true ∨ X.env.scope.names.lookup x = some .local := by first | exact .inl rfl | exact .inr rfl | assumption) : GV X (.Name x pos) (gNm i) := by
  refine PGi (pg_name hN hi hx hf) fun v σ H Q ⟨ρ, env, h, d, env', h', q, rE, rH, em, g⟩ => ?_
  cases em
  exact g ρ _ H .refl rH (rE.set q)
def gsS (K : PySem.W.Frag) (mg : Str → Option Value) (m : GMs) : TGs := fun vs σ H Q => ∃ ρ env h ds env' h', RelDs K mg ρ H ds vs ∧ RelE K mg ρ H env σ ∧ RelH K mg ρ h H ∧ m ds env h = some (env', h') ∧ ∀ ρ' σ' H', Step K ρ H ρ' H' → RelH K mg ρ' h' H' → RelE K mg ρ' H' env' σ' → Q σ' H'
abbrev GsV (X : Cx) (e : List Expr) (m : GMs) : Prop := PGs X e (gsS X.K X.mg m)
theorem PGsi {X : Cx} {e : List Expr} {t t' : TGs} (h : PGs X e t) (i : ∀ v σ H Q, t' v σ H Q → t v σ H Q) : PGs X e t' := ⟨fun pins s σ H v u Q I r q => h.run pins s σ H v u Q I r (i _ _ _ _ q)⟩
theorem gs_nil : GsV X [] gN := PGsi pgs_nil fun vs σ H Q ⟨ρ, env, h, ds, env', h', q, rE, rH, em, g⟩ => by
  cases ds with
  | nil =>
    cases em
    unfold RelDs at q
    exact ⟨q, g ρ σ H .refl rH rE⟩
  | cons _ _ => cases em
theorem gs_cons {es : List Expr} {gr : GMs} (h1 : GV X tg gm) (h2 : GsV X es gr)
    (hs : (assignEach (tg :: es) X.env).map (·.2) = assign tg X.env :: (assignEach es X.env).map (·.2) := by rfl) : GsV X (tg :: es) (gC gm gr) := by
  refine PGsi (pgs_cons h1 h2 hs) fun vs σ H Q ⟨ρ, env, h, ds, env', h', q, rE, rH, em, g⟩ => ?_
  cases ds with
  | nil => cases em
  | cons d ds =>
    unfold RelDs at q
    obtain ⟨v, r, e, q1, q2⟩ := q
    unfold gC at em
    obtain ⟨⟨env1, h1⟩, e1, em⟩ := Option.bind_eq_some_iff.mp em
    refine ⟨v, r, e, ρ, env, h, d, env1, h1, q1, rE, rH, e1, fun ρ1 σ1 H1 s1 r1 re1 => ?_⟩
    exact ⟨ρ1, env1, h1, ds, env', h', q2.mono s1, re1, r1, em, fun ρ2 σ2 H2 s2 => g ρ2 σ2 H2 (s1.trans s2)⟩
theorem gv_tup {es : List Expr} {k : Nat} {gr : GMs} {n : Nat} (hc : X.calm = true) (h : GsV X es gr) (hl : ∀ ds env h env' h', gr ds env h = some (env', h') → ds.length = n)
    (hn : (assignEach es X.env).length = n := by rfl) (hst : (assignEach es X.env).findIdx? (·.1) = none := by rfl) : GV X (.Tuple es k pos) (gT gr) := by
  refine PGi (pg_tup hc h hn hst) fun v σ H Q ⟨ρ, env, h, d, env', h', q, rE, rH, em, g⟩ => ?_
  unfold gT at em
  cases d with
  | tup ds =>
    unfold RelD at q
    obtain ⟨p, vs, rfl, h1, h2⟩ := q
    exact ⟨p, vs, rfl, h1.sq, by rw [← h2.length]; exact hl _ _ _ _ _ em, ρ, env, h, ds, env', h', h2, rE, rH, em, g⟩
  | wt ds =>
    unfold RelD at q
    obtain ⟨p, vs, rfl, h1, h2⟩ := q
    exact ⟨p, vs, rfl, h1, by rw [← h2.length]; exact hl _ _ _ _ _ em, ρ, env, h, ds, env', h', h2, rE, rH, em, g⟩
  | _ => cases em
theorem gl_nil : ∀ (ds : List D) (env : En) (h : VH) (env' : En) (h' : VH), gN ds env h = some (env', h') → ds.length = 0 := fun ds env h env' h' e => by
  cases ds with
  | nil => rfl
  | cons _ _ => cases e
theorem gl_cons {g : GM} {r : GMs} {n : Nat} (hr : ∀ (ds : List D) (env : En) (h : VH) (env' : En) (h' : VH), r ds env h = some (env', h') → ds.length = n) : ∀ (ds : List D) (env : En) (h : VH) (env' : En) (h' : VH), gC g r ds env h = some (env', h') → ds.length = n + 1 := fun ds env h env' h' e => by
  cases ds with
  | nil => cases e
  | cons d ds =>
    unfold gC at e
    obtain ⟨p, e1, e⟩ := Option.bind_eq_some_iff.mp e
    simp [hr _ _ _ _ _ e]
def gSub (mo mi : EM) : GM := fun d env h => (mo env h).bind fun p => (mi env p.2).bind fun q => (dPut p.1 q.1 d q.2).bind fun h' => some (env, h')
theorem gv_sub {o i : Expr} {mo mi : EM} (ho : EV X o mo) (hi : EV X i mi)
    (ha : ∀ v, assign (.Subscript o i pos) X.env v = (do
      let ov ← holding [v] (eval o X.env)
      let iv ← holding [v, ov] (eval i X.env)
      standAt pos
      holding [v, ov, iv] (setItem ov iv v)
      release [v, ov, iv] []) := by intro _; rfl) : GV X (.Subscript o i pos) (gSub mo mi) := by
  refine PGi (pg_sub ho hi set_list ha) fun v σ H Q ⟨ρ, env, h, d, env', h', q, rE, rH, em, g⟩ => ?_
  unfold gSub at em
  obtain ⟨⟨x, h1⟩, e1, em⟩ := Option.bind_eq_some_iff.mp em
  obtain ⟨⟨y, h2⟩, e2, em⟩ := Option.bind_eq_some_iff.mp em
  obtain ⟨h3, e3, em⟩ := Option.bind_eq_some_iff.mp em
  cases em
  refine ⟨ρ, env, h, x, h1, rE, rH, e1, fun ρ1 u1 H1 s1 r1 q1 => ?_⟩
  refine ⟨ρ1, env, h1, y, h2, rE.mono s1, r1, e2, fun ρ2 u2 H2 s2 r2 q2 => ?_⟩
  have q1' := q1.mono s2
  have s12 := s1.trans s2
  have q' := q.mono s12
  cases x with
  | ref n =>
    simp only [dPut] at e3
    split at e3
    · rename_i xs k hx
      obtain ⟨j, ej, e3⟩ := Option.bind_eq_some_iff.mp e3
      cases e3
      unfold RelD at q1' q2
      obtain ⟨a, ea, rfl⟩ := q1'
      subst q2
      obtain ⟨a', vs, ea', hl, hv⟩ := r2.lst hx
      rw [ea] at ea'; cases ea'
      have hw : Wr H2 a := (r2.obj _ _ _ hx ea).wr
      refine ⟨a, vs, k, j, rfl, rfl, hl, by rw [← hv.length]; exact ej, ?_⟩
      have st := Step.write (K := X.K) (u := .lst (vs.set j v)) ea hw
      refine g ρ2 σ _ (s12.trans st) (r2.write hx ea ⟨vs.set j v, upd_same, ?_⟩) (rE.mono (s12.trans st))
      exact (hv.set j q').mono st
    · cases e3
  | _ => cases e3
theorem sv_asg (he : EV X e m) (hg : GV X tg gm) (hs : swapsWithSole [tg] e pos.line X.env = pure false := by rfl) (hw : swappedStores [tg] e X.env = pure none := by rfl)
    (h1 : (assignEach [tg] X.env).map (·.2) = [assign tg X.env] := by rfl) : SV X (.Assign [tg] e pos) (sAsg m gm) := by
  refine PSi (ps_asg he hg hs hw h1) fun D σ H ⟨ρ, env, h, r, rE, rH, em, g⟩ => ?_
  unfold sAsg at em
  obtain ⟨⟨x, h1⟩, e1, em⟩ := Option.bind_eq_some_iff.mp em
  obtain ⟨⟨env2, h2⟩, e2, em⟩ := Option.bind_eq_some_iff.mp em
  cases em
  refine ⟨ρ, env, h, x, h1, rE, rH, e1, fun ρ1 v H1 s1 r1 q1 => ?_⟩
  exact ⟨ρ1, env, h1, x, env2, h2, q1, rE.mono s1, r1, e2, fun ρ2 σ2 H2 s2 => g ρ2 σ2 H2 (s1.trans s2)⟩
theorem sv_set {i : Nat} {x : Str} {pos' : Pos} (hN : X.N.Nodup) (he : EV X e m) (hi : X.N[i]? = some x := by rfl) (hx : Loc X.env.scope x := by first | exact Or.inl rfl | exact Or.inr rfl) (hs : swapsWith e (some (.Name x pos')) pos.line X.env = pure false := by rfl) (hf : X.fn x = true ∨ X.env.scope.names.lookup x = some .local := by first | exact .inl rfl | exact .inr rfl | assumption) :
    SV X (.Assign [.Name x pos'] e pos) (sAsg m (gNm i)) := by
  refine PSi (ps_set hN hi hx he hs hf) fun D σ H ⟨ρ, env, h, r, rE, rH, em, g⟩ => ?_
  unfold sAsg at em
  obtain ⟨⟨y, h1⟩, e1, em⟩ := Option.bind_eq_some_iff.mp em
  obtain ⟨⟨env2, h2⟩, e2, em⟩ := Option.bind_eq_some_iff.mp em
  cases em
  cases e2
  refine ⟨ρ, env, h, y, h1, rE, rH, e1, fun ρ1 v H1 s1 r1 q1 => ?_⟩
  exact g ρ1 _ H1 s1 r1 ((rE.mono s1).set q1)
end
end Vm
namespace Vm
open PySem PySem.Spec PyProof.Rows L2

/-! ### what a loop walks -/
/-- the items, and what has to stay as it stands while they are walked -/
abbrev IM := En → VH → Option ((List D × List (Nat × VO)) × VH)
def chk (cs : List (Nat × VO)) (h : VH) : Bool := cs.all fun c => decide (h[c.1]? = some c.2)
section
variable (K : PySem.W.Frag) (mg : Str → Option Value)
structure WalkV (J : It) (ρ0 : List Addr) (H0 : Hp) (xs : List D) (cs : List (Nat × VO)) : Prop where
  go : ∀ (i : Nat) (x : D) (ρ : List Addr) (h : VH) (H : Hp), xs[i]? = some x → Step K ρ0 H0 ρ H → RelH K mg ρ h H → chk cs h = true → J.go i H ∧ ∀ v H', J.yld i H v H' → Step K ρ H ρ H' ∧ RelH K mg ρ h H' ∧ RelD K mg ρ H' x v
  stop : ∀ (ρ : List Addr) (h : VH) (H : Hp), Step K ρ0 H0 ρ H → RelH K mg ρ h H → chk cs h = true → J.stop xs.length H
def iS (m : IM) : TI := fun σ H R => ∃ ρ env h xs cs h', RelE K mg ρ H env σ ∧ RelH K mg ρ h H ∧ m env h = some ((xs, cs), h') ∧
  ∀ J ρ' H', Step K ρ H ρ' H' → RelH K mg ρ' h' H' → WalkV K mg J ρ' H' xs cs → R J H'
end
theorem PIi {X : Cx} {tg e : Expr} {t t' : TI} (h : PI X tg e t) (i : ∀ σ H Q, t' σ H Q → t σ H Q) : PI X tg e t' := ⟨fun pins s σ H Q I q => h.run pins s σ H Q I (i _ _ _ q)⟩
theorem PI.or {X : Cx} {tg e : Expr} {t t' : TI} (h : PI X tg e t) (h' : PI X tg e t') : PI X tg e (fun σ H R => t σ H R ∨ t' σ H R) :=
  ⟨fun pins s σ H Q I q => q.elim (h.run pins s σ H Q I) (h'.run pins s σ H Q I)⟩
abbrev IV (X : Cx) (tg e : Expr) (m : IM) : Prop := PI X tg e (iS X.K X.mg m)
theorem RelDs.eqs {K : PySem.W.Frag} {mg : Str → Option Value} {ρ : List Addr} {H : Hp} {xs : List D} {vs : List V} {i : Nat} {x : D} {v : V} (r : RelDs K mg ρ H xs vs) (e : xs[i]? = some x) (e' : vs[i]? = some v) : RelD K mg ρ H x v := by
  obtain ⟨w, e1, q⟩ := r.get e
  rw [e'] at e1; cases e1; exact q
def imSeq (m : EM) : IM := fun env h => (m env h).bind fun p => match p.1 with
  | .tup xs => some ((xs, []), p.2)
  | .wt xs => some ((xs, []), p.2)
  | .rl xs => some ((xs, []), p.2)
  | .ref n => match p.2[n]? with
    | some (.lst xs) => some ((xs, [(n, .lst xs)]), p.2)
    | _ => none
  | _ => none
section
variable {X : Cx} {tg e : Expr} {m : EM}
theorem chk_one {n : Nat} {o : VO} {h : VH} (e : chk [(n, o)] h = true) : h[n]? = some o := by
  simpa [chk] using e
theorem SqT.inj {K : PySem.W.Frag} {H : Hp} {a : Addr} {xs ys : List V} : True := trivial
/-- a tuple's items as they are read: by the relation alone (each reading of it is one with the data) -/
theorem iv_seq (he : EV X e m) : IV X tg e (imSeq m) := by
  refine PIi (PI.or (pi_list he) (pi_tup he)) fun σ H R ⟨ρ, env, h, xs, cs, h', rE, rH, em, g⟩ => ?_
  unfold imSeq at em
  obtain ⟨⟨d, h1⟩, e1, em⟩ := Option.bind_eq_some_iff.mp em
  cases d with
  | tup ys =>
    cases em
    refine .inr ⟨ρ, env, h, _, _, rE, rH, e1, fun ρ1 v H1 s1 r1 q1 => ?_⟩
    unfold RelD at q1
    obtain ⟨a, vs, rfl, h1, h2⟩ := q1
    have h1 := h1.sq
    refine ⟨a, rfl, ⟨vs, h1⟩, g _ ρ1 H1 s1 r1 ⟨fun i x ρ2 h2' H2 ex s2 r2 c2 => ?_, fun ρ2 h2' H2 s2 r2 c2 => ?_⟩⟩
    · obtain ⟨v, ev, q⟩ := h2.get ex
      exact ⟨⟨vs, v, s2.tup _ _ h1, ev⟩, fun w H3 y => by
        obtain ⟨rfl, y⟩ := y
        exact ⟨.refl, r2, (h2.mono s2).eqs ex (y vs (s2.tup _ _ h1))⟩⟩
    · exact ⟨vs, s2.tup _ _ h1, by rw [h2.length]; exact Nat.le_refl _⟩
  | wt ys =>
    cases em
    refine .inr ⟨ρ, env, h, _, _, rE, rH, e1, fun ρ1 v H1 s1 r1 q1 => ?_⟩
    unfold RelD at q1
    obtain ⟨a, vs, rfl, h1, h2⟩ := q1
    refine ⟨a, rfl, ⟨vs, h1⟩, g _ ρ1 H1 s1 r1 ⟨fun i x ρ2 h2' H2 ex s2 r2 c2 => ?_, fun ρ2 h2' H2 s2 r2 c2 => ?_⟩⟩
    · obtain ⟨v, ev, q⟩ := h2.get ex
      exact ⟨⟨vs, v, s2.tup _ _ h1, ev⟩, fun w H3 y => by
        obtain ⟨rfl, y⟩ := y
        exact ⟨.refl, r2, (h2.mono s2).eqs ex (y vs (s2.tup _ _ h1))⟩⟩
    · exact ⟨vs, s2.tup _ _ h1, by rw [h2.length]; exact Nat.le_refl _⟩
  | rl ys =>
    cases em
    refine .inl ⟨ρ, env, h, _, _, rE, rH, e1, fun ρ1 v H1 s1 r1 q1 => ?_⟩
    unfold RelD at q1
    obtain ⟨a, vs, rfl, h1, h2⟩ := q1
    have sq : ∀ {ρ2 : List Addr} {H2 : Hp}, Step X.K ρ1 H1 ρ2 H2 → SqL X.K H2 a vs := fun s2 => h1.elim (fun ⟨o, z⟩ => .inl (.inr ⟨o, s2.frz _ _ _ z⟩)) .inr
    refine ⟨a, rfl, ⟨vs, sq .refl⟩, g _ ρ1 H1 s1 r1 ⟨fun i x ρ2 h2' H2 ex s2 r2 c2 => ?_, fun ρ2 h2' H2 s2 r2 c2 => ?_⟩⟩
    · obtain ⟨v, ev, q⟩ := h2.get ex
      exact ⟨⟨vs, v, sq s2, ev⟩, fun w H3 y => by
        obtain ⟨rfl, y⟩ := y
        exact ⟨.refl, r2, (h2.mono s2).eqs ex (y vs (sq s2))⟩⟩
    · exact ⟨vs, sq s2, by rw [h2.length]; exact Nat.le_refl _⟩
  | ref n =>
    simp only at em
    split at em
    · rename_i ys hy
      cases em
      refine .inl ⟨ρ, env, h, _, _, rE, rH, e1, fun ρ1 v H1 s1 r1 q1 => ?_⟩
      unfold RelD at q1
      obtain ⟨a, ea, rfl⟩ := q1
      obtain ⟨a', vs, e1, e2, e3⟩ := r1.lst hy
      rw [ea] at e1; cases e1
      refine ⟨a, rfl, ⟨vs, SqL.of e2⟩, g _ ρ1 H1 s1 r1 ⟨fun i x ρ2 h2' H2 ex s2 r2 c2 => ?_, fun ρ2 h2' H2 s2 r2 c2 => ?_⟩⟩
      · obtain ⟨a2, ws, f1, f2, f3⟩ := r2.lst (chk_one c2)
        rw [s2.at ea] at f1; cases f1
        obtain ⟨v, ev, q⟩ := f3.get ex
        exact ⟨⟨ws, v, SqL.of f2, ev⟩, fun w H3 y => by
          obtain ⟨rfl, y⟩ := y
          exact ⟨.refl, r2, f3.eqs ex (y ws (SqL.of f2))⟩⟩
      · obtain ⟨a2, ws, f1, f2, f3⟩ := r2.lst (chk_one c2)
        rw [s2.at ea] at f1; cases f1
        exact ⟨ws, SqL.of f2, by rw [f3.length]; exact Nat.le_refl _⟩
    · cases em
  | _ => cases em
def rng (lo : Int) (n : Nat) : List D := (List.range n).map fun (i : Nat) => D.int (lo + (i : Int))
theorem rng_get {lo : Int} {n i : Nat} {x : D} (e : (rng lo n)[i]? = some x) : i < n ∧ x = .int (lo + (i : Int)) := by
  unfold rng at e
  rw [List.getElem?_map] at e
  by_cases hi : i < n
  · rw [List.getElem?_range hi] at e
    exact ⟨hi, (Option.some.inj e).symm⟩
  · rw [List.getElem?_eq_none (by simp; omega)] at e; cases e
theorem rng_len (lo : Int) (n : Nat) : (rng lo n).length = n := by simp [rng]
theorem rng_walk {K : PySem.W.Frag} {mg : Str → Option Value} {lo : Int} {n : Nat} {ρ0 : List Addr} {H0 : Hp} : WalkV K mg (Itr lo n) ρ0 H0 (rng lo n) [] where
  go := fun i x ρ h H ex s r c => by
    obtain ⟨hi, rfl⟩ := rng_get ex
    exact ⟨hi, fun v H' y => by obtain ⟨rfl, rfl⟩ := y; exact ⟨.refl, r, rfl⟩⟩
  stop := fun ρ h H s r c => by
    show n ≤ (rng lo n).length
    rw [rng_len]; exact Nat.le_refl _
def small (i : Int) : Bool := decide (-1000000000 ≤ i) && decide (i ≤ 1000000000)
theorem small_ok {i : Int} (h : small i = true) : -(2 ^ 62) ≤ i ∧ i < 2 ^ 62 := by
  unfold small at h
  rw [Bool.and_eq_true, decide_eq_true_eq, decide_eq_true_eq] at h
  constructor <;> omega
def imRng1 (a : AM) : IM := fun env h => (a env h).bind fun p => match p.1 with
  | [.int j] => if small j = true then some ((rng 0 j.toNat, []), p.2) else none
  | _ => none
def imRng2 (a : AM) : IM := fun env h => (a env h).bind fun p => match p.1 with
  | [.int i, .int j] => if (small i && small j) = true then some ((rng i (j - i).toNat, []), p.2) else none
  | _ => none
theorem relDs1 {K : PySem.W.Frag} {mg : Str → Option Value} {ρ : List Addr} {H : Hp} {d : D} {vs : List V} (h : RelDs K mg ρ H [d] vs) : ∃ v, vs = [v] ∧ RelD K mg ρ H d v := by
  unfold RelDs at h
  obtain ⟨v, r, rfl, h1, h2⟩ := h
  unfold RelDs at h2
  subst h2
  exact ⟨v, rfl, h1⟩
theorem relDs2 {K : PySem.W.Frag} {mg : Str → Option Value} {ρ : List Addr} {H : Hp} {d e : D} {vs : List V} (h : RelDs K mg ρ H [d, e] vs) : ∃ v w, vs = [v, w] ∧ RelD K mg ρ H d v ∧ RelD K mg ρ H e w := by
  unfold RelDs at h
  obtain ⟨v, r, rfl, h1, h2⟩ := h
  obtain ⟨w, rfl, h3⟩ := relDs1 h2
  exact ⟨v, w, rfl, h1, h3⟩
theorem iv_range1 {a : Expr} {mas : AM} {p pos : Pos} (ha : AV X [a] mas) (hm : X.mg "range" = none) (hg : Gl X "range" := by rfl) (hs : starEach [a] X.env = [(false, eval a X.env)] := by rfl) : IV X tg (.Call (.Name "range" p) [a] [] pos) (imRng1 mas) := by
  refine PIi (pi_range1 hg hm ha hs) fun σ H R ⟨ρ, env, h, xs, cs, h', rE, rH, em, g⟩ => ?_
  unfold imRng1 at em
  obtain ⟨⟨ds, h1⟩, e1, em⟩ := Option.bind_eq_some_iff.mp em
  split at em
  · rename_i j hj
    split at em
    · rename_i hz
      cases em
      cases hj
      refine ⟨ρ, env, h, _, _, rE, rH, e1, fun ρ1 vs H1 s1 r1 q1 => ?_⟩
      obtain ⟨v, rfl, q⟩ := relDs1 q1
      unfold RelD at q
      subst q
      exact ⟨j, rfl, (small_ok hz).1, (small_ok hz).2, g _ ρ1 H1 s1 r1 rng_walk⟩
    · cases em
  · cases em
theorem iv_range2 {a b : Expr} {mas : AM} {p pos : Pos} (ha : AV X [a, b] mas) (hm : X.mg "range" = none) (hg : Gl X "range" := by rfl) (hs : starEach [a, b] X.env = [(false, eval a X.env), (false, eval b X.env)] := by rfl) (hs2 : starEach [b] X.env = [(false, eval b X.env)] := by rfl) : IV X tg (.Call (.Name "range" p) [a, b] [] pos) (imRng2 mas) := by
  refine PIi (pi_range2 hg hm ha hs hs2) fun σ H R ⟨ρ, env, h, xs, cs, h', rE, rH, em, g⟩ => ?_
  unfold imRng2 at em
  obtain ⟨⟨ds, h1⟩, e1, em⟩ := Option.bind_eq_some_iff.mp em
  split at em
  · rename_i i j hj
    split at em
    · rename_i hz
      cases em
      cases hj
      rw [Bool.and_eq_true] at hz
      refine ⟨ρ, env, h, _, _, rE, rH, e1, fun ρ1 vs H1 s1 r1 q1 => ?_⟩
      obtain ⟨v, w, rfl, q, q'⟩ := relDs2 q1
      unfold RelD at q q'
      subst q q'
      exact ⟨i, j, rfl, ⟨(small_ok hz.1).1, (small_ok hz.1).2, (small_ok hz.2).1, (small_ok hz.2).2⟩, g _ ρ1 H1 s1 r1 rng_walk⟩
    · cases em
  · cases em
/-- the pairs of enumerate -/
def enumP : Nat → List D → List D
  | _, [] => []
  | i, x :: xs => .wt [.int (i : Int), x] :: enumP (i + 1) xs
theorem enumP_get : ∀ {xs : List D} {k i : Nat} {y : D}, (enumP k xs)[i]? = some y → ∃ x, xs[i]? = some x ∧ y = .wt [.int ((k + i : Nat) : Int), x]
  | [], _, _, _, e => by simp [enumP] at e
  | x :: xs, k, 0, y, e => by
    simp [enumP] at e
    exact ⟨x, rfl, e.symm⟩
  | x :: xs, k, i + 1, y, e => by
    simp [enumP] at e
    obtain ⟨z, e1, e2⟩ := enumP_get e
    exact ⟨z, by simpa using e1, by rw [e2]; congr 4; omega⟩
theorem enumP_len : ∀ (xs : List D) (k : Nat), (enumP k xs).length = xs.length
  | [], _ => rfl
  | x :: xs, k => by simp [enumP, enumP_len xs]
def imEnum (a : AM) : IM := fun env h => (a env h).bind fun p => match p.1 with
  | [.tup xs] => some ((enumP 0 xs, []), p.2)
  | [.rl xs] => some ((enumP 0 xs, []), p.2)
  | [.ref n] => match p.2[n]? with
    | some (.lst xs) => some ((enumP 0 xs, [(n, .lst xs)]), p.2)
    | _ => none
  | _ => none

theorem iv_enumL {e : Expr} {mas : AM} {p pos tpos : Pos} {elts : List Expr} {kk : Nat} (ha : AV X [e] mas) (hm : X.mg "enumerate" = none) (hl : ∀ env h ds h', mas env h = some (ds, h') → ∀ xs, ds ≠ [.tup xs]) (hg : Gl X "enumerate" := by rfl) (hs : starEach [e] X.env = [(false, eval e X.env)] := by rfl) :
    IV X (.Tuple elts kk tpos) (.Call (.Name "enumerate" p) [e] [] pos) (imEnum mas) := by
  refine PIi (pi_enum hg hm ha hs) fun σ H R ⟨ρ, env, h, xs, cs, h', rE, rH, em, g⟩ => ?_
  unfold imEnum at em
  obtain ⟨⟨ds, h1⟩, e1, em⟩ := Option.bind_eq_some_iff.mp em
  have new : ∀ {ρ2 : List Addr} {H2 : Hp} {h2 : VH} {i : Nat} {x : D} {v : V} {T : Addr}, RelH X.K X.mg ρ2 h2 H2 → RelD X.K X.mg ρ2 H2 x v → H2 T = none →
      Step X.K ρ2 H2 ρ2 (upd H2 T (.tup [.int (i : Nat), v])) ∧ RelH X.K X.mg ρ2 h2 (upd H2 T (.tup [.int (i : Nat), v])) ∧ RelD X.K X.mg ρ2 (upd H2 T (.tup [.int (i : Nat), v])) (.wt [.int (i : Nat), x]) (.ref T) := fun {ρ2 H2 h2 i x v T} r q hT => by
    have s := Step.untold (K := X.K) (ρ := ρ2) (u := .tup [.int (i : Nat), v]) hT
    refine ⟨s, r.untold hT, ?_⟩
    unfold RelD
    exact ⟨T, _, rfl, .inl (.inl upd_same), .cons (by unfold RelD; rfl) (.cons (q.mono s) .nil)⟩
  split at em
  · exact (hl _ _ _ _ e1 _ (by assumption)).elim
  · rename_i ys hy
    cases em
    cases hy
    refine ⟨ρ, env, h, _, _, rE, rH, e1, fun ρ1 v H1 s1 r1 q1 => ?_⟩
    obtain ⟨v, rfl, q⟩ := relDs1 q1
    unfold RelD at q
    obtain ⟨a, vs, rfl, h1, h2⟩ := q
    have sq : ∀ {ρ2 : List Addr} {H2 : Hp}, Step X.K ρ1 H1 ρ2 H2 → SqL X.K H2 a vs := fun s2 => h1.elim (fun ⟨o, z⟩ => .inl (.inr ⟨o, s2.frz _ _ _ z⟩)) .inr
    refine ⟨a, vs, rfl, sq .refl, g _ ρ1 H1 s1 r1 ⟨fun i x ρ2 h2' H2 ex s2 r2 c2 => ?_, fun ρ2 h2' H2 s2 r2 c2 => ?_⟩⟩
    · obtain ⟨y, ey, rfl⟩ := enumP_get ex
      obtain ⟨v, ev, q⟩ := h2.get ey
      refine ⟨⟨vs, v, sq s2, ev⟩, fun w H3 z => ?_⟩
      obtain ⟨T, v', rfl, hT, rfl, z⟩ := z
      rw [Nat.zero_add]
      exact new r2 ((h2.mono s2).eqs ey (z vs (sq s2))) hT
    · exact ⟨vs, sq s2, by rw [enumP_len, h2.length]; exact Nat.le_refl _⟩
  · rename_i n hn
    split at em
    · rename_i ys hy
      cases em
      cases hn
      refine ⟨ρ, env, h, _, _, rE, rH, e1, fun ρ1 v H1 s1 r1 q1 => ?_⟩
      obtain ⟨v, rfl, q⟩ := relDs1 q1
      unfold RelD at q
      obtain ⟨a, ea, rfl⟩ := q
      obtain ⟨a', vs, e1, e2, e3⟩ := r1.lst hy
      rw [ea] at e1; cases e1
      refine ⟨a, vs, rfl, SqL.of e2, g _ ρ1 H1 s1 r1 ⟨fun i x ρ2 h2' H2 ex s2 r2 c2 => ?_, fun ρ2 h2' H2 s2 r2 c2 => ?_⟩⟩
      · obtain ⟨a2, ws, f1, f2, f3⟩ := r2.lst (chk_one c2)
        rw [s2.at ea] at f1; cases f1
        obtain ⟨y, ey, rfl⟩ := enumP_get ex
        obtain ⟨v, ev, q⟩ := f3.get ey
        refine ⟨⟨ws, v, SqL.of f2, ev⟩, fun w H3 z => ?_⟩
        obtain ⟨T, v', rfl, hT, rfl, z⟩ := z
        rw [Nat.zero_add]
        exact new r2 (f3.eqs ey (z ws (SqL.of f2))) hT
      · obtain ⟨a2, ws, f1, f2, f3⟩ := r2.lst (chk_one c2)
        rw [s2.at ea] at f1; cases f1
        exact ⟨ws, SqL.of f2, by rw [enumP_len, f3.length]; exact Nat.le_refl _⟩
    · cases em
  · cases em
end

/-! ### for -/
def forL (cs : List (Nat × VO)) (g : GM) (body : SM) : List D → En → VH → Option SO
  | [], env, h => if chk cs h = true then some (.nx env h) else none
  | x :: xs, env, h => if chk cs h = true then (g x env h).bind fun p => match body p.1 p.2 with
      | some (.nx env' h') => forL cs g body xs env' h'
      | some (.ct env' h') => forL cs g body xs env' h'
      | some (.bk env' h') => some (.nx env' h')
      | some (.rt d h') => some (.rt d h')
      | none => none
    else none
def sFor (im : IM) (g : GM) (body : SM) : SM := fun env h => (im env h).bind fun p => forL p.1.2 g body p.1.1 env p.2
section
variable {X : Cx} {tg it : Expr} {im : IM} {gm : GM} {body : List Stmt} {bm : SM} {pos : Pos}
theorem sv_for (hp : PassesOwn (model X.prog X.w) X.A X.env X.xe) (hc : X.calm = true) (hi : IV X tg it im) (hg : GV X tg gm) (hb : SsV X body bm)
    (hs : ∀ x, foldedSetIterable it X.env x = pure x := by intro _; rfl) : SV X (.For tg it body [] pos) (sFor im gm bm) := by
  refine PSi (ps_for hp hc hi hg hb hs) fun D σ H ⟨ρ, env, h, r, rE, rH, em, g⟩ => ?_
  unfold sFor at em
  obtain ⟨⟨⟨xs, cs⟩, h1⟩, e1, em⟩ := Option.bind_eq_some_iff.mp em
  refine ⟨ρ, env, h, xs, cs, h1, rE, rH, e1, fun J ρ1 H1 s1 r1 wk => ?_⟩
  have g1 := g.mono s1
  refine ⟨fun i m σ' H' => m = xs.length - i ∧ i ≤ xs.length ∧ ∃ ρ' env' h' r', Step X.K ρ1 H1 ρ' H' ∧ RelH X.K X.mg ρ' h' H' ∧ RelE X.K X.mg ρ' H' env' σ' ∧ forL cs gm bm (xs.drop i) env' h' = some r' ∧ SK X.K X.mg D ρ' H' r',
    ⟨xs.length, by simp, Nat.zero_le _, ρ1, env, h1, r, .refl, r1, rE.mono s1, by simpa using em, g1⟩, ?_⟩
  rintro i m σ' H' ⟨rfl, hi', ρ', env', h', r', s', rr, re, ef, gf⟩
  by_cases hlt : i < xs.length
  · refine .inr ?_
    rw [List.drop_eq_getElem_cons hlt] at ef
    unfold forL at ef
    split at ef
    · rename_i hck
      obtain ⟨⟨env2, h2⟩, e2, ef⟩ := Option.bind_eq_some_iff.mp ef
      obtain ⟨go, yl⟩ := wk.go i _ ρ' h' H' (List.getElem?_eq_getElem hlt) s' rr hck
      refine ⟨go, fun σ3 H3 => ∃ ρ3 env3 h3 r3, Step X.K ρ1 H1 ρ3 H3 ∧ RelH X.K X.mg ρ3 h3 H3 ∧ RelE X.K X.mg ρ3 H3 env3 σ3 ∧ forL cs gm bm (xs.drop (i + 1)) env3 h3 = some r3 ∧ SK X.K X.mg D ρ3 H3 r3,
        fun σ3 H3 ⟨ρ3, env3, h3, r3, a1, a2, a3, a4, a5⟩ => ⟨xs.length - (i + 1), by omega, rfl, hlt, ρ3, env3, h3, r3, a1, a2, a3, a4, a5⟩, fun x H2 y => ?_⟩
      obtain ⟨s2, r2, q2⟩ := yl x H2 y
      refine ⟨ρ', env', h', _, env2, h2, q2, re.mono s2, r2, e2, fun ρ4 σ4 H4 s4 r4 re4 => ?_⟩
      have s14 := (s'.trans s2).trans s4
      simp only at ef
      cases eb : bm env2 h2 with
      | none => rw [eb] at ef; cases ef
      | some rb =>
        rw [eb] at ef
        refine ⟨ρ4, env2, h2, rb, re4, r4, eb, ?_⟩
        have gf4 := gf.mono (s2.trans s4)
        cases rb with
        | nx env5 h5 => exact fun ρ5 σ5 H5 s5 r5 re5 => ⟨ρ5, env5, h5, r', s14.trans s5, r5, re5, ef, gf4.mono s5⟩
        | ct env5 h5 => exact fun ρ5 σ5 H5 s5 r5 re5 => ⟨ρ5, env5, h5, r', s14.trans s5, r5, re5, ef, gf4.mono s5⟩
        | bk env5 h5 => cases ef; exact gf4
        | rt d h5 => cases ef; exact gf4
    · cases ef
  · have hi2 : i = xs.length := by omega
    subst hi2
    rw [List.drop_length] at ef
    unfold forL at ef
    split at ef
    · rename_i hck
      cases ef
      exact .inl ⟨wk.stop ρ' h' H' s' rr hck, gf ρ' σ' H' .refl rr re⟩
    · cases ef
end

/-! ### while -/
def whileN (c : BM) (body : SM) : Nat → En → VH → Option SO
  | 0, _, _ => none
  | n + 1, env, h => (c env h).bind fun p => if p.1 = true then match body env p.2 with
      | some (.nx env' h') => whileN c body n env' h'
      | some (.ct env' h') => whileN c body n env' h'
      | some (.bk env' h') => some (.nx env' h')
      | some (.rt d h') => some (.rt d h')
      | none => none
    else some (.nx env p.2)
def fuel : Nat := 1000000
def sWhile (c : BM) (body : SM) : SM := fun env h => whileN c body fuel env h
section
variable {X : Cx} {ce : Expr} {bc : BM} {body : List Stmt} {bm : SM} {pos : Pos}
theorem sv_while (hp : PassesOwn (model X.prog X.w) X.A X.env X.xe) (hc : BV X ce bc) (hb : SsV X body bm) : SV X (.While ce body [] pos) (sWhile bc bm) := by
  refine PSi (ps_while hp hc hb) fun D σ H ⟨ρ, env, h, r, rE, rH, em, g⟩ => ?_
  refine ⟨fun m σ' H' => ∃ ρ' env' h' r', RelH X.K X.mg ρ' h' H' ∧ RelE X.K X.mg ρ' H' env' σ' ∧ whileN bc bm m env' h' = some r' ∧ SK X.K X.mg D ρ' H' r', ⟨fuel, ρ, env, h, r, rH, rE, em, g⟩, ?_⟩
  rintro m σ' H' ⟨ρ', env', h', r', rr, re, ef, gf⟩
  cases m with
  | zero => cases ef
  | succ m =>
    unfold whileN at ef
    obtain ⟨⟨k, h2⟩, e2, ef⟩ := Option.bind_eq_some_iff.mp ef
    refine ⟨ρ', env', h', k, h2, re, rr, e2, fun ρ2 H2 s2 r2 => ?_⟩
    cases k with
    | true =>
      rw [if_pos rfl] at ef ⊢
      refine ⟨fun σ3 H3 => ∃ ρ3 env3 h3 r3, RelH X.K X.mg ρ3 h3 H3 ∧ RelE X.K X.mg ρ3 H3 env3 σ3 ∧ whileN bc bm m env3 h3 = some r3 ∧ SK X.K X.mg D ρ3 H3 r3, fun σ3 H3 q => ⟨m, Nat.lt_succ_self _, q⟩, ?_⟩
      simp only at ef
      cases eb : bm env' h2 with
      | none => rw [eb] at ef; cases ef
      | some rb =>
        rw [eb] at ef
        refine ⟨ρ2, env', h2, rb, re.mono s2, r2, eb, ?_⟩
        have gf2 := gf.mono s2
        cases rb with
        | nx env5 h5 => exact fun ρ5 σ5 H5 s5 r5 re5 => ⟨ρ5, env5, h5, r', r5, re5, ef, gf2.mono s5⟩
        | ct env5 h5 => exact fun ρ5 σ5 H5 s5 r5 re5 => ⟨ρ5, env5, h5, r', r5, re5, ef, gf2.mono s5⟩
        | bk env5 h5 => cases ef; exact gf2
        | rt d h5 => cases ef; exact gf2
    | false =>
      rw [if_neg Bool.false_ne_true] at ef ⊢
      cases ef
      exact gf ρ2 σ' H2 s2 r2 (re.mono s2)
end

/-! ### comprehensions -/
def wipeE (env : En) : List Nat → En
  | [] => env
  | v :: vs => (wipeE env vs).set v none
def lcL (cs : List (Nat × VO)) (own : List Nat) (g : GM) (t : BM) (e : EM) (env0 : En) : List D → VH → Option (List D × VH)
  | [], h => if chk cs h = true then some ([], h) else none
  | x :: xs, h => if chk cs h = true then (g x (wipeE env0 own) h).bind fun p => (t p.1 p.2).bind fun q =>
        if q.1 = true then (e p.1 q.2).bind fun y => (lcL cs own g t e env0 xs y.2).bind fun z => some (y.1 :: z.1, z.2)
        else lcL cs own g t e env0 xs q.2
    else none
def bYes : BM := fun _ h => some (true, h)
def mLc (im : IM) (own : List Nat) (g : GM) (t : BM) (e : EM) : EM := fun env h => (im env h).bind fun p => (lcL p.1.2 own g t e env p.1.1 p.2).bind fun q =>
  if p.1.1.length ≤ lim then some (.ref q.2.length, q.2 ++ [.lst q.1]) else none
section
variable {K : PySem.W.Frag} {mg : Str → Option Value} {ρ : List Addr} {H : Hp}
theorem wipeE_len (env : En) : ∀ vs : List Nat, (wipeE env vs).length = env.length
  | [] => rfl
  | v :: vs => by unfold wipeE; rw [List.length_set, wipeE_len env vs]
theorem wipe_len' (σ : L2.St) : ∀ vs : List Nat, (wipe σ vs).length = σ.length
  | [] => rfl
  | v :: vs => by unfold wipe; rw [List.length_set, wipe_len' σ vs]
theorem RelE.wipe {env : En} {σ : L2.St} (r : RelE K mg ρ H env σ) : ∀ vs : List Nat, RelE K mg ρ H (wipeE env vs) (wipe σ vs)
  | [] => r
  | v :: vs => by
    have ih := RelE.wipe r vs
    unfold wipeE L2.wipe
    refine ⟨by rw [List.length_set, List.length_set]; exact ih.1, fun i d e => ?_⟩
    by_cases hi : v = i
    · subst hi
      by_cases hv : v < (wipeE env vs).length
      · rw [List.getElem?_set_self hv] at e; cases e
      · rw [List.getElem?_eq_none (by simpa using hv)] at e; cases e
    · rw [List.getElem?_set_ne hi] at e
      obtain ⟨w, e1, q⟩ := ih.2 i d e
      exact ⟨w, by rw [List.getElem?_set_ne hi]; exact e1, q⟩
end
/-- a target of names at these places alone, and what it does with data -/
def TgtOk (K : PySem.W.Frag) (mg : Str → Option Value) (t : TG) (g : GM) (own : List Nat) : Prop :=
  ∀ (v : V) (σ0 σ : L2.St) (H : Hp) (ρ : List Addr) (env : En) (h : VH) (d : D) (env' : En) (h' : VH) (Q : L2.St → Hp → Prop), RelD K mg ρ H d v → RelE K mg ρ H env σ → RelH K mg ρ h H → wipe σ own = wipe σ0 own → g d env h = some (env', h') →
    (∀ σ', wipe σ' own = wipe σ0 own → RelE K mg ρ H env' σ' → RelH K mg ρ h' H → Q σ' H) → t v σ H Q
def TgtsOk (K : PySem.W.Frag) (mg : Str → Option Value) (t : TGs) (g : GMs) (own : List Nat) : Prop :=
  ∀ (vs : List V) (σ0 σ : L2.St) (H : Hp) (ρ : List Addr) (env : En) (h : VH) (ds : List D) (env' : En) (h' : VH) (Q : L2.St → Hp → Prop), RelDs K mg ρ H ds vs → RelE K mg ρ H env σ → RelH K mg ρ h H → wipe σ own = wipe σ0 own → g ds env h = some (env', h') →
    (∀ σ', wipe σ' own = wipe σ0 own → RelE K mg ρ H env' σ' → RelH K mg ρ h' H → Q σ' H) → t vs σ H Q
theorem wipe_set {σ : L2.St} {i : Nat} {x : Option V} : ∀ {own : List Nat}, i ∈ own → wipe (σ.set i x) own = wipe σ own
  | [], h => by cases h
  | j :: own, h => by
    unfold L2.wipe
    by_cases hj : i ∈ own
    · rw [wipe_set hj]
    · have e : i = j := by
        rcases List.mem_cons.mp h with z | z
        · exact z
        · exact (hj z).elim
      subst e
      have : ∀ {own : List Nat}, i ∉ own → wipe (σ.set i x) own = (wipe σ own).set i x := by
        intro own
        induction own with
        | nil => intro _; rfl
        | cons k own ih =>
          intro hk
          simp only [List.mem_cons, not_or] at hk
          unfold L2.wipe
          rw [ih hk.2, List.set_comm _ _ hk.1]
      rw [this hj, List.set_set]
theorem tgt_name {K : PySem.W.Frag} {mg : Str → Option Value} {i : Nat} {own : List Nat} (hi : i ∈ own) : TgtOk K mg (gName i) (gNm i) own := fun v σ0 σ H ρ env h d env' h' Q q rE rH hw em g => by
  cases em
  exact g _ ((wipe_set hi).trans hw) (rE.set q) rH
theorem tgts_nil {K : PySem.W.Frag} {mg : Str → Option Value} {own : List Nat} : TgtsOk K mg gNil gN own := fun vs σ0 σ H ρ env h ds env' h' Q q rE rH hw em g => by
  cases ds with
  | nil => cases em; unfold RelDs at q; exact ⟨q, g σ hw rE rH⟩
  | cons _ _ => cases em
theorem tgts_cons {K : PySem.W.Frag} {mg : Str → Option Value} {own : List Nat} {t : TG} {g : GM} {ts : TGs} {gs : GMs} (h1 : TgtOk K mg t g own) (h2 : TgtsOk K mg ts gs own) : TgtsOk K mg (gCons t ts) (gC g gs) own := fun vs σ0 σ H ρ env h ds env' h' Q q rE rH hw em k => by
  cases ds with
  | nil => cases em
  | cons d ds =>
    unfold RelDs at q
    obtain ⟨v, r, rfl, q1, q2⟩ := q
    unfold gC at em
    obtain ⟨⟨env1, h1'⟩, e1, em⟩ := Option.bind_eq_some_iff.mp em
    exact ⟨v, r, rfl, h1 v σ0 σ H ρ env h d env1 h1' _ q1 rE rH hw e1 fun σ1 w1 re1 rh1 => h2 r σ0 σ1 H ρ env1 h1' ds env' h' Q q2 re1 rh1 w1 em k⟩
theorem tgt_tup {K : PySem.W.Frag} {mg : Str → Option Value} {own : List Nat} {n : Nat} {ts : TGs} {gs : GMs} (h2 : TgtsOk K mg ts gs own) (hl : ∀ (ds : List D) (env : En) (h : VH) (env' : En) (h' : VH), gs ds env h = some (env', h') → ds.length = n) : TgtOk K mg (gTup K n ts) (gT gs) own := fun v σ0 σ H ρ env h d env' h' Q q rE rH hw em k => by
  unfold gT at em
  cases d with
  | tup ds =>
    unfold RelD at q
    obtain ⟨a, vs, rfl, h3, h4⟩ := q
    exact ⟨a, vs, rfl, h3.sq, by rw [← h4.length]; exact hl _ _ _ _ _ em, h2 vs σ0 σ H ρ env h ds env' h' Q h4 rE rH hw em k⟩
  | wt ds =>
    unfold RelD at q
    obtain ⟨a, vs, rfl, h3, h4⟩ := q
    exact ⟨a, vs, rfl, h3, by rw [← h4.length]; exact hl _ _ _ _ _ em, h2 vs σ0 σ H ρ env h ds env' h' Q h4 rE rH hw em k⟩
  | _ => cases em
section
variable {X : Cx} {tg it elt : Expr} {ifs : List Expr} {im : IM} {t : TG} {gm : GM} {bt : BM} {me : EM} {pos : Pos} {scope : Scope} {own : List (Str × Nat)}
abbrev TsV (X : Cx) (ifs : List Expr) (m : BM) : Prop := PTs X ifs (bS X.K X.mg m)
theorem PTsi {X : Cx} {e : List Expr} {t t' : TT} (h : PTs X e t) (i : ∀ σ H Q, t' σ H Q → t σ H Q) : PTs X e t' := ⟨fun pins s σ H Q I q => h.run pins s σ H Q I (i _ _ _ q)⟩
theorem ts_nil : TsV X [] bYes := PTsi pts_nil fun σ H Q ⟨ρ, env, h, b, h', rE, rH, em, g⟩ => by
  cases em
  exact g ρ H .refl rH
theorem ts_one {c : Expr} {b : BM} (h : BV X c b) : TsV X [c] b := pts_one h
theorem lc_read {K : PySem.W.Frag} {mg : Str → Option Value} {own : List Nat} (tk : TgtOk K mg t gm own) : ∀ σ H Q, tS K mg (mLc im own gm bt me) σ H Q → tLc (iS K mg im) t (bS K mg bt) (tS K mg me) own σ H Q := by
  intro σ H Q ⟨ρ, env, h, d, h', rE, rH, em, g⟩
  unfold mLc at em
  obtain ⟨⟨⟨xs, cs⟩, h1⟩, e1, em⟩ := Option.bind_eq_some_iff.mp em
  obtain ⟨⟨ys, h2⟩, e2, em⟩ := Option.bind_eq_some_iff.mp em
  split at em
  · rename_i hz
    cases em
    refine ⟨ρ, env, h, xs, cs, h1, rE, rH, e1, fun J ρ1 H1 s1 r1 wk D hD => ?_⟩
    have sD := Step.untold (K := K) (ρ := ρ1) (u := .lst []) hD
    refine ⟨fun i m H' => m = xs.length - i ∧ i ≤ xs.length ∧ ∃ ρ' h' acc accV rest, Step K ρ1 H1 ρ' H' ∧ RelH K mg ρ' h' H' ∧ H' D = some (.lst accV) ∧ D ∉ ρ' ∧ RelDs K mg ρ' H' acc accV ∧ acc.length ≤ i ∧
      lcL cs own gm bt me env (xs.drop i) h' = some (rest, h2) ∧ ys = acc ++ rest,
      ⟨xs.length, by simp, Nat.zero_le _, ρ1, h1, [], [], ys, sD, r1.untold hD, upd_same, r1.new_not_mem hD, .nil, Nat.le_refl _, by simpa using e2, by simp⟩, ?_⟩
    rintro i m H' ⟨rfl, hi, ρ', h', acc, accV, rest, s', rr, hDa, nD, ra, hl, el, ey⟩
    have s01 := s'
    by_cases hlt : i < xs.length
    · refine .inr ?_
      rw [List.drop_eq_getElem_cons hlt] at el
      unfold lcL at el
      split at el
      · rename_i hck
        obtain ⟨⟨env3, h3⟩, e3, el⟩ := Option.bind_eq_some_iff.mp el
        obtain ⟨⟨k, h4⟩, e4, el⟩ := Option.bind_eq_some_iff.mp el
        obtain ⟨go, yl⟩ := wk.go i _ ρ' h' H' (List.getElem?_eq_getElem hlt) s01 rr hck
        refine ⟨go, fun H'' => ∃ ρ' h' acc accV rest, Step K ρ1 H1 ρ' H'' ∧ RelH K mg ρ' h' H'' ∧ H'' D = some (.lst accV) ∧ D ∉ ρ' ∧ RelDs K mg ρ' H'' acc accV ∧ acc.length ≤ i + 1 ∧
          lcL cs own gm bt me env (xs.drop (i + 1)) h' = some (rest, h2) ∧ ys = acc ++ rest,
          fun H'' ⟨ρ5, h5, acc5, accV5, rest5, b1, b2, b3, b4, b5, b6, b7, b8⟩ => ⟨xs.length - (i + 1), by omega, rfl, hlt, ρ5, h5, acc5, accV5, rest5, b1, b2, b3, b4, b5, b6, b7, b8⟩, fun x H2 y => ?_⟩
        obtain ⟨s2, r2, q2⟩ := yl x H2 y
        obtain ⟨hD2, nD2⟩ := s2.frm D _ hDa nD
        have rE2 : RelE K mg ρ' H2 (wipeE env own) (wipe σ own) := (((rE.mono s1).mono s').mono s2).wipe own
        refine tk x σ (wipe σ own) H2 ρ' (wipeE env own) h' _ env3 h3 _ q2 rE2 r2 ?_ e3 fun σ3 w3 re3 rh3 => ⟨w3, ?_⟩
        · have idem : ∀ own : List Nat, ∀ own2 : List Nat, (∀ i ∈ own2, i ∈ own) → wipe (wipe σ own) own2 = wipe σ own := by
            intro own own2
            induction own2 with
            | nil => intro _; rfl
            | cons j own2 ih =>
              intro hs
              rw [show wipe (wipe σ own) (j :: own2) = (wipe (wipe σ own) own2).set j none from rfl, ih fun i hi => hs i (List.mem_cons_of_mem _ hi)]
              have hj := hs j List.mem_cons_self
              have : ∀ {own : List Nat}, j ∈ own → (wipe σ own).set j none = wipe σ own := by
                intro own
                induction own with
                | nil => intro h; cases h
                | cons k own ih2 =>
                  intro h
                  unfold L2.wipe
                  by_cases hjk : j = k
                  · subst hjk; rw [List.set_set]
                  · rcases List.mem_cons.mp h with z | z
                    · exact (hjk z).elim
                    · rw [List.set_comm _ _ (fun e => hjk e.symm), ih2 z]
              exact this hj
          exact idem own own fun i hi => hi
        refine ⟨ρ', env3, h3, k, h4, re3, rh3, e4, fun ρ4 H4 s4 r4 => ?_⟩
        have s04 := (s'.trans s2).trans s4
        obtain ⟨hD4, nD4⟩ := s4.frm D _ hD2 nD2
        cases k with
        | true =>
          rw [if_pos rfl] at el
          refine iteT ?_
          obtain ⟨⟨y5, h5⟩, e5, el⟩ := Option.bind_eq_some_iff.mp el
          obtain ⟨⟨rest6, h6⟩, e6, el⟩ := Option.bind_eq_some_iff.mp el
          cases el
          refine ⟨ρ4, env3, h4, y5, h5, re3.mono s4, r4, e5, fun ρ5 v5 H5 s5 r5 q5 => ?_⟩
          obtain ⟨hD5, nD5⟩ := s5.frm D _ hD4 nD4
          have ra5 : RelDs K mg ρ5 H5 acc accV := ((ra.mono s2).mono s4).mono s5
          refine ⟨accV, hD5, ?_, ?_⟩
          · rw [← ra5.length]
            exact Nat.lt_of_lt_of_le (Nat.lt_of_le_of_lt hl hlt) (lim_ok hz)
          · have wr : Wr H5 D := fun u e => by
              rw [hD5] at e; cases e
              exact ⟨(fun _ z => by cases z), (fun _ _ z => by cases z)⟩
            have st : Step0 K ρ5 H5 ρ5 (upd H5 D (.lst (accV ++ [v5]))) := ⟨⟨[], by simp⟩, fun _ _ h => sqT_upd wr h, fun _ _ _ h => frz_upd wr h⟩
            refine ⟨ρ5, h5, acc ++ [y5], accV ++ [v5], rest6, ?_, ?_, upd_same, nD5, ?_, by simp; omega, e6, by rw [ey]; simp⟩
            · have s05 := s04.trans s5
              refine ⟨s05.pre, fun a vs hq => sqT_upd wr (s05.tup a vs hq), fun a o u hq => frz_upd wr (s05.frz a o u hq), fun a o hq hn => ?_⟩
              obtain ⟨z1, z2⟩ := s05.frm a o hq hn
              exact ⟨by rw [upd_ne (ne_of_none hq hD)]; exact z1, z2⟩
            · refine ⟨r5.len, fun n o a f1 f2 => ?_, r5.inj⟩
              have na : a ≠ D := fun e => nD5 (by rw [← e]; exact List.mem_of_getElem? f2)
              exact (r5.obj n o a f1 f2).mono0 st (upd_ne na)
            · exact (ra5.append (.cons q5 .nil)).mono0 st
        | false =>
          rw [if_neg Bool.false_ne_true] at el
          refine iteF ?_
          exact ⟨ρ4, h4, acc, accV, rest, s04, r4, hD4, nD4, (ra.mono s2).mono s4, by omega, el, ey⟩
      · cases el
    · have hi2 : i = xs.length := by omega
      subst hi2
      rw [List.drop_length] at el
      unfold lcL at el
      split at el
      · rename_i hck
        cases el
        refine .inl ⟨wk.stop ρ' _ H' s01 rr hck, ?_⟩
        rw [List.append_nil] at ey
        subst ey
        refine g (ρ' ++ [D]) (.ref D) H' ⟨?_, fun a vs hq => (s1.trans s01).tup a vs hq, fun a o u hq => (s1.trans s01).frz a o u hq, fun a o hq hn => ?_⟩ (rr.adopt nD ⟨accV, hDa, ra.mono0 Step0.adopt⟩) ?_
        · obtain ⟨m1, q1⟩ := (s1.trans s01).pre
          exact ⟨m1 ++ [D], by rw [q1, List.append_assoc]⟩
        · obtain ⟨z1, z2⟩ := s1.frm a o hq hn
          have na : a ≠ D := ne_of_none z1 hD
          obtain ⟨z3, z4⟩ := s01.frm a o z1 z2
          exact ⟨z3, by simp only [List.mem_append, List.mem_singleton, not_or]; exact ⟨z4, na⟩⟩
        · unfold RelD
          exact ⟨D, by rw [← rr.len]; simp, rfl⟩
      · cases el
  · cases em
theorem ev_lc (hc : X.calm = true) (hN : X.N.Nodup) (hi : IV X tg it im) (ok : BlkOk X.N X.env.scope scope own)
    (hg : ∀ (s : Shared) (H : Hp) (C : Addr) (cl : List (Str × Addr)) (fp : List Addr), PG (X.blk s H scope (compEnvC scope cl C X.env) fp) tg t) (tk : TgtOk X.K X.mg t gm (own.map (·.2)))
    (ht : ∀ (s : Shared) (H : Hp) (C : Addr) (cl : List (Str × Addr)) (fp : List Addr), TsV (X.blk s H scope (compEnvC scope cl C X.env) fp) ifs bt)
    (he : ∀ (s : Shared) (H : Hp) (C : Addr) (cl : List (Str × Addr)) (fp : List Addr), EV (X.blk s H scope (compEnvC scope cl C X.env) fp) elt me) (hs : ∀ x, foldedSetIterable it X.env x = pure x := by intro _; rfl) :
    EV X (.ListComp elt [⟨tg, it, ifs, 0⟩] scope pos) (mLc im (own.map (·.2)) gm bt me) :=
  PEi (pe_lc hc hN hi ok hg ht he hs) (lc_read tk)
theorem sv_setLc {i : Nat} {y : Str} {py spos : Pos} (hc : X.calm = true) (hN : X.N.Nodup) (hy : X.N[i]? = some y) (hyl : X.env.scope.names.lookup y = some .local)
    (hsw : swapsWith (.ListComp elt [⟨tg, it, ifs, 0⟩] scope pos) (some (.Name y py)) spos.line X.env = pure true) (hi : IV X tg it im) (ok : BlkOk X.N X.env.scope scope own)
    (hg : ∀ (s : Shared) (H : Hp) (C : Addr) (cl : List (Str × Addr)) (fp : List Addr), PG (X.blk s H scope (compEnvC scope cl C X.env) fp) tg t) (tk : TgtOk X.K X.mg t gm (own.map (·.2)))
    (ht : ∀ (s : Shared) (H : Hp) (C : Addr) (cl : List (Str × Addr)) (fp : List Addr), TsV (X.blk s H scope (compEnvC scope cl C X.env) fp) ifs bt)
    (he : ∀ (s : Shared) (H : Hp) (C : Addr) (cl : List (Str × Addr)) (fp : List Addr), EV (X.blk s H scope (compEnvC scope cl C X.env) fp) elt me) (hs : ∀ x, foldedSetIterable it X.env x = pure x := by intro _; rfl) :
    SV X (.Assign [.Name y py] (.ListComp elt [⟨tg, it, ifs, 0⟩] scope pos) spos) (sAsg (mLc im (own.map (·.2)) gm bt me) (gNm i)) := by
  refine PSi (ps_setLc (i := i) (tt := bS X.K X.mg bt) (te := tS X.K X.mg me) hc hN hy hyl hsw hi ok hg ht he hs) fun D σ H ⟨ρ, env, h, r, rE, rH, em, g⟩ => ?_
  unfold sAsg at em
  obtain ⟨⟨x, h1⟩, e1, em⟩ := Option.bind_eq_some_iff.mp em
  obtain ⟨⟨env2, h2⟩, e2, em⟩ := Option.bind_eq_some_iff.mp em
  cases em
  cases e2
  exact lc_read tk σ H _ ⟨ρ, env, h, x, h1, rE, rH, e1, fun ρ1 v H1 s1 r1 q1 => g ρ1 _ H1 s1 r1 ((rE.mono s1).set q1)⟩
end

/-! ### a def's body -/
def bodyF (N : Nat) (b : SM) : List D → VH → Option (D × VH) := fun ds h => match b (ds.map some ++ List.replicate (N - ds.length) none) h with
  | some (.nx _ h') => some (.non, h')
  | some (.rt d h') => some (d, h')
  | _ => none
theorem relE_start {K : PySem.W.Frag} {mg : Str → Option Value} {ρ : List Addr} {H : Hp} {N : List Str} {ds : List D} {vs : List V} (q : RelDs K mg ρ H ds vs) : RelE K mg ρ H (ds.map some ++ List.replicate (N.length - ds.length) none) (start N vs) := by
  unfold L2.start
  refine ⟨by simp [q.length], fun i d e => ?_⟩
  by_cases hi : i < ds.length
  · rw [List.getElem?_append_left (by simpa using hi), List.getElem?_map] at e
    cases ed : ds[i]? with
    | none => rw [ed] at e; cases e
    | some d' =>
      rw [ed] at e
      have e' : d' = d := by simpa using e
      subst e'
      obtain ⟨v, e1, r⟩ := q.get ed
      exact ⟨v, by rw [List.getElem?_append_left (by rw [List.length_map, ← q.length]; exact hi), List.getElem?_map, e1]; rfl, r⟩
  · rw [List.getElem?_append_right (by simpa using hi)] at e
    rw [List.getElem?_replicate] at e
    split at e <;> cases e
theorem fng {P : Program} {w : World} {K : PySem.W.Frag} {mg : Str → Option Value} {base : Heap} {x qual : Str} {st : Stmt} {f : Addr} {fd : FuncData} {N ps : List Str} {k : Nat} {b : SM} (F : Fun K x qual st f fd) (S : FnScope N ps (defScope st))
    (hbody : ∀ (cdv : Value) (A : Around) (outer : List PySem.Env) (s : Shared) (H : Hp) (E : XK), A.guards = some [] → Room k (A.deeper (envOfC qual (defScope st) s.heap.objs.size f cdv)) →
      SsV (cxOf CX0 P w K mg base N qual (defScope st) f cdv A outer s H E).nox (defBody st) b) : FnG P w K mg base (k + 1) f fd ps (spS K mg ps.length (bodyF N.length b)) := by
  obtain ⟨oc, od, kV, doc, pm, an, cdv, ct, osl, rfl, lk, hcd⟩ := F.ex
  have len : ∀ vs H Q E, spS K mg ps.length (bodyF N.length b) vs H Q E → vs.length = ps.length := fun vs H Q E ⟨ρ, h, ds, d, h', e1, rH, q, _⟩ => by rw [← q.length, e1]
  refine ⟨len, fun A outer s H args us vs Q E hg hr e0 bt r q => ?_⟩
  have lv := len _ _ _ _ q
  have kin : K.In s.heap := e0.mod.kin.keeps fun b o e => (e0.bs b o e).1
  have lim : s.heap.NoLimit := e0.mod.nolimit.keeps fun b o e => (e0.bs b o e).1
  have cells : ∀ y ∈ ps.zip us, (defScope st).names.lookup y.1 = some .local ∨ ((defScope st).names.lookup y.1 = some .cell ∧ ((cellsFrom (s.heap.objs.size + 1) (defScope st).names []).lookup y.1).isSome = true) := by
    rintro ⟨n, v⟩ hy
    exact (S.par n (List.of_mem_zip hy).1).imp id fun z => ⟨z, PySem.W.cellsFrom_some _ _ _ (.inl z)⟩
  refine codeAny_call_function hr.depth (kin _ _ lk) rfl S.co S.gen rfl (PySem.W.codeRec_of kin hcd) (bt _ _ _ _ ?_)
  refine wpAny_newFunctionEnv_cells S.kind cells fun env he s1 x => ?_
  subst he
  refine ⟨lim.keeps x.toInCall.keep, codeAny_func ?_⟩
  let X := (cxOf CX0 P w K mg base N qual (defScope st) f cdv A outer s H E)
  have I : Inv X [] (start N vs) H s1 := inv_start S hr.hd e0 lv r x
  obtain ⟨ρ, h, ds, d, h', e1, rH, qd, e2, g⟩ := q
  have body := hbody cdv A outer s H E hg (hr.deeper _)
  let D : Ends := { nx := fun _ H' => Q .non H', rt := Q }
  have rd : sS K mg b D (start N vs) H := by
    refine ⟨ρ, ds.map some ++ List.replicate (N.length - ds.length) none, h, ?_⟩
    unfold bodyF at e2
    split at e2
    · rename_i env' h2 eb
      cases e2
      exact ⟨_, relE_start qd, rH, eb, fun ρ' σ' H' s' r' e' => g ρ' .non H' s' r' rfl⟩
    · rename_i d' h2 eb
      cases e2
      exact ⟨_, relE_start qd, rH, eb, g⟩
    · cases e2
  have run := PSs.nox (X := X) body
  refine wpAny_mono (run.run [] s1 (start N vs) H D I rd) (fun fl s' fin => ?_) fun e s' fin => fin
  match fl, fin with
  | .ret u, ⟨v, σ', H', J, rv, q⟩ => exact ⟨v, H', J.os, J.bare, J.base, J.hok, rv, q⟩
  | .next, ⟨σ', H', J, q⟩ => exact ⟨V.non, H', J.os, J.bare, J.base, J.hok, rfl, q⟩
  | .brk, ⟨_, _, _, q⟩ => exact q.elim
  | .cont, ⟨_, _, _, q⟩ => exact q.elim

/-- a def of the text, by its statement -/
def FunAt (K : PySem.W.Frag) (mg : Str → Option Value) (x : Str) (st : Stmt) : Prop := ∃ f fd, mg x = some (.ref f) ∧ Fun K x x st f fd
/-- the def x of the text does what F says -/
def DefS (P : Program) (w : World) (K : PySem.W.Frag) (mg : Str → Option Value) (base : Heap) (x : Str) (st : Stmt) (k : Nat) (ps : List Str) (F : List D → VH → Option (D × VH)) : Prop :=
  ∃ f fd, mg x = some (.ref f) ∧ Fun K x x st f fd ∧ FnG P w K mg base k f fd ps (spS K mg ps.length F)
theorem defs {P : Program} {w : World} {K : PySem.W.Frag} {mg : Str → Option Value} {base : Heap} {x : Str} {st : Stmt} {N ps : List Str} {k : Nat} {b : SM} (h : FunAt K mg x st) (S : FnScope N ps (defScope st))
    (hbody : ∀ (f : Addr) (cdv : Value) (A : Around) (outer : List PySem.Env) (s : Shared) (H : Hp) (E : XK), A.guards = some [] → Room k (A.deeper (envOfC x (defScope st) s.heap.objs.size f cdv)) →
      SsV (cxOf CX0 P w K mg base N x (defScope st) f cdv A outer s H E).nox (defBody st) b) : DefS P w K mg base x st (k + 1) ps (bodyF N.length b) := by
  obtain ⟨f, fd, hm, F⟩ := h
  exact ⟨f, fd, hm, F, fng F S fun cdv A outer s H E => hbody f cdv A outer s H E⟩
theorem DefS.imp {P : Program} {w : World} {K : PySem.W.Frag} {mg : Str → Option Value} {base : Heap} {x : Str} {st : Stmt} {ps : List Str} {k : Nat} {F F' : List D → VH → Option (D × VH)} (G : DefS P w K mg base x st k ps F)
    (h : ∀ ds h d h', F' ds h = some (d, h') → F ds h = some (d, h')) : DefS P w K mg base x st k ps F' := by
  obtain ⟨f, fd, a, b, G⟩ := G
  have im : ∀ vs H Q E, spS K mg ps.length F' vs H Q E → spS K mg ps.length F vs H Q E := fun vs H Q E ⟨ρ, h0, ds, d, h1, e1, e2, e3, e4, e5⟩ => ⟨ρ, h0, ds, d, h1, e1, e2, e3, h _ _ _ _ e4, e5⟩
  exact ⟨f, fd, a, b, ⟨fun vs H Q E q => G.many vs H Q E (im _ _ _ _ q), fun A o s H args us vs Q E g r e bt v q => G.go A o s H args us vs Q E g r e bt v (im _ _ _ _ q)⟩⟩
theorem DefS.v {P : Program} {w : World} {K : PySem.W.Frag} {mg : Str → Option Value} {base : Heap} {x : Str} {st : Stmt} {ps : List Str} {k : Nat} {F : List D → VH → Option (D × VH)} (G : DefS P w K mg base x st k ps F)
    (h : ∀ (kV doc pm : Value) (an : Option Addr) (cdv ct : Value) (us : List Value), us.length = ps.length → bindArgs (PySem.W.fnOf x x (defArgs st) (defBody st) (defScope st) .none kV doc pm an cdv ct) ⟨us, []⟩ = pure (ps.zip us)) : DefV P w K mg base x k ps F := by
  obtain ⟨f, fd, a, b, G⟩ := G
  exact ⟨f, fd, a, b.kp, b.binds h, G⟩

/-! ### the law -/
/-- nothing stands in the abstract heap but the script -/
def Alone (H : Hp) : Prop := ∀ b, H b = none ∨ ∃ o xs, H b = some (.frz o (.lst xs))
theorem law_ends {P : Program} {w : World} {K : PySem.W.Frag} {mg mb : Str → Option Value} {k : Nat} {fa a : Addr} {fd : FuncData} {x : Str} {F : List D → VH → Option (D × VH)} {s₁ : Shared} {vs : List Value} {ns : List Int}
    (kin : K.In s₁.heap) (gl : s₁.heap.Ns mainGlobals mg) (bl : s₁.heap.Ns builtinsNs mb) (bb : ∀ x : Str, x ≠ "__name__" → mb x = bootBuiltins x) (lim : s₁.heap.NoLimit) (gens : s₁.gens = #[])
    (ha : s₁.heap.get? a = some { cls := .type "list", data := .seq vs.toArray }) (hi : IntsAre vs ns) (hl : ns.length ≤ sizeLine) (hr : Room k callerA)
    (G : ∀ base : Heap, K.In base → base.Ns mainGlobals mg → FnG P w K mg base k fa fd [x] (spS K mg 1 F)) (bind : ∀ (s : Shared) (u : Value), BindsTo s fd ⟨[u], []⟩ [(x, u)])
    (law : ∃ h', F [.rl (ns.map D.int)] [] = some (.bl true, h')) :
    codeAny (model P w) callerA (.call (.ref fa) ⟨[.ref a], []⟩) (fun r s' => r = .ok (.ret (.bool true)) ∧ OldK s₁.heap s'.heap ∧ s'.os = s₁.os ∧ AllBare s'.gens) s₁ := by
  have rv := vals_ints hi
  have hlen := hi.length
  have numb : ∀ (ρ : List Addr) (H : Hp) (ns : List Int), RelDs K mg ρ H (ns.map D.int) (ns.map V.int) := fun ρ H ns => by
    induction ns with
    | nil => exact .nil
    | cons n ns ih => exact .cons (by unfold RelD; rfl) ih
  obtain ⟨h', law⟩ := law
  have main : ∀ H : Hp, Alone H → ((∃ o, H a = some (.frz o (.lst (ns.map V.int)))) ∨ KL K a (ns.map V.int)) → HOk P w H s₁.heap → (∀ b u, H b = some u → b = a ∧ K.lookup a = none) →
      codeAny (model P w) callerA (.call (.ref fa) ⟨[.ref a], []⟩) (fun r s' => r = .ok (.ret (.bool true)) ∧ OldK s₁.heap s'.heap ∧ s'.os = s₁.os ∧ AllBare s'.gens) s₁ := by
    intro H alone scr hok only
    have free : ∀ {b : Addr} {m : Str → Option Value}, s₁.heap.Ns b m → H b = none := fun {b m} ⟨o, es, ep, e, d, _⟩ => by
      cases q : H b with
      | none => rfl
      | some u =>
        obtain ⟨rfl, _⟩ := only b u q
        rw [ha] at e
        cases e
        cases (show Data.seq vs.toArray _ = Data.dict es ep from d)
    have ns' : ∀ {b : Addr} {m : Str → Option Value}, s₁.heap.Ns b m → (hidT s₁.heap H).Ns b m := fun {b m} z => by
      have fr := free z
      obtain ⟨o, es, ep, e, d, r⟩ := z
      exact ⟨o, es, ep, hidT_get e fr, d, r⟩
    have kin' : K.In (hidT s₁.heap H) := fun b o e => hidT_get (kin b o e) (by
      cases q : H b with
      | none => rfl
      | some u =>
        obtain ⟨rfl, z⟩ := only b u q
        rw [z] at e; cases e)
    obtain ⟨mc, l1, l2⟩ := lim
    have md : Mod K mg (hidT s₁.heap H) := ⟨kin', ns' gl, ⟨mb, ns' bl, bb⟩, mc, ns' l1, l2⟩
    have e0 : Env0 P w K mg (hidT s₁.heap H) callerA [] s₁ H := { frames := rfl, mod := md, bs := fun b o e => of_hidT e, bsz := Nat.le_of_eq (hidT_size _ _), funs := trivial, frf := (fun b hb => by cases (show b ∈ ([] : List Addr) from hb)), hok := hok, bare := .of_eq gens }
    have want : spS K mg 1 F [.ref a] H (fun v _ => v = .bl true) fun _ _ _ => False := by
      refine ⟨[], [], [.rl (ns.map D.int)], _, h', rfl, ⟨rfl, fun n o b e => by simp at e, fun i j b o u e => by simp at e⟩, .cons ?_ .nil, law, fun ρ' v H' s r q => q⟩
      unfold RelD
      exact ⟨a, ns.map V.int, rfl, scr, numb [] H ns⟩
    have run := (G _ kin' (ns' gl)).go callerA [] s₁ H ⟨[.ref a], []⟩ [.ref a] [.ref a] _ _ rfl hr e0 (bind s₁ (.ref a)) (.cons rfl .nil) want
    refine codeAny_mono run ?_
    intro res s' fin
    match res, fin with
    | .ok (.ret u), ⟨v, H', os, bare, un, hok', rv', q⟩ =>
      obtain rfl : v = .bl true := q
      obtain rfl : u = Value.bool true := rv'
      refine ⟨rfl, .of_keep fun b o e => ?_, os, bare⟩
      rcases alone b with z | ⟨ob, xs, z⟩
      · exact un.keep b o e z (fun m => by cases (show b ∈ ([] : List Addr) from m)) (fun m => by cases m)
      · obtain ⟨f1, _⟩ := hok b _ z
        obtain ⟨f2, _⟩ := hok' b _ (un.frzs b ob _ z)
        rw [e] at f1; cases f1
        exact f2
    | .ok .next, fin => exact fin.elim
    | .ok .brk, fin => exact fin.elim
    | .ok .cont, fin => exact fin.elim
    | .error _, fin => exact fin.elim
  cases hk : K.lookup a with
  | some o =>
    have e := kin a o hk
    rw [ha] at e
    cases e
    exact main (fun _ => none) (fun _ => .inl rfl) (.inr ⟨_, vs.toArray, _, hk, rfl, rfl, rfl, by rw [List.size_toArray, hlen]; exact hl, by simpa using rv⟩) (fun b u z => by cases z) (fun b u z => by cases z)
  | none =>
    have at_ : ∀ (b : Addr) (u : HO), (if b = a then some (HO.frz { cls := .type "list", data := .seq vs.toArray } (.lst (ns.map V.int))) else none) = some u → b = a ∧ HO.frz { cls := .type "list", data := .seq vs.toArray } (.lst (ns.map V.int)) = u := fun b u z => by
      split at z
      · exact ⟨by assumption, Option.some.inj z⟩
      · cases z
    refine main (fun b => if b = a then some (.frz { cls := .type "list", data := .seq vs.toArray } (.lst (ns.map V.int))) else none) (fun b => ?_) (.inl ⟨_, if_pos rfl⟩) (fun b u z => ?_) fun b u z => ⟨(at_ b u z).1, hk⟩
    · by_cases hb : b = a
      · exact .inr ⟨_, _, if_pos hb⟩
      · exact .inl (if_neg hb)
    · obtain ⟨rfl, e⟩ := at_ b u z
      subst e
      exact ⟨ha, by rw [List.length_map]; exact hl, vs, _, rv, ha⟩
/-- the row's walk, from what the law's def does with a script's ints -/
theorem law_walk {l : PySem.W.OpenLaw} {n k : Nat} {q : Program} {loose : List Str} {XP : (Str → Option Value) → Heap → Prop} {YP : World → Heap → Prop} {d : DefRec} {K : Params → PySem.W.Frag} {x : Str}
    (hn : l.most = some n) (hn2 : n ≤ sizeLine) (hdf : d.params.defaults = []) (hr : Room k callerA) (hY : ∀ (w : World) (h : Heap), YP w h → (K w.params).In h)
    (G : ∀ (w : World) (mg : Str → Option Value) (fa : Addr) (h : Heap), (K w.params).In h → h.Ns mainGlobals mg → mg d.name = some (.ref fa) →
      ∃ (fd : FuncData) (F : List D → VH → Option (D × VH)), (∀ (s : Shared) (u : Value), BindsTo s fd ⟨[u], []⟩ [(x, u)]) ∧ (∀ ns : List Int, ns.length ≤ n → ∃ h', F [.rl (ns.map D.int)] [] = some (.bl true, h')) ∧
        ∀ base : Heap, (K w.params).In base → base.Ns mainGlobals mg → FnG l.prog w (K w.params) mg base k fa fd [x] (spS (K w.params) mg 1 F)) :
    PySem.W.WalkO q loose XP YP l.row.toRowW d [] (fun f vs => PySem.call f vs) := by
  refine Att.attach_call hn hdf fun w s₀ s₁ mg mb fa o pm cd doc a vs ns T Y ho hd hcd hmg hobj hints hlen hg => ?_
  obtain ⟨fd, F, hb, law, hG⟩ := G w mg fa _ (hY w _ Y) T.T.g hmg
  exact law_ends (hY w _ Y) T.T.g T.T.b T.T.builtins T.T.nolimit hg hobj hints (Nat.le_trans hlen hn2) hr hG hb (law ns hlen)
end Vm
namespace Vm
open PySem PySem.Spec PyProof.Rows L2
theorem PE.or {X : Cx} {e : Expr} {t t' : TE} (h : PE X e t) (h' : PE X e t') : PE X e (fun σ H Q => t σ H Q ∨ t' σ H Q) :=
  ⟨fun pins s σ H Q I q => q.elim (h.run pins s σ H Q I) (h'.run pins s σ H Q I)⟩
theorem PS.or {X : Cx} {e : Stmt} {t t' : TS} (h : PS X e t) (h' : PS X e t') : PS X e (fun D σ H => t D σ H ∨ t' D σ H) :=
  ⟨fun pins s σ H D I q => q.elim (h.run pins s σ H D I) (h'.run pins s σ H D I)⟩
section
variable {K : PySem.W.Frag} {mg : Str → Option Value} {ρ : List Addr} {H : Hp}
theorem Got.int {i : Int} {h : VH} {Q : V → Hp → Prop} (g : Got K mg ρ H (.int i) h Q) (r : RelH K mg ρ h H) : Q (.int i) H := g ρ _ H .refl r rfl
theorem Got.bl {i : Bool} {h : VH} {Q : V → Hp → Prop} (g : Got K mg ρ H (.bl i) h Q) (r : RelH K mg ρ h H) : Q (.bl i) H := g ρ _ H .refl r rfl
theorem Got.str {i : Str} {h : VH} {Q : V → Hp → Prop} (g : Got K mg ρ H (.str i) h Q) (r : RelH K mg ρ h H) : Q (.str i) H := g ρ _ H .refl r rfl
theorem Got.at {d : D} {v : V} {h : VH} {Q : V → Hp → Prop} (g : Got K mg ρ H d h Q) (r : RelH K mg ρ h H) (q : RelD K mg ρ H d v) : Q v H := g ρ _ H .refl r q
end

/-! ### arithmetic -/
def okLen (n : Nat) : Bool := decide (n ≤ lim)
theorem okLen_ok {n : Nat} (h : okLen n = true) : n ≤ sizeLine := lim_ok (of_decide_eq_true h)
def dAdd : D → D → VH → Option (D × VH)
  | .int i, .int j, h => some (.int (i + j), h)
  | .str a, .str b, h => if okLen (a.length + b.length) = true then some (.str (a ++ b), h) else none
  | .tup a, .tup b, h => if okLen (a.length + b.length) = true then some (.tup (a ++ b), h) else none
  | .ref m, .ref n, h => match h[m]?, h[n]? with
    | some (.lst a), some (.lst b) => if okLen (a.length + b.length) = true then some (.ref h.length, h ++ [.lst (a ++ b)]) else none
    | _, _ => none
  | _, _, _ => none
section
variable {X : Cx}
theorem op_addV : OpV X (binaryOp .Add) dAdd := by
  intro pins s σ H x y v u Q I rx ry ⟨ρ, h, dx, dy, d, h', rH, qx, qy, e, g⟩
  cases dx <;> cases dy <;> (try cases e)
  · rename_i i j
    unfold RelD at qx qy
    subst qx qy
    exact op_add pins s σ H _ _ v u Q I rx ry ⟨i, j, rfl, rfl, g.int rH⟩
  · rename_i a b
    unfold RelD at qx qy
    subst qx qy
    simp only [dAdd] at e
    split at e
    · rename_i hz
      cases e
      exact op_add_str pins s σ H _ _ v u Q I rx ry ⟨a, b, rfl, rfl, okLen_ok hz, g.str rH⟩
    · cases e
  · rename_i a b
    unfold RelD at qx qy
    obtain ⟨p, xs, rfl, h1, h2⟩ := qx
    obtain ⟨q, ys, rfl, h3, h4⟩ := qy
    simp only [dAdd] at e
    split at e
    · rename_i hz
      cases e
      cases rx
      cases ry
      obtain ⟨us, r1, t1, _⟩ := I.tuple h1.sq
      obtain ⟨ws, r2, t2, _⟩ := I.tuple h3.sq
      have hz' : xs.length + ys.length ≤ sizeLine := by rw [← h2.length, ← h4.length]; exact okLen_ok hz
      by_cases hx : us = []
      · subst hx
        cases r1
        have : a = [] := List.length_eq_zero_iff.mp h2.length
        subst this
        refine cat_tup0 t1 t2 ⟨.ref q, H, I, rfl, g.at rH ?_⟩
        unfold RelD
        exact ⟨q, ys, rfl, h3, h4⟩
      · refine HT.cat_tup t1 t2 hx (fun z => ?_) (fun z => ?_) (by rw [← r1.length, ← r2.length]; exact hz')
        · subst z
          cases r2
          have : b = [] := List.length_eq_zero_iff.mp h4.length
          subst this
          rw [List.append_nil] at g
          refine ⟨.ref p, H, I, rfl, g.at rH ?_⟩
          unfold RelD
          exact ⟨p, xs, rfl, h1, h2⟩
        · exact newTup I (r1.append r2) (by rw [List.length_append]; exact hz') s.toks fun p' hp o ho => g.tup rH (h2.append h4) hp ho
    · cases e
  · rename_i m n
    unfold RelD at qx qy
    obtain ⟨p, ep, rfl⟩ := qx
    obtain ⟨q, eq, rfl⟩ := qy
    simp only [dAdd] at e
    split at e
    · rename_i a b ha hb
      split at e
      · rename_i hz
        cases e
        obtain ⟨p', vs, e1, e2, e3⟩ := rH.lst ha
        obtain ⟨q', ws, e4, e5, e6⟩ := rH.lst hb
        rw [ep] at e1; cases e1
        rw [eq] at e4; cases e4
        exact op_cat pins s σ H _ _ v u Q I rx ry ⟨p, q, vs, ws, rfl, rfl, e2, e5, by rw [← e3.length, ← e6.length]; exact okLen_ok hz, fun p' hp => g.lst rH (e3.append e6) hp⟩
      · cases e
    · cases e
def dI2 (C : Int → Int → Bool) (f : Int → Int → Int) : D → D → VH → Option (D × VH)
  | .int i, .int j, h => if C i j = true then some (.int (f i j), h) else none
  | _, _, _ => none
theorem opI2 {F : Value → Value → Sem Value} {P : Int → Int → Prop} {C : Int → Int → Bool} {f : Int → Int → Int} (hop : OpR X F (rI P fun i j => .int (f i j))) (hC : ∀ i j, C i j = true → P i j) : OpV X F (dI2 C f) := by
  intro pins s σ H x y v u Q I rx ry ⟨ρ, h, dx, dy, d, h', rH, qx, qy, e, g⟩
  cases dx <;> cases dy <;> (try cases e)
  rename_i i j
  unfold RelD at qx qy
  subst qx qy
  simp only [dI2] at e
  split at e
  · rename_i hz
    cases e
    exact hop pins s σ H _ _ v u Q I rx ry ⟨i, j, rfl, rfl, hC i j hz, g.int rH⟩
  · cases e
theorem opI2' {F : Value → Value → Sem Value} {f : Int → Int → Int} (hop : OpR X F (rI0 fun i j => .int (f i j))) : OpV X F (dI2 (fun _ _ => true) f) := by
  intro pins s σ H x y v u Q I rx ry ⟨ρ, h, dx, dy, d, h', rH, qx, qy, e, g⟩
  cases dx <;> cases dy <;> (try cases e)
  rename_i i j
  unfold RelD at qx qy
  subst qx qy
  exact hop pins s σ H _ _ v u Q I rx ry ⟨i, j, rfl, rfl, g.int rH⟩
def dSub := dI2 (fun _ _ => true) fun i j => i - j
theorem op_subV : OpV X (binaryOp .Sub) dSub := opI2' op_sub
def in64 (i : Int) : Bool := decide (-(2 ^ 64) < i) && decide (i < 2 ^ 64)
theorem in64_ok {i : Int} (h : in64 i = true) : -(2 ^ 64) < i ∧ i < 2 ^ 64 := by
  unfold in64 at h
  rw [Bool.and_eq_true, decide_eq_true_eq, decide_eq_true_eq] at h
  exact h
def dFdiv := dI2 (fun _ j => decide (j ≠ 0) && decide (j.natAbs < 1073741824)) fun i j => i.fdiv j
theorem op_fdivV : OpV X (binaryOp .FloorDiv) dFdiv := opI2 op_fdivN fun i j h => by
  rw [Bool.and_eq_true, decide_eq_true_eq, decide_eq_true_eq] at h
  exact h
def dMod := dI2 (fun _ j => decide (j ≠ 0)) fun i j => i.fmod j
theorem op_modV : OpV X (binaryOp .Mod) dMod := opI2 op_modN fun i j h => of_decide_eq_true h
def dPow := dI2 (fun i j => decide (0 ≤ j) && decide (j ≤ 1000) && decide (i.natAbs < 18446744073709551616)) fun i j => i ^ j.toNat
theorem op_powV : OpV X (binaryOp .Pow) dPow := opI2 op_pow fun i j h => by
  rw [Bool.and_eq_true, Bool.and_eq_true, decide_eq_true_eq, decide_eq_true_eq, decide_eq_true_eq] at h
  exact ⟨h.1.1, by omega, h.2⟩
/-- t * n, n from 2 on -/
def dMul : D → D → VH → Option (D × VH)
  | .int i, .int j, h => if (in64 i || in64 j) = true then some (.int (i * j), h) else none
  | _, _, _ => none
theorem RelDs.rep {K : PySem.W.Frag} {mg : Str → Option Value} {ρ : List Addr} {H : Hp} {ds : List D} {vs : List V} (r : RelDs K mg ρ H ds vs) : ∀ n : Nat, RelDs K mg ρ H (List.replicate n ds).flatten (List.replicate n vs).flatten
  | 0 => .nil
  | n + 1 => by
    rw [List.replicate_succ, List.replicate_succ, List.flatten_cons, List.flatten_cons]
    exact r.append (RelDs.rep r n)
theorem op_mulV : OpV X (binaryOp .Mult) dMul := by
  intro pins s σ H x y v u Q I rx ry ⟨ρ, h, dx, dy, d, h', rH, qx, qy, e, g⟩
  cases dx <;> cases dy <;> (try cases e)
  · rename_i i j
    unfold RelD at qx qy
    subst qx qy
    simp only [dMul] at e
    split at e
    · rename_i hz
      cases e
      rw [Bool.or_eq_true] at hz
      exact op_mul pins s σ H _ _ v u Q I rx ry ⟨i, j, rfl, rfl, hz.imp in64_ok in64_ok, g.int rH⟩
    · cases e

/-! ### comparisons -/
def dCmp (f : Int → Int → Bool) : D → D → VH → Option (D × VH)
  | .int i, .int j, h => some (.bl (f i j), h)
  | _, _, _ => none
theorem opCmp {F : Value → Value → Sem Value} {f : Int → Int → Bool} (hop : OpR X F (rI0 fun i j => .bl (f i j))) : OpV X F (dCmp f) := by
  intro pins s σ H x y v u Q I rx ry ⟨ρ, h, dx, dy, d, h', rH, qx, qy, e, g⟩
  cases dx <;> cases dy <;> (try cases e)
  rename_i i j
  unfold RelD at qx qy
  subst qx qy
  exact hop pins s σ H _ _ v u Q I rx ry ⟨i, j, rfl, rfl, g.bl rH⟩
def dLt := dCmp fun i j => decide (i < j)
def dLe := dCmp fun i j => decide (i ≤ j)
def dGt := dCmp fun i j => decide (j < i)
def dGe := dCmp fun i j => decide (j ≤ i)
theorem op_ltV : OpV X (compareOp .Lt) dLt := opCmp op_lt
theorem op_leV : OpV X (compareOp .LtE) dLe := opCmp op_le
theorem op_gtV : OpV X (compareOp .Gt) dGt := opCmp op_gt
theorem op_geV : OpV X (compareOp .GtE) dGe := opCmp op_ge
def isNon : D → Bool
  | .non => true
  | _ => false
def dIsN : D → D → VH → Option (D × VH)
  | d, .non, h => some (.bl (isNon d), h)
  | _, _, _ => none
def dNotN : D → D → VH → Option (D × VH)
  | d, .non, h => some (.bl (!isNon d), h)
  | _, _, _ => none
theorem isnon {K : PySem.W.Frag} {mg : Str → Option Value} {ρ : List Addr} {H : Hp} {d : D} {v : V} (q : RelD K mg ρ H d v) : decide (v = .non) = isNon d := by
  cases d <;> unfold RelD at q
  · subst q; rfl
  · subst q; rfl
  · subst q; rfl
  · subst q; rfl
  · obtain ⟨_, _, rfl, _⟩ := q; rfl
  · obtain ⟨_, _, rfl⟩ := q; rfl
  · obtain ⟨_, _, rfl⟩ := q; rfl
  · subst q; rfl
  · obtain ⟨_, _, rfl, _⟩ := q; rfl
  · obtain ⟨_, _, rfl, _⟩ := q; rfl
theorem op_isNV : OpV X (compareOp .Is) dIsN := by
  intro pins s σ H x y v u Q I rx ry ⟨ρ, h, dx, dy, d, h', rH, qx, qy, e, g⟩
  cases dy <;> (try cases e)
  unfold RelD at qy
  subst qy
  refine op_isN pins s σ H _ _ v u Q I rx ry ⟨rfl, ?_⟩
  rw [isnon qx]
  exact g.bl rH
theorem op_notNV : OpV X (compareOp .IsNot) dNotN := by
  intro pins s σ H x y v u Q I rx ry ⟨ρ, h, dx, dy, d, h', rH, qx, qy, e, g⟩
  cases dy <;> (try cases e)
  unfold RelD at qy
  subst qy
  refine op_notN pins s σ H _ _ v u Q I rx ry ⟨rfl, ?_⟩
  rw [isnon qx]
  exact g.bl rH
end

/-! ### data that can be read off: ==, in, repr -/
def py (h : VH) : Nat → D → Option PyData
  | _, .non => some .none
  | _, .bl b => some (.bool b)
  | _, .int i => some (.int i)
  | _, .str x => some (.str x)
  | n + 1, .tup xs => (xs.mapM (py h n)).map .tuple
  | n + 1, .ref m => match h[m]? with
    | some (.lst xs) => (xs.mapM (py h n)).map .list
    | _ => none
  | n + 1, .rl xs => (xs.mapM (py h n)).map .list
  | n + 1, .wt xs => (xs.mapM (py h n)).map .tuple
  | _, _ => none
section
variable {K : PySem.W.Frag} {mg : Str → Option Value} {ρ : List Addr} {H : Hp} {h : VH}
theorem pys_ok {n : Nat} (ih : ∀ {d : D} {v : V} {p : PyData}, RelD K mg ρ H d v → py h n d = some p → Dp K H v p) : ∀ {ds : List D} {vs : List V} {ps : List PyData}, RelDs K mg ρ H ds vs → ds.mapM (py h n) = some ps → DpAll K H vs ps
  | [], _, ps, r, e => by
    unfold RelDs at r; subst r
    simp at e; subst e
    exact .nil
  | d :: ds, _, ps, r, e => by
    unfold RelDs at r
    obtain ⟨v, vs, rfl, r1, r2⟩ := r
    rw [List.mapM_cons] at e
    obtain ⟨p, e1, e⟩ := Option.bind_eq_some_iff.mp e
    obtain ⟨qs, e2, e⟩ := Option.bind_eq_some_iff.mp e
    cases e
    exact .cons (ih r1 e1) (pys_ok ih r2 e2)
theorem py_ok (rH : RelH K mg ρ h H) : ∀ {n : Nat} {d : D} {v : V} {p : PyData}, RelD K mg ρ H d v → py h n d = some p → Dp K H v p := by
  intro n
  induction n with
  | zero =>
    intro d v p q e
    cases d <;> simp [py] at e
    · subst e; unfold RelD at q; subst q; exact .non
    · subst e; unfold RelD at q; subst q; exact .bl _
    · subst e; unfold RelD at q; subst q; exact .int _
    · subst e; unfold RelD at q; subst q; exact .str _
  | succ n ih =>
    intro d v p q e
    cases d with
    | non => simp [py] at e; subst e; unfold RelD at q; subst q; exact .non
    | bl b => simp [py] at e; subst e; unfold RelD at q; subst q; exact .bl _
    | int i => simp [py] at e; subst e; unfold RelD at q; subst q; exact .int _
    | str x => simp [py] at e; subst e; unfold RelD at q; subst q; exact .str _
    | tup xs =>
      simp only [py, Option.map_eq_some_iff] at e
      obtain ⟨ps, e1, rfl⟩ := e
      unfold RelD at q
      obtain ⟨a, vs, rfl, h1, h2⟩ := q
      exact .tup h1.sq (pys_ok ih h2 e1)
    | wt xs =>
      simp only [py, Option.map_eq_some_iff] at e
      obtain ⟨ps, e1, rfl⟩ := e
      unfold RelD at q
      obtain ⟨a, vs, rfl, h1, h2⟩ := q
      exact .tup h1 (pys_ok ih h2 e1)
    | ref m =>
      simp only [py] at e
      split at e
      · rename_i xs hx
        obtain ⟨ps, e1, rfl⟩ := Option.map_eq_some_iff.mp e
        obtain ⟨a, vs, f1, f2, f3⟩ := rH.lst hx
        unfold RelD at q
        obtain ⟨a', f4, rfl⟩ := q
        rw [f1] at f4; cases f4
        exact .lst (SqL.of f2) (pys_ok ih f3 e1)
      · cases e
    | fn x => simp [py] at e
    | ty x => simp [py] at e
    | rl xs =>
      simp only [py, Option.map_eq_some_iff] at e
      obtain ⟨ps, e1, rfl⟩ := e
      unfold RelD at q
      obtain ⟨a, vs, rfl, h1, h2⟩ := q
      exact .lst (h1.elim (fun ⟨o, z⟩ => .inl (.inr ⟨o, z⟩)) .inr) (pys_ok ih h2 e1)
end
/-- how deep data may lie -/
def deep : Nat := 12
def dEq : D → D → VH → Option (D × VH)
  | .int i, .int j, h => some (.bl (decide (i = j)), h)
  | .str i, .str j, h => some (.bl (decide (i = j)), h)
  | .bl i, .bl j, h => some (.bl (decide (i = j)), h)
  | x, y, h => match py h deep x, py h deep y with
    | some a, some b => if (SeqAt.shaped a && SeqAt.shaped b) = true then some (.bl (PyData.eqv a b), h) else none
    | _, _ => none
def dNe : D → D → VH → Option (D × VH)
  | .int i, .int j, h => some (.bl (!decide (i = j)), h)
  | .str i, .str j, h => some (.bl (!decide (i = j)), h)
  | .bl i, .bl j, h => some (.bl (!decide (i = j)), h)
  | x, y, h => match py h deep x, py h deep y with
    | some a, some b => if (SeqAt.shaped a && SeqAt.shaped b) = true then some (.bl (!PyData.eqv a b), h) else none
    | _, _ => none
section
variable {X : Cx}
theorem op_eqV (hu : X.A.units + 64 < cLine) : OpV X (compareOp .Eq) dEq := by
  intro pins s σ H x y v u Q I rx ry ⟨ρ, h, dx, dy, d, h', rH, qx, qy, e, g⟩
  have gen : (match py h deep dx, py h deep dy with | some a, some b => if (SeqAt.shaped a && SeqAt.shaped b) = true then some (D.bl (PyData.eqv a b), h) else none | _, _ => none) = some (d, h') → wpAny (model X.prog X.w) X.A (compareOp .Eq v u) (EP X pins σ Q) X.xe s := fun e => by
    split at e
    · rename_i a b ea eb
      split at e
      · rename_i hz
        cases e
        rw [Bool.and_eq_true] at hz
        exact op_eqD hu pins s σ H x y v u Q I rx ry ⟨a, b, py_ok rH qx ea, py_ok rH qy eb, hz.1, hz.2, g.bl rH⟩
      · cases e
    · cases e
  cases dx <;> cases dy <;> (try exact gen e)
  · cases e
    unfold RelD at qx qy; subst qx qy
    refine op_eq pins s σ H _ _ v u Q I rx ry ⟨rfl, ?_⟩
    rw [dec_str]
    have g' := g.bl rH
    rw [← Bool.beq_eq_decide_eq] at g'
    exact g'
theorem op_neV (hu : X.A.units + 64 < cLine) : OpV X (compareOp .NotEq) dNe := by
  intro pins s σ H x y v u Q I rx ry ⟨ρ, h, dx, dy, d, h', rH, qx, qy, e, g⟩
  have gen : (match py h deep dx, py h deep dy with | some a, some b => if (SeqAt.shaped a && SeqAt.shaped b) = true then some (D.bl (!PyData.eqv a b), h) else none | _, _ => none) = some (d, h') → wpAny (model X.prog X.w) X.A (compareOp .NotEq v u) (EP X pins σ Q) X.xe s := fun e => by
    split at e
    · rename_i a b ea eb
      split at e
      · rename_i hz
        cases e
        rw [Bool.and_eq_true] at hz
        exact op_neD hu pins s σ H x y v u Q I rx ry ⟨a, b, py_ok rH qx ea, py_ok rH qy eb, hz.1, hz.2, g.bl rH⟩
      · cases e
    · cases e
  cases dx <;> cases dy <;> (try exact gen e)
  · cases e
    unfold RelD at qx qy; subst qx qy
    refine op_ne pins s σ H _ _ v u Q I rx ry ⟨rfl, ?_⟩
    rw [dec_str]
    have g' := g.bl rH
    rw [← Bool.beq_eq_decide_eq] at g'
    exact g'
end
end Vm
namespace Vm
open PySem PySem.Spec PyProof.Rows L2

/-! ### built-in functions -/
def seqOf (h : VH) (d : D) : Option (List D) := (lstOf h d).or (tupOf d)
def dLen : List D → VH → Option (D × VH)
  | [.str x], h => if okLen x.length = true then some (.int x.length, h) else none
  | [d], h => (seqOf h d).bind fun xs => some (.int xs.length, h)
  | _, _ => none
def dInt : List D → VH → Option (D × VH)
  | [.int i], h => some (.int i, h)
  | [.bl b], h => some (.int (if b then 1 else 0), h)
  | _, _ => none
def dTupleOf : List D → VH → Option (D × VH)
  | [.tup xs], h => some (.tup xs, h)
  | [d], h => (lstOf h d).bind fun xs => some (.tup xs, h)
  | _, _ => none
def dListOf : List D → VH → Option (D × VH)
  | [d], h => (seqOf h d).bind fun xs => some (.ref h.length, h ++ [.lst xs])
  | _, _ => none
def dRepr : List D → VH → Option (D × VH)
  | [d], h => (py h deep d).bind fun p => if (p.showable && okLen p.shown.length && !p.hasDict && decide (p.depth ≤ 60)) = true then some (.str p.shown, h) else none
  | _, _ => none
section
variable {K : PySem.W.Frag} {mg : Str → Option Value} {ρ : List Addr} {H : Hp}
theorem seqOf_ok {h : VH} {d : D} {v : V} {xs : List D} (r : RelH K mg ρ h H) (q : RelD K mg ρ H d v) (e : seqOf h d = some xs) : ∃ a vs, v = .ref a ∧ (SqL K H a vs ∨ SqT K H a vs) ∧ RelDs K mg ρ H xs vs := by
  unfold seqOf at e
  cases el : lstOf h d with
  | some ys =>
    rw [el] at e
    cases e
    obtain ⟨a, vs, e1, e2, e3⟩ := lstOf_ok r q el
    exact ⟨a, vs, e1, .inl e2, e3⟩
  | none =>
    rw [el] at e
    obtain ⟨a, vs, e1, e2, e3⟩ := tupOf_ok q e
    exact ⟨a, vs, e1, .inr e2, e3⟩
end
section
variable {X : Cx}
theorem call_lenV : CallV X (.builtin "len") dLen := by
  intro pins s σ H xs us Q I r ⟨ρ, h, ds, d, h', rH, q, e, g⟩
  unfold dLen at e
  split at e
  · rename_i x
    split at e
    · rename_i hz
      cases e
      obtain ⟨v, rfl, qd⟩ := relDs1 q
      unfold RelD at qd; subst qd
      exact call_len pins s σ H _ us Q I r ⟨_, _, rfl, ⟨okLen_ok hz, rfl⟩, g.int rH⟩
    · cases e
  · rename_i y hy
    obtain ⟨v, rfl, qd⟩ := relDs1 q
    obtain ⟨ys, e1, e⟩ := Option.bind_eq_some_iff.mp e
    cases e
    obtain ⟨a, vs, rfl, e2, e3⟩ := seqOf_ok rH qd e1
    refine call_len pins s σ H _ us Q I r ⟨_, ys.length, rfl, ?_, g.int rH⟩
    exact e2.elim (fun z => .inl ⟨vs, z, e3.length⟩) fun z => .inr ⟨vs, z, e3.length⟩
  · cases e
theorem call_intV : CallV X (.type "int") dInt := by
  intro pins s σ H xs us Q I r ⟨ρ, h, ds, d, h', rH, q, e, g⟩
  unfold dInt at e
  split at e
  · cases e
    obtain ⟨v, rfl, qd⟩ := relDs1 q
    unfold RelD at qd; subst qd
    exact call_int1 pins s σ H _ us Q I r (.inl ⟨_, rfl, g.int rH⟩)
  · cases e
    obtain ⟨v, rfl, qd⟩ := relDs1 q
    unfold RelD at qd; subst qd
    exact call_int1 pins s σ H _ us Q I r (.inr ⟨_, rfl, g.int rH⟩)
  · cases e
theorem call_tupleV : CallV X (.type "tuple") dTupleOf := by
  intro pins s σ H xs us Q I r ⟨ρ, h, ds, d, h', rH, q, e, g⟩
  unfold dTupleOf at e
  split at e
  · cases e
    obtain ⟨v, rfl, qd⟩ := relDs1 q
    have q' := qd
    unfold RelD at q'
    obtain ⟨a, vs, rfl, h1, h2⟩ := q'
    exact call_tuple_of pins s σ H _ us Q I r ⟨a, vs, rfl, .inr ⟨h1.sq, g.at rH qd⟩⟩
  · obtain ⟨v, rfl, qd⟩ := relDs1 q
    obtain ⟨ys, e1, e⟩ := Option.bind_eq_some_iff.mp e
    cases e
    obtain ⟨a, vs, rfl, e2, e3⟩ := lstOf_ok rH qd e1
    obtain ⟨u, rfl, ru⟩ := vals1 r
    cases ru
    obtain ⟨its, rv, pl, hz⟩ := I.list e2
    refine call_tuple_list pl.isList (fun hp kp => ?_) (by rw [List.size_toArray, ← rv.length]; exact hz)
    have I1 : Inv X pins σ H { s with heap := hp } := I.kept (t' := s.toks) kp
    exact newTup I1 rv hz s.toks fun p np o no => g.tup rH e3 np no
  · cases e
theorem call_listV : CallV X (.type "list") dListOf := by
  intro pins s σ H xs us Q I r ⟨ρ, h, ds, d, h', rH, q, e, g⟩
  unfold dListOf at e
  split at e
  · obtain ⟨v, rfl, qd⟩ := relDs1 q
    obtain ⟨ys, e1, e⟩ := Option.bind_eq_some_iff.mp e
    cases e
    obtain ⟨a, vs, rfl, e2, e3⟩ := seqOf_ok rH qd e1
    exact call_list_of pins s σ H _ us Q I r ⟨a, vs, rfl, e2, fun l hl => g.lst rH e3 hl⟩
  · cases e
theorem call_reprV (hG : X.A.guards = some []) (hu : X.A.units + 64 < cLine) : CallV X (.builtin "repr") dRepr := by
  intro pins s σ H xs us Q I r ⟨ρ, h, ds, d, h', rH, q, e, g⟩
  unfold dRepr at e
  split at e
  · rename_i d0
    obtain ⟨v, rfl, qd⟩ := relDs1 q
    obtain ⟨p, e1, e⟩ := Option.bind_eq_some_iff.mp e
    split at e
    · rename_i hz
      rw [Bool.and_eq_true, Bool.and_eq_true, Bool.and_eq_true, Bool.not_eq_true', decide_eq_true_eq] at hz
      obtain ⟨⟨⟨sh, ln⟩, nd⟩, dp⟩ := hz
      cases e
      obtain ⟨u, rfl, ru⟩ := vals1 r
      have dpx := py_ok rH qd e1
      obtain ⟨as, rd⟩ := Dp.reads I p v u dpx ru
      have gs := g.str rH
      have len := okLen_ok ln
      cases dpx with
      | non =>
        cases ru
        exact PySem.P.repr_of_none ⟨.str _, H, I.tok _, ⟨_, rfl⟩, gs⟩
      | bl b =>
        cases ru
        exact PySem.P.repr_of_bool ⟨.str _, H, I.tok _, ⟨_, rfl⟩, gs⟩
      | int i =>
        obtain ⟨t, rfl⟩ := ru
        exact PySem.P.repr_of_int (of_decide_eq_true sh) ⟨.str _, H, I.tok _, ⟨_, rfl⟩, gs⟩
      | str x =>
        obtain ⟨t, rfl⟩ := ru
        exact PySem.P.repr_of_str ⟨.str _, H, I.tok _, ⟨_, rfl⟩, gs⟩ len
      | lst hs ha =>
        cases ru
        exact repr_of_reads' rd sh (PyData.noDict_hsm nd) hG (by omega) (fun _ _ z => z) (fun hp t tk kp => ⟨.str _, H, I.kept kp, ⟨_, rfl⟩, gs⟩) len
      | tup hs ha =>
        cases ru
        exact repr_of_reads' rd sh (PyData.noDict_hsm nd) hG (by omega) (fun _ _ z => z) (fun hp t tk kp => ⟨.str _, H, I.kept kp, ⟨_, rfl⟩, gs⟩) len
    · cases e
  · cases e

/-! ### subscripts -/
def dKey : D → Option Key
  | .int i => some (.inl i)
  | .str x => some (.inr x)
  | _ => none
def valD {κ : Type} [DecidableEq κ] (kvs : List (κ × D)) (k : κ) : Option D := (kvs.find? fun kv => decide (kv.1 = k)).map (·.2)
def putD {κ : Type} [DecidableEq κ] (kvs : List (κ × D)) (k : κ) (v : D) : List (κ × D) :=
  if (kvs.any fun kv => decide (kv.1 = k)) = true then kvs.map (fun kv => if kv.1 = k then (kv.1, v) else kv) else kvs ++ [(k, v)]
theorem valD_ok {K : PySem.W.Frag} {mg : Str → Option Value} {ρ : List Addr} {H : Hp} {k : Key} {d : D} : ∀ {kvs : List (Key × D)} {ws : List (Key × V)}, RelKV K mg ρ H kvs ws → valD kvs k = some d → ∃ v, valV ws k = some v ∧ RelD K mg ρ H d v
  | [], _, r, e => by simp [valD] at e
  | p :: ps, ws, r, e => by
    obtain ⟨q, qs, rfl, e1, h1, h2⟩ := r
    by_cases hk : p.1 = k
    · have e' : p.2 = d := by simpa [valD, List.find?_cons, hk] using e
      subst e'
      exact ⟨q.2, valV_pos (e1 ▸ hk), h1⟩
    · have e' : valD ps k = some d := by simpa [valD, List.find?_cons, hk] using e
      obtain ⟨v, e2, r2⟩ := valD_ok h2 e'
      exact ⟨v, by rw [valV_neg (by rw [← e1]; exact hk)]; exact e2, r2⟩
theorem anyK_eq {K : PySem.W.Frag} {mg : Str → Option Value} {ρ : List Addr} {H : Hp} {k : Key} : ∀ {kvs : List (Key × D)} {ws : List (Key × V)}, RelKV K mg ρ H kvs ws → (kvs.any fun kv => decide (kv.1 = k)) = (ws.any fun kv => decide (kv.1 = k))
  | [], _, r => by unfold RelKV at r; subst r; rfl
  | p :: ps, ws, r => by
    obtain ⟨q, qs, rfl, e1, h1, h2⟩ := r
    simp only [List.any_cons, e1, anyK_eq h2]
theorem RelKV.append {K : PySem.W.Frag} {mg : Str → Option Value} {ρ : List Addr} {H : Hp} {κ : Type} : ∀ {kvs kvs' : List (κ × D)} {ws ws' : List (κ × V)}, RelKV K mg ρ H kvs ws → RelKV K mg ρ H kvs' ws' → RelKV K mg ρ H (kvs ++ kvs') (ws ++ ws')
  | [], _, _, _, r, r' => by unfold RelKV at r; subst r; exact r'
  | p :: ps, _, _, _, r, r' => by
    obtain ⟨q, qs, rfl, e1, h1, h2⟩ := r
    exact ⟨q, qs ++ _, rfl, e1, h1, RelKV.append h2 r'⟩
theorem mapK_ok {K : PySem.W.Frag} {mg : Str → Option Value} {ρ : List Addr} {H : Hp} {k : Key} {d : D} {v : V} (q : RelD K mg ρ H d v) : ∀ {kvs : List (Key × D)} {ws : List (Key × V)}, RelKV K mg ρ H kvs ws →
    RelKV K mg ρ H (kvs.map fun kv => if kv.1 = k then (kv.1, d) else kv) (ws.map fun kv => if kv.1 = k then (kv.1, v) else kv)
  | [], _, r => by unfold RelKV at r; subst r; rfl
  | p :: ps, _, r => by
    obtain ⟨p', qs, rfl, e1, h1, h2⟩ := r
    by_cases hk : p.1 = k
    · have hk' : p'.1 = k := e1 ▸ hk
      refine ⟨_, _, rfl, ?_, ?_, mapK_ok q h2⟩
      · simp only [hk, hk', if_true]
      · simp only [hk, hk', if_true]; exact q
    · have hk' : ¬ p'.1 = k := by rw [← e1]; exact hk
      refine ⟨_, _, rfl, ?_, ?_, mapK_ok q h2⟩
      · simp only [hk, hk', if_false]; exact e1
      · simp only [hk, hk', if_false]; exact h1
theorem putD_ok {K : PySem.W.Frag} {mg : Str → Option Value} {ρ : List Addr} {H : Hp} {k : Key} {d : D} {v : V} {kvs : List (Key × D)} {ws : List (Key × V)} (r : RelKV K mg ρ H kvs ws) (q : RelD K mg ρ H d v) : RelKV K mg ρ H (putD kvs k d) (putK ws k v) := by
  unfold putD putK
  rw [anyK_eq r]
  split
  · exact mapK_ok q r
  · exact r.append ⟨_, [], rfl, rfl, q, rfl⟩
def dIx : D → D → VH → Option (D × VH)
  | .ref n, k, h => match h[n]? with
    | some (.lst xs) => match k with | .int i => (atI xs i).bind fun d => some (d, h) | _ => none
    | some (.dK kvs) => (dKey k).bind fun k => (valD kvs k).bind fun d => some (d, h)
    | _ => none
  | d, .int i, h => (seqOf h d).bind fun xs => (atI xs i).bind fun d => some (d, h)
  | _, _, _ => none
theorem atI_rel {K : PySem.W.Frag} {mg : Str → Option Value} {ρ : List Addr} {H : Hp} {xs : List D} {vs : List V} {i : Int} {d : D} (r : RelDs K mg ρ H xs vs) (e : atI xs i = some d) : ∃ v, atI vs i = some v ∧ RelD K mg ρ H d v := by
  unfold atI at e ⊢
  obtain ⟨j, e1, e2⟩ := Option.bind_eq_some_iff.mp e
  obtain ⟨v, e3, q⟩ := r.get e2
  exact ⟨v, by rw [← r.length, e1]; exact e3, q⟩
theorem dKey_ok {K : PySem.W.Frag} {mg : Str → Option Value} {ρ : List Addr} {H : Hp} {d : D} {v : V} {k : Key} (q : RelD K mg ρ H d v) (e : dKey d = some k) : v = kV k := by
  cases d <;> cases e <;> (unfold RelD at q; exact q)
variable {a b : Expr} {ma mb mv : EM} {pos : Pos}
theorem ev_sub (hu : X.A.units + 1 < cLine) (ha : EV X a ma) (hb : EV X b mb) (hs : PlainIx b) (hs2 : NoSl b) : EV X (.Subscript a b pos) (mBin dIx ma mb) := by
  refine PEi (PE.or (pe_ix (IxR.or ix_list ix_tup) ha hb hs) (pe_dget hu ha hb hs2)) fun σ H Q ⟨ρ, env, h, d, h', rE, rH, em, g⟩ => ?_
  unfold mBin at em
  obtain ⟨⟨x, h1⟩, e1, em⟩ := Option.bind_eq_some_iff.mp em
  obtain ⟨⟨y, h2⟩, e2, em⟩ := Option.bind_eq_some_iff.mp em
  have seq : ∀ xs i, seqOf h2 x = some xs → y = .int i → atI xs i = some d → h' = h2 → tOp (fun x y H Q => rIxL X.K x y H Q ∨ rIxT X.K x y H Q) (tS X.K X.mg ma) (tS X.K X.mg mb) σ H Q := fun xs i f1 f2 f3 f4 => by
    subst f4
    refine ⟨ρ, env, h, x, h1, rE, rH, e1, fun ρ1 v H1 s1 r1 q1 => ?_⟩
    refine ⟨ρ1, env, h1, y, h', rE.mono s1, r1, e2, fun ρ2 w H2 s2 r2 q2 => ?_⟩
    obtain ⟨p, vs, rfl, z1, z2⟩ := seqOf_ok r2 (q1.mono s2) f1
    subst f2
    unfold RelD at q2; subst q2
    obtain ⟨v, z3, z4⟩ := atI_rel z2 f3
    have fin := g ρ2 v H2 (s1.trans s2) r2 z4
    exact z1.elim (fun z => .inl ⟨p, vs, i, v, rfl, rfl, z, z3, fin⟩) fun z => .inr ⟨p, vs, i, v, rfl, rfl, z, z3, fin⟩
  cases x with
  | ref n =>
    simp only [dIx] at em
    split at em
    · rename_i xs hx
      split at em
      · rename_i i
        obtain ⟨d', f1, em⟩ := Option.bind_eq_some_iff.mp em
        cases em
        exact .inl (seq xs i (by simp [seqOf, lstOf, hx]) rfl f1 rfl)
      · cases em
    · rename_i kvs hx
      obtain ⟨k, f1, em⟩ := Option.bind_eq_some_iff.mp em
      obtain ⟨d', f2, em⟩ := Option.bind_eq_some_iff.mp em
      cases em
      refine .inr ⟨ρ, env, h, _, h1, rE, rH, e1, fun ρ1 v H1 s1 r1 q1 => ?_⟩
      refine ⟨ρ1, env, h1, y, _, rE.mono s1, r1, e2, fun ρ2 w H2 s2 r2 q2 => ?_⟩
      have q1' := q1.mono s2
      unfold RelD at q1'
      obtain ⟨p, ep, rfl⟩ := q1'
      obtain ⟨p', ep', ws, z1, z2⟩ := r2.there hx
      rw [ep] at ep'; cases ep'
      obtain ⟨v, z3, z4⟩ := valD_ok z2 f2
      obtain rfl := dKey_ok q2 f1
      exact ⟨p, v, rfl, by rw [← z3]; exact DGet.k z1, g ρ2 v H2 (s1.trans s2) r2 z4⟩
    · cases em
  | tup ys =>
    cases y <;> (try cases em)
    simp only [dIx] at em
    obtain ⟨xs, f1, em⟩ := Option.bind_eq_some_iff.mp em
    obtain ⟨d', f2, em⟩ := Option.bind_eq_some_iff.mp em
    cases em
    exact .inl (seq xs _ f1 rfl f2 rfl)
  | wt ys =>
    cases y <;> (try cases em)
    simp only [dIx] at em
    obtain ⟨xs, f1, em⟩ := Option.bind_eq_some_iff.mp em
    obtain ⟨d', f2, em⟩ := Option.bind_eq_some_iff.mp em
    cases em
    exact .inl (seq xs _ f1 rfl f2 rfl)
  | rl ys =>
    cases y <;> (try cases em)
    simp only [dIx] at em
    obtain ⟨xs, f1, em⟩ := Option.bind_eq_some_iff.mp em
    obtain ⟨d', f2, em⟩ := Option.bind_eq_some_iff.mp em
    cases em
    exact .inl (seq xs _ f1 rfl f2 rfl)
  | _ => cases y <;> cases em
end
end Vm
namespace Vm
open PySem PySem.Spec PyProof.Rows L2

/-! ### o[i] = v -/
def dStore (o i v : D) (h : VH) : Option VH := match o with
  | .ref n => match h[n]? with
    | some (.lst xs) => match i with | .int k => (ixN xs.length k).bind fun j => some (h.set n (.lst (xs.set j v))) | _ => none
    | some (.dK kvs) => (dKey i).bind fun k => if okLen (kvs.length + 1) = true then some (h.set n (.dK (putD kvs k v))) else none
    | _ => none
  | _ => none
def sPut (mo mi mv : EM) : SM := fun env h => (mv env h).bind fun v => (mo env v.2).bind fun o => (mi env o.2).bind fun i => (dStore o.1 i.1 v.1 i.2).bind fun h' => some (.nx env h')
section
variable {X : Cx} {o i value : Expr} {mo mi mv : EM} {pos pos' : Pos}
theorem sv_put (hu : X.A.units + 1 < cLine) (ho : EV X o mo) (hi : EV X i mi) (hv : EV X value mv) (hs : swapsWith value (some (.Subscript o i pos')) pos.line X.env = pure false := by rfl)
    (hs2 : swapsWithSole [.Subscript o i pos'] value pos.line X.env = pure false := by rfl) (hw : swappedStores [.Subscript o i pos'] value X.env = pure none := by rfl)
    (h1 : (assignEach [.Subscript o i pos'] X.env).map (·.2) = [assign (.Subscript o i pos') X.env] := by rfl)
    (hg : ∀ v, assign (.Subscript o i pos') X.env v = (do
      let ov ← holding [v] (eval o X.env)
      let iv ← holding [v, ov] (eval i X.env)
      standAt pos'
      holding [v, ov, iv] (setItem ov iv v)
      release [v, ov, iv] []) := by intro _; rfl) : SV X (.Assign [.Subscript o i pos'] value pos) (sPut mo mi mv) := by
  refine PSi (PS.or (ps_asg hv (pg_sub ho hi set_list hg) hs2 hw h1) (ps_dput hu ho hi hv hs)) fun D σ H ⟨ρ, env, h, r, rE, rH, em, g⟩ => ?_
  unfold sPut at em
  obtain ⟨⟨v, h1⟩, e1, em⟩ := Option.bind_eq_some_iff.mp em
  obtain ⟨⟨x, h2⟩, e2, em⟩ := Option.bind_eq_some_iff.mp em
  obtain ⟨⟨y, h3⟩, e3, em⟩ := Option.bind_eq_some_iff.mp em
  obtain ⟨h4, e4, em⟩ := Option.bind_eq_some_iff.mp em
  cases em
  cases x with
  | ref n =>
    simp only [dStore] at e4
    split at e4
    · rename_i xs hx
      split at e4
      · rename_i k
        obtain ⟨j, ej, e4⟩ := Option.bind_eq_some_iff.mp e4
        cases e4
        refine .inl ⟨ρ, env, h, v, h1, rE, rH, e1, fun ρ1 u1 H1 s1 r1 q1 => ?_⟩
        refine ⟨ρ1, env, h1, _, h2, rE.mono s1, r1, e2, fun ρ2 u2 H2 s2 r2 q2 => ?_⟩
        refine ⟨ρ2, env, h2, _, h3, (rE.mono s1).mono s2, r2, e3, fun ρ3 u3 H3 s3 r3 q3 => ?_⟩
        have q2' := q2.mono s3
        unfold RelD at q2' q3
        obtain ⟨a, ea, rfl⟩ := q2'
        subst q3
        obtain ⟨a', vs, ea', hl, hv⟩ := r3.lst hx
        rw [ea] at ea'; cases ea'
        have wr := (r3.obj _ _ _ hx ea).wr
        have st := Step.write (K := X.K) (u := .lst (vs.set j u1)) ea wr
        refine ⟨a, vs, k, j, rfl, rfl, hl, by rw [← hv.length]; exact ej, ?_⟩
        exact g ρ3 σ _ (((s1.trans s2).trans s3).trans st) (r3.write hx ea ⟨vs.set j u1, upd_same, (hv.set j ((q1.mono s2).mono s3)).mono st⟩) (rE.mono (((s1.trans s2).trans s3).trans st))
      · cases e4
    · rename_i kvs hx
      obtain ⟨k, ek, e4⟩ := Option.bind_eq_some_iff.mp e4
      split at e4
      · rename_i hz
        cases e4
        refine .inr ⟨ρ, env, h, v, h1, rE, rH, e1, fun ρ1 u1 H1 s1 r1 q1 => ?_⟩
        refine ⟨ρ1, env, h1, _, h2, rE.mono s1, r1, e2, fun ρ2 u2 H2 s2 r2 q2 => ?_⟩
        refine ⟨ρ2, env, h2, _, h3, (rE.mono s1).mono s2, r2, e3, fun ρ3 u3 H3 s3 r3 q3 => ?_⟩
        have q2' := q2.mono s3
        unfold RelD at q2'
        obtain ⟨a, ea, rfl⟩ := q2'
        obtain ⟨a', ea', ws, hl, hv⟩ := r3.there hx
        rw [ea] at ea'; cases ea'
        obtain rfl := dKey_ok q3 ek
        have wr := (r3.obj _ _ _ hx ea).wr
        have st := Step.write (K := X.K) (u := .dK (putK ws k u1)) ea wr
        refine ⟨a, _, rfl, DPut.k (v := u1) hl ?_, ?_⟩
        · have := okLen_ok hz
          rw [← hv.length]; omega
        · exact g ρ3 σ _ (((s1.trans s2).trans s3).trans st) (r3.write hx ea ⟨putK ws k u1, upd_same, (putD_ok hv ((q1.mono s2).mono s3)).mono st⟩) (rE.mono (((s1.trans s2).trans s3).trans st))
      · cases e4
    · cases e4
  | _ => cases e4
end

/-! ### slices -/
def cutD (xs : List D) (lo hi : Option Int) : List D := (xs.drop (HT.sIx xs.length 0 lo)).take (HT.sIx xs.length xs.length hi - HT.sIx xs.length 0 lo)
abbrev OM := En → VH → Option (Option Int × VH)
def oNone : OM := fun _ h => some (none, h)
def oSome (m : EM) : OM := fun env h => (m env h).bind fun p => match p.1 with | .int i => some (some i, p.2) | _ => none
def dSlice : D → Option Int → Option Int → VH → Option (D × VH)
  | .tup xs, lo, hi, h => some (.tup (cutD xs lo hi), h)
  | d, lo, hi, h => (lstOf h d).bind fun xs => some (.ref h.length, h ++ [.lst (cutD xs lo hi)])
def mSlice (m : EM) (lo hi : OM) : EM := fun env h => (m env h).bind fun p => (lo env p.2).bind fun l => (hi env l.2).bind fun u => dSlice p.1 l.1 u.1 u.2
section
variable {K : PySem.W.Frag} {mg : Str → Option Value} {ρ : List Addr} {H : Hp}
theorem cut_rel {xs : List D} {vs : List V} (r : RelDs K mg ρ H xs vs) (lo hi : Option Int) : RelDs K mg ρ H (cutD xs lo hi) (cutV vs lo hi) := by
  unfold cutD cutV
  rw [r.length]
  exact (r.drop _).take _
end
def slS (K : PySem.W.Frag) (mg : Str → Option Value) : V → Option Int → Option Int → Hp → VK → Prop := fun x lo hi H Q => ∃ ρ h dx d h', RelH K mg ρ h H ∧ RelD K mg ρ H dx x ∧ dSlice dx lo hi h = some (d, h') ∧ Got K mg ρ H d h' Q
section
variable {X : Cx}
theorem sl_V : SlR X (slS X.K X.mg) := by
  intro pins s σ H x v vl vu lo hi sl Q I rx hs pl pu ⟨ρ, h, dx, d, h', rH, qx, e, g⟩
  have lst : ∀ xs, lstOf h dx = some xs → (lstOf h dx).bind (fun xs => some (D.ref h.length, h ++ [.lst (cutD xs lo hi)])) = some (d, h') →
      ∃ T id, typeLookup (.type T) "__getitem__" = pure (some (.builtin id)) ∧ s.TypeIs v T ∧ wpAny (model X.prog X.w) X.A (getItem v (.ref sl)) (EP X pins σ Q) X.xe s := fun xs e1 e => by
    rw [e1] at e
    cases e
    obtain ⟨a, vs, rfl, e2, e3⟩ := lstOf_ok rH qx e1
    exact sl_list pins s σ H _ v vl vu lo hi sl Q I rx hs pl pu ⟨a, vs, rfl, e2, fun p hp => g.lst rH (cut_rel e3 lo hi) hp⟩
  cases dx with
  | tup xs =>
    cases e
    have qx' := qx
    unfold RelD at qx'
    obtain ⟨a, vs, rfl, t, e3⟩ := qx'
    cases rx
    obtain ⟨us, r, tu, hz⟩ := I.tuple t.sq
    have hlen : us.toArray.size = vs.length := by rw [List.size_toArray, r.length]
    refine ⟨"tuple", _, PyProof.Rows.slot_tuple_getitem.lookup, tu.typeIs, ?_⟩
    by_cases hw : HT.sIx vs.length 0 lo = 0 ∧ HT.sIx vs.length vs.length hi = vs.length
    · refine L2.getItem_tuple_whole tu hs pl pu (by rw [hlen]; exact hw) ⟨.ref a, H, I, rfl, g.at rH ?_⟩
      have : cutD xs lo hi = xs := by
        unfold cutD
        rw [e3.length, hw.1, hw.2]
        simp [← e3.length]
      rw [this]
      exact qx
    · refine HT.getItem_tuple_cut tu hs pl pu (by rw [hlen]; exact hw) ?_ (by rw [hlen]; exact hz)
      rw [hlen]
      have cr := cut_rel e3 lo hi
      refine newTup (ys := cutV vs lo hi) I ?_ (Nat.le_trans (cutV_length vs lo hi) hz) s.toks fun p np o no => g.tup rH cr np no
      exact (r.drop _).take _
  | ref n =>
    cases el : lstOf h (.ref n) with
    | none => simp only [dSlice, el] at e; cases e
    | some xs => exact lst xs el e
  | rl ys => exact lst ys rfl e
  | _ => cases e
variable {e : Expr} {m : EM} {lo hi : Option Expr} {ml mh : OM} {pos p2 : Pos}
def oS (K : PySem.W.Frag) (mg : Str → Option Value) (m : OM) : TO := fun σ H Q => ∃ ρ env h o h', RelE K mg ρ H env σ ∧ RelH K mg ρ h H ∧ m env h = some (o, h') ∧ ∀ ρ' H', Step K ρ H ρ' H' → RelH K mg ρ' h' H' → Q o H'
abbrev OV (X : Cx) (e : Option Expr) (m : OM) : Prop := PO X e (oS X.K X.mg m)
theorem POi {e : Option Expr} {t t' : TO} (h : PO X e t) (i : ∀ σ H Q, t' σ H Q → t σ H Q) : PO X e t' := ⟨fun pins s σ H Q I q => h.run pins s σ H Q I (i _ _ _ q)⟩
theorem ov_none : OV X none oNone := POi po_none fun σ H Q ⟨ρ, env, h, o, h', rE, rH, em, g⟩ => by
  cases em
  exact g ρ H .refl rH
theorem ov_some (he : EV X e m) : OV X (some e) (oSome m) := POi (po_some he) fun σ H Q ⟨ρ, env, h, o, h', rE, rH, em, g⟩ => by
  unfold oSome at em
  obtain ⟨⟨x, h1⟩, e1, em⟩ := Option.bind_eq_some_iff.mp em
  refine ⟨ρ, env, h, x, h1, rE, rH, e1, fun ρ1 v H1 s1 r1 q1 => ?_⟩
  cases x with
  | int i =>
    cases em
    unfold RelD at q1; subst q1
    exact ⟨i, rfl, g ρ1 H1 s1 r1⟩
  | _ => cases em
theorem ev_slice (he : EV X e m) (hl : OV X lo ml) (hh : OV X hi mh) : EV X (.Subscript e (.Slice lo hi none p2) pos) (mSlice m ml mh) := by
  refine PEi (pe_slice sl_V he hl hh) fun σ H Q ⟨ρ, env, h, d, h', rE, rH, em, g⟩ => ?_
  unfold mSlice at em
  obtain ⟨⟨x, h1⟩, e1, em⟩ := Option.bind_eq_some_iff.mp em
  obtain ⟨⟨l, h2⟩, e2, em⟩ := Option.bind_eq_some_iff.mp em
  obtain ⟨⟨u, h3⟩, e3, em⟩ := Option.bind_eq_some_iff.mp em
  refine ⟨ρ, env, h, x, h1, rE, rH, e1, fun ρ1 v H1 s1 r1 q1 => ?_⟩
  refine ⟨ρ1, env, h1, l, h2, rE.mono s1, r1, e2, fun ρ2 H2 s2 r2 => ?_⟩
  refine ⟨ρ2, env, h2, u, h3, (rE.mono s1).mono s2, r2, e3, fun ρ3 H3 s3 r3 => ?_⟩
  exact ⟨ρ3, h3, x, d, h', r3, (q1.mono s2).mono s3, em, g.mono ((s1.trans s2).trans s3)⟩
end

/-! ### methods of lists and tuples; ranges as values -/
def intsOf : List D → Option (List Int)
  | [] => some []
  | .int i :: r => (intsOf r).map (i :: ·)
  | _ => none
def dAppend (o x : D) (h : VH) : Option (D × VH) := match o with
  | .ref n => match h[n]? with
    | some (.lst xs) => if okLen (xs.length + 1) = true then some (.non, h.set n (.lst (xs ++ [x]))) else none
    | _ => none
  | _ => none
def dIndex (o x : D) (h : VH) : Option (D × VH) := match x with
  | .int k => match tupOf o with
    | some xs => match o with
      | .tup _ => (intsOf xs).bind fun ns => if k ∈ ns then some (.int (ns.idxOf k), h) else none
      | _ => none
    | none => none
  | _ => none
section
variable {K : PySem.W.Frag} {mg : Str → Option Value} {ρ : List Addr} {H : Hp}
theorem intsOf_ok : ∀ {ds : List D} {vs : List V} {ns : List Int}, RelDs K mg ρ H ds vs → intsOf ds = some ns → vs = ns.map V.int
  | [], _, ns, r, e => by
    cases e
    unfold RelDs at r; exact r
  | d :: ds, _, ns, r, e => by
    unfold RelDs at r
    obtain ⟨v, vs, rfl, r1, r2⟩ := r
    cases d with
    | int i =>
      simp only [intsOf, Option.map_eq_some_iff] at e
      obtain ⟨ms, e1, rfl⟩ := e
      unfold RelD at r1; subst r1
      rw [intsOf_ok r2 e1]; rfl
    | _ => cases e
end
section
variable {X : Cx} {o e : Expr} {mo me : EM} {apos pos : Pos}
/-- o.append(e) -/
def mAppend (mo me : EM) : EM := fun env h => (mo env h).bind fun p => (lstOf p.2 p.1).bind fun _ => (me env p.2).bind fun q => dAppend p.1 q.1 q.2
theorem ev_append (ho : EV X o mo) (he : EV X e me) (hbase : attributeBase o "append" X.env (eval o X.env) = eval o X.env := by rfl)
    (hfew : ((backTo pos (starEach [e] X.env)).all (fun x => !x.1) && (backToKw pos (keywordEach [] X.env)).all (fun x => x.1.isSome) && decide ([e].length + ([] : List Keyword).length + (if ([] : List Keyword).isEmpty then 0 else 1) < 30)) = true := by rfl)
    (hline : (apos.endLine == pos.line) = true := by rfl) (hs : starEach [e] X.env = (false, eval e X.env) :: starEach [] X.env := by rfl) (hplain : (backTo pos (starEach [] X.env)).any (·.1) = false := by rfl) :
    EV X (.Call (.Attribute o "append" apos) [e] [] pos) (mAppend mo me) := by
  refine PEi (pe_bm PySem.F.plainAttrs_list PySem.F.slot_list_append PySem.F.type_list_append mt_append ho (pa_cons he pa_nil hs) hbase hfew hline hs hplain) fun σ H Q ⟨ρ, env, h, d, h', rE, rH, em, g⟩ => ?_
  unfold mAppend at em
  obtain ⟨⟨x, h1⟩, e1, em⟩ := Option.bind_eq_some_iff.mp em
  obtain ⟨zs, ez, em⟩ := Option.bind_eq_some_iff.mp em
  obtain ⟨⟨y, h2⟩, e2, em⟩ := Option.bind_eq_some_iff.mp em
  cases x with
  | ref n =>
    simp only [dAppend] at em
    split at em
    · rename_i xs hx
      split at em
      · rename_i hz
        cases em
        refine ⟨ρ, env, h, _, h1, rE, rH, e1, fun ρ1 v H1 s1 r1 q1 => ?_⟩
        obtain ⟨a0, vs0, ev0, sq0, _⟩ := lstOf_ok r1 q1 ez
        unfold RelD at q1
        obtain ⟨a, ea, rfl⟩ := q1
        cases ev0
        refine ⟨.inl ⟨rfl, _, sq0⟩, ρ1, env, h1, y, h2, rE.mono s1, r1, e2, fun ρ2 w H2 s2 r2 q2 => ?_⟩
        obtain ⟨a', vs, ea', hl, hv⟩ := r2.lst hx
        have e0 := s2.at ea
        rw [e0] at ea'
        obtain rfl := Option.some.inj ea'
        have wr := (r2.obj _ _ _ hx e0).wr
        have st := Step.write (K := X.K) (u := .lst (vs ++ [w])) e0 wr
        refine ⟨_, vs, w, rfl, rfl, hl, by rw [← hv.length]; have := okLen_ok hz; omega, ?_⟩
        exact g ρ2 _ _ ((s1.trans s2).trans st) (r2.write hx e0 ⟨vs ++ [w], upd_same, (hv.append (.cons q2 .nil)).mono st⟩) rfl
      · cases em
    · cases em
  | _ => cases em
/-- t.index(k), t a tuple of ints -/
theorem index_rule {pins : List (Addr × Obj)} {s : Shared} {σ : L2.St} {H : Hp} {Q : VK} {a : Addr} {ns : List Int} {k : Int} {u : Value} (I : Inv X pins σ H s) (t : TupAt X.K H a (ns.map V.int)) (ru : L2.RelV (.int k) u) (hk : k ∈ ns) (q : Q (.int (ns.idxOf k : Nat)) H) :
    wpAny (model X.prog X.w) X.A (call (.builtin "tuple.index") [.ref a, u]) (EP X pins σ Q) X.xe s := by
  obtain ⟨us, r, tu, _⟩ := I.tuple t.sq
  obtain ⟨tk, rfl⟩ := ru
  have ia := intsAre_of r
  refine PySem.SeqAt.call_tuple_index (ks := ns) (k := k) (show s.heap.IsTuple a us.toArray from tu) ⟨by rw [← r.length]; simp, fun j h1 h2 => ?_⟩ hk ⟨.int _, H, I.tok _, ⟨_, rfl⟩, q⟩
  obtain ⟨w, hw, tw, ew⟩ := r.get (i := j) (x := .int ns[j]) (by simp [h2])
  have e2 : us[j] = w := by
    have := (List.getElem?_eq_some_iff.mp hw).2
    exact this
  rw [e2, ew]
  have z := SeqAt.EqAt.int_int (A := X.A.in1) (s := s) ns[j] tw k tk
  rw [Bool.beq_eq_decide_eq] at z
  exact z
theorem ev_index (ho : EV X o mo) (he : EV X e me) (hbase : attributeBase o "index" X.env (eval o X.env) = eval o X.env := by rfl)
    (hfew : ((backTo pos (starEach [e] X.env)).all (fun x => !x.1) && (backToKw pos (keywordEach [] X.env)).all (fun x => x.1.isSome) && decide ([e].length + ([] : List Keyword).length + (if ([] : List Keyword).isEmpty then 0 else 1) < 30)) = true := by rfl)
    (hline : (apos.endLine == pos.line) = true := by rfl) (hs : starEach [e] X.env = (false, eval e X.env) :: starEach [] X.env := by rfl) (hplain : (backTo pos (starEach [] X.env)).any (·.1) = false := by rfl) :
    EV X (.Call (.Attribute o "index" apos) [e] [] pos) (mBin dIndex mo me) := by
  refine ⟨fun pins s σ H Q I ⟨ρ, env, h, d, h', rE, rH, em, g⟩ => ?_⟩
  unfold mBin at em
  obtain ⟨⟨x, h1⟩, e1, em⟩ := Option.bind_eq_some_iff.mp em
  obtain ⟨⟨y, h2⟩, e2, em⟩ := Option.bind_eq_some_iff.mp em
  cases y with
  | int k =>
    cases x with
    | tup xs =>
      simp only [dIndex, tupOf] at em
      obtain ⟨ns, e3, em⟩ := Option.bind_eq_some_iff.mp em
      split at em
      · rename_i hk
        cases em
        refine wpAny_Call_method_late hbase hfew hline rfl (thn (ho.run pins s σ H (fun v H1 => ∃ ρ1 a, v = .ref a ∧ Step X.K ρ H ρ1 H1 ∧ RelH X.K X.mg ρ1 h1 H1 ∧ TupAt X.K H1 a (ns.map V.int)) I
          ⟨ρ, env, h, _, h1, rE, rH, e1, fun ρ1 v H1 s1 r1 q1 => ?_⟩) fun v s1 ⟨x, H1, I1, rv, ρ1, a, ex, st1, r1, ta⟩ => ?_)
        · unfold RelD at q1
          obtain ⟨a, vs, rfl, h3, h4⟩ := q1
          obtain rfl := intsOf_ok h4 e3
          exact ⟨ρ1, a, rfl, s1, r1, h3⟩
        · subst ex
          cases rv
          have nod : ∀ b, Value.ref a = .ref b → ∃ ob, s1.heap.get? b = some ob ∧ ob.dict = none := fun b eb => by
            cases eb
            rcases ta with ⟨o, z, zd⟩ | ⟨o, its, n, z, _, zd, _⟩
            · obtain ⟨z1, _⟩ := I1.hok a _ z
              exact ⟨o, z1, zd⟩
            · exact ⟨o, I1.kIn a o z, zd⟩
          obtain ⟨us, _, tu, _⟩ := I1.tuple ta.sq
          refine ⟨"tuple", _, PySem.F.plainAttrs_tuple, PySem.F.slot_tuple_index, PySem.F.type_tuple_index, tu.typeIs, nod, ?_⟩
          have run := (av_cons he av_nil hs).run pos pins s1 σ H1 (fun vs H2 => vs = [.int k] ∧ TupAt X.K H2 a (ns.map V.int) ∧ Q (.int (ns.idxOf k : Nat)) H2) I1
            ⟨ρ1, env, h1, [.int k], _, rE.mono st1, r1, (by
              show ((me env h1).bind fun p => (mNil env p.2).bind fun q => some (p.1 :: q.1, q.2)) = _
              rw [show me env h1 = _ from e2]
              rfl), fun ρ2 vs H2 s2 r2 q2 => ?_⟩
          · rw [hs] at run ⊢
            refine Calls.callWith_builtin (by show (false || (backTo pos (starEach [] X.env)).any (·.1)) = false; rw [hplain]; rfl) (Calls.evalArgs_plain (thn run ?_))
            rintro us2 s2 ⟨vs, H2, I2, rs, rfl, ta2, q⟩
            obtain ⟨u, rfl, ru⟩ := vals1 rs
            exact index_rule I2 ta2 ru hk q
          · obtain ⟨w, rfl, q3⟩ := relDs1 q2
            unfold RelD at q3; subst q3
            exact ⟨rfl, ta.imp (fun ⟨o, z, zd⟩ => ⟨o, s2.frz _ _ _ z, zd⟩) id, g ρ2 _ H2 (st1.trans s2) r2 rfl⟩
      · cases em
    | _ => simp [dIndex, tupOf] at em
  | _ => cases em
end
end Vm
namespace Vm
open PySem PySem.Spec PyProof.Rows L2

/-! ### enumerate over a tuple -/
theorem meets_enumT {x : Value} {ob : Obj} {Hp0 : Heap → Prop} (B : Begins x ob Hp0) :
    Meets (Builtin.«enumerate.__new__» ⟨[.type "enumerate", x], []⟩) (fun _ R s => Hp0 s.heap ∧
      R (.ok (.ret (.ref (s.heap.push ob).objs.size))) { s with heap := (s.heap.push ob).push { cls := .type "enumerate", data := .fields #[.none, .bool false, .ref s.heap.objs.size, rawInt 0, .none, .none] } }) := by
  refine .of_wp fun prog w A R s h => ?_
  obtain ⟨hp, gs, dr, tk, oss⟩ := s
  obtain ⟨hx, h⟩ := h
  have subE := sub_enumerate
  have itr : ∀ {A1 : Around} {E : Value → Shared → Prop} {Q : Value → Shared → Prop}, Q (.ref hp.objs.size) ⟨hp.push ob, gs, dr, tk, oss⟩ → wpAny (model prog w) A1 (pyIter x) Q E ⟨hp, gs, dr, tk, oss⟩ := fun q => B.iter prog w _ _ ⟨hp, gs, dr, tk, oss⟩ _ hx q
  wp_walk using itr
  refine wpAny_stack_any fun st => wpAny_pure ?_
  split
  · rename_i cc _ _ _ _ _
    by_cases z : (cc == Value.type "enumerate") = true
    · rw [z]; wp_walk using itr
      exact ⟨_, rfl, h⟩
    · rw [Bool.eq_false_iff.mpr z]; wp_walk using itr
      exact ⟨_, rfl, h⟩
  · wp_walk using itr
    exact ⟨_, rfl, h⟩
section
variable {prog : Program} {w : World} {A : Around} {E : Value → Shared → Prop} {s : Shared}
theorem call_enumT {t : Addr} {items : Array Value} {Q : Value → Shared → Prop} (ht : s.heap.IsTuple t items)
    (h : ∀ h1, IsEnum h1 (s.heap.objs.size + 1) s.heap.objs.size 0 .none → h1.IsTupleIter s.heap.objs.size t 0 → h1.objs.size = s.heap.objs.size + 2 → (∀ b o, s.heap.get? b = some o → h1.get? b = some o) → Q (.ref (s.heap.objs.size + 1)) { s with heap := h1 }) :
    wpAny (model prog w) A (call (.type "enumerate") [.ref t]) Q E s := by
  refine callType_new F.called_enumerate (by decide) (F.typeCall_enumerate_1 _) (F.newCall_enumerate_1 _) (fun obj => F.args_object_init_2 obj _) F.entry_enumerate_new (meets_enumT (begins_tuple t items)) ⟨ht, ?_⟩
  generalize hob : ({ cls := .type "tuple_iterator", data := .fields #[.ref t, .int 0 0] } : Obj) = ob
  have fr : ob.isFreed = false := by rw [← hob]; rfl
  have sz : (s.heap.push ob).objs.size = s.heap.objs.size + 1 := Heap.size_push ..
  have en : IsEnum ((s.heap.push ob).push { cls := .type "enumerate", data := .fields #[.none, .bool false, .ref s.heap.objs.size, rawInt 0, .none, .none] }) (s.heap.objs.size + 1) s.heap.objs.size 0 .none := by
    have q := Heap.get?_push_size (s.heap.push ob) (o := { cls := .type "enumerate", data := .fields #[.none, .bool false, .ref s.heap.objs.size, rawInt 0, .none, .none] }) rfl
    rw [sz] at q
    exact q
  show _ ∧ _
  rw [sz]
  refine ⟨⟨_, en, rfl⟩, h _ en ⟨ob, Heap.get?_push_of_some _ (Heap.get?_push_size _ fr), by rw [← hob], by rw [← hob]; rfl⟩ ?_ fun b o q => Heap.get?_push_of_some _ (Heap.get?_push_of_some _ q)⟩
  rw [Heap.size_push, sz]
theorem drawsT (hh : A.handled = none) (it t : Addr) (hne : t ≠ it) (items : Array Value) : Draws prog w A it [it, t] items.size (fun i v => items[i]? = some v) fun i h => h.IsTupleIter it t i ∧ h.IsTuple t items where
  live := fun _ _ st => ⟨_, st.1.choose_spec.1⟩
  frame := fun _ _ _ st kp => ⟨st.1.at fun o q => kp it (by simp) o q, st.2.at fun o q => kp t (by simp) o q⟩
  item := fun i s Q E lt st k => RZ.nextOf_tuple_item st.1 st.2 (x := items[i]) (by simp [lt]) fun h1 it1 sb => k _ h1 s.toks (by simp [lt]) ⟨it1, st.2.at fun o q => (sb.2 t hne).trans q⟩ sb
  done := fun s Q E st k => RZ.nextOf_tuple_end hh st.1 st.2 (by simp) k
end
/-- the tuple at a, each item in a new pair -/
def ItE (K : PySem.W.Frag) (a : Addr) : It :=
  ⟨fun i H => ∃ (xs : List V) (x : V), SqT K H a xs ∧ xs[i]? = some x, fun i H v H' => ∃ T x, v = .ref T ∧ H T = none ∧ H' = upd H T (.tup [.int (i : Nat), x]) ∧ ∀ xs, SqT K H a xs → xs[i]? = some x, fun i H => ∃ xs : List V, SqT K H a xs ∧ xs.length = i⟩
theorem turn_enumT {P : Program} {w : World} {K : PySem.W.Frag} {elts : List Expr} {kk : Nat} {tpos : Pos} {a e it : Addr} (hei : e ≠ it) (hai : a ≠ it) (hae : a ≠ e) :
    Turn P w K (.Tuple elts kk tpos) (ItE K a) [e, it] e (fun i h => (∃ old, IsEnum h e it ((i : Nat) : Int) old) ∧ h.IsTupleIter it a i) where
  mem := by simp
  obj := fun i h st b hb => by
    obtain ⟨⟨old, he⟩, ⟨o, ho, hc, hd⟩⟩ := st
    rcases (show b = e ∨ b = it by simpa using hb) with z | z
    · rw [z]; exact ⟨_, he, fun v q => nomatch q⟩
    · rw [z]; exact ⟨o, ho, fun v q => by rw [hd] at q; cases q⟩
  keep := fun i h h' st k => ⟨⟨st.1.choose, k e (by simp) _ st.1.choose_spec⟩, st.2.at fun o q => k it (by simp) o q⟩
  item := by
    intro X hP hw hK hc i pins s σ H E I hf st hg
    subst hP hw hK
    obtain ⟨⟨old, he⟩, hit⟩ := st
    obtain ⟨xs, x, hq, hx⟩ := hg
    obtain ⟨its, rv, p, hz⟩ := I.tuple hq
    obtain ⟨u, hu, ru⟩ := rv.get hx
    have hel : e < s.heap.objs.size := Heap.lt_size he
    have hil : it < s.heap.objs.size := Heap.lt_size hit.choose_spec.1
    have lt : i < its.toArray.size := by
      have := (List.getElem?_eq_some_iff.mp hu).1
      simpa using this
    have hef : e ∉ [it, a] := by
      intro q
      rcases (show e = it ∨ e = a by simpa using q) with z | z
      · exact hei z
      · exact hae z.symm
    refine wpAny_pyNext_enum_itemD (drawsT (A := X.A.in1) (show X.A.in1.handled = none from I.ok.hd hc) it a hai its.toArray) he ⟨hit, p⟩ lt hei hef fun y h' tk hP ho hs' hT hsz hk => ?_
    obtain rfl : y = u := by
      have := hP.symm.trans (by simpa using hu)
      exact Option.some.inj this
    refine ⟨_, rfl, wpAny_letOwnedTupleGo_enum (s := { s with heap := h', toks := tk + 1 }) ho fun h'' he' sb => ?_⟩
    have hT2 : h''.get? s.heap.objs.size = some { cls := .type "tuple", data := .seq #[.int i tk, y] } := (sb.2 _ (Nat.ne_of_gt hel)).trans hT
    have new : ObjOk X.prog X.w (upd H s.heap.objs.size (.tup [.int (i : Nat), x])) h'' s.heap.objs.size (.tup [.int (i : Nat), x]) :=
      ⟨by show 2 ≤ sizeLine; decide, [.int i tk, y], .cons ⟨_, rfl⟩ (.cons ru .nil), ⟨_, hT2, rfl, _, rfl⟩⟩
    have I1 : Inv X pins σ (upd H s.heap.objs.size (.tup [.int (i : Nat), x])) { s with heap := h'', toks := tk + 1 } :=
      I.turnedNew (ch := [e, it]) (fun b ob hb q => (sb.2 b (fun z => hb (by simp [z]))).trans (hk b ob (fun z => hb (by simp [z])) (fun z => hb (by simp [z])) q)) hf (Nat.le_refl _) new
    refine ⟨.ref s.heap.objs.size, _, I1, rfl, ⟨_, x, rfl, I.hok.fresh (Nat.le_refl _), rfl, fun ys hy => by rw [I.tuple_inj hy hq]; exact hx⟩, ⟨⟨y, ?_⟩, hs'.1.at fun o q => (sb.2 it (Ne.symm hei)).trans q⟩, fun b hb => ?_⟩
    · have e1 : ((i + 1 : Nat) : Int) = (i : Int) + 1 := by omega
      rw [e1]; exact he'
    · have lt : b < s.heap.objs.size := by
        rcases (show b = e ∨ b = it by simpa using hb) with z | z
        · rw [z]; exact hel
        · rw [z]; exact hil
      rw [upd_ne (Nat.ne_of_lt lt)]
      exact (hf b hb).1
  done := by
    intro X hP hw hK hc i pins s σ H E I hf st hg
    subst hP hw hK
    obtain ⟨⟨old, he⟩, hit⟩ := st
    obtain ⟨xs, hq, hx⟩ := hg
    obtain ⟨its, rv, p, hz⟩ := I.tuple hq
    obtain ⟨f0, f1, f2, f3, f4, f5⟩ := hf it (by simp)
    have hl : its.toArray.size = i := by rw [List.size_toArray, ← rv.length]; exact hx
    subst hl
    exact wpAny_pyNext_enum_endD (drawsT (A := X.A.in1) (show X.A.in1.handled = none from I.ok.hd hc) it a hai its.toArray) he ⟨hit, p⟩ fun h' eb => ⟨rfl, I.turned (t' := s.toks) (fun b o hb q => eb b o hb q) f0 f1 f3 f4 f5⟩
  self := fun A i s Q E st h => wpAny_pyIter_enum st.1.choose_spec h
def iEnT (K : PySem.W.Frag) (ta : TA) : TI := fun σ H R => ta σ H fun vs H1 => ∃ a xs, vs = [.ref a] ∧ SqT K H1 a xs ∧ R (ItE K a) H1
theorem pi_enT {X : Cx} {e : Expr} {ta : TA} {p pos tpos : Pos} {elts : List Expr} {kk : Nat} (hg : Gl X "enumerate") (hm : X.mg "enumerate" = none) (ha : PA X [e] ta) (hs : starEach [e] X.env = [(false, eval e X.env)] := by rfl) :
    PI X (.Tuple elts kk tpos) (.Call (.Name "enumerate" p) [e] [] pos) (iEnT X.K ta) := by
  refine ⟨fun pins s σ H R I h => ?_⟩
  refine Call_ (ld_blt I hg hm boot_enumerate (PyProof.Rows.callWith_type1 (thn (ha.run pos pins s σ H _ I h) fun us s1 ⟨vs, H1, I1, r1, q1⟩ => ?_) hs rfl))
  obtain ⟨a, xs, rfl, hq, q⟩ := q1
  obtain ⟨u, rfl, r⟩ := vals1 r1
  cases r
  obtain ⟨its, rv, tu, hz⟩ := I1.tuple hq
  have ha : a < s1.heap.objs.size := Heap.lt_size tu.choose_spec.1
  refine call_enumT (show s1.heap.IsTuple a its.toArray from tu) fun h1 en it1 sz kp => wpAny_pyIter_enum en ?_
  have I2 : Inv X pins σ H1 { s1 with heap := h1 } := I1.kept (t' := s1.toks) kp
  refine ⟨s1.heap.objs.size + 1, [s1.heap.objs.size + 1, s1.heap.objs.size], _, ItE X.K a, H1, rfl, I2, turn_enumT (Nat.succ_ne_self _) (Nat.ne_of_lt ha) (Nat.ne_of_lt (Nat.lt_succ_of_lt ha)), ⟨⟨.none, en⟩, it1⟩, fun b hb => ?_, q⟩
  have le : s1.heap.objs.size ≤ b := by
    rcases (show b = s1.heap.objs.size + 1 ∨ b = s1.heap.objs.size by simpa using hb) with z | z
    · rw [z]; exact Nat.le_add_right _ _
    · rw [z]; exact Nat.le_refl _
  exact I1.fpOk le (I1.hok.fresh le)
section
variable {X : Cx}
theorem new_pair {K : PySem.W.Frag} {mg : Str → Option Value} {ρ : List Addr} {H : Hp} {h : VH} {x y : D} {v w : V} {T : Addr} (r : RelH K mg ρ h H) (q : RelD K mg ρ H x v) (q' : RelD K mg ρ H y w) (hT : H T = none) :
    Step K ρ H ρ (upd H T (.tup [v, w])) ∧ RelH K mg ρ h (upd H T (.tup [v, w])) ∧ RelD K mg ρ (upd H T (.tup [v, w])) (.wt [x, y]) (.ref T) := by
  have s := Step.untold (K := K) (ρ := ρ) (u := .tup [v, w]) hT
  refine ⟨s, r.untold hT, ?_⟩
  unfold RelD
  exact ⟨T, _, rfl, .inl (.inl upd_same), .cons (q.mono s) (.cons (q'.mono s) .nil)⟩
def imEnumT (a : AM) : IM := fun env h => (a env h).bind fun p => match p.1 with
  | [.tup xs] => some ((enumP 0 xs, []), p.2)
  | _ => none
theorem iv_enumT {e : Expr} {mas : AM} {p pos tpos : Pos} {elts : List Expr} {kk : Nat} (ha : AV X [e] mas) (hm : X.mg "enumerate" = none) (hg : Gl X "enumerate" := by rfl) (hs : starEach [e] X.env = [(false, eval e X.env)] := by rfl) :
    IV X (.Tuple elts kk tpos) (.Call (.Name "enumerate" p) [e] [] pos) (imEnumT mas) := by
  refine PIi (pi_enT hg hm ha hs) fun σ H R ⟨ρ, env, h, xs, cs, h', rE, rH, em, g⟩ => ?_
  unfold imEnumT at em
  obtain ⟨⟨ds, h1⟩, e1, em⟩ := Option.bind_eq_some_iff.mp em
  split at em
  · rename_i ys hy
    cases em
    cases hy
    refine ⟨ρ, env, h, _, _, rE, rH, e1, fun ρ1 vs H1 s1 r1 q1 => ?_⟩
    obtain ⟨v, rfl, q⟩ := relDs1 q1
    unfold RelD at q
    obtain ⟨a, vs, rfl, h1, h2⟩ := q
    refine ⟨a, vs, rfl, h1.sq, g _ ρ1 H1 s1 r1 ⟨fun i x ρ2 h2' H2 ex s2 r2 c2 => ?_, fun ρ2 h2' H2 s2 r2 c2 => ?_⟩⟩
    · obtain ⟨y, ey, rfl⟩ := enumP_get ex
      obtain ⟨v, ev, q⟩ := h2.get ey
      refine ⟨⟨vs, v, s2.tup _ _ h1.sq, ev⟩, fun w H3 z => ?_⟩
      obtain ⟨T, v', rfl, hT, rfl, z⟩ := z
      rw [Nat.zero_add]
      exact new_pair r2 (by unfold RelD; rfl) ((h2.mono s2).eqs ey (z vs (s2.tup _ _ h1.sq))) hT
    · exact ⟨vs, s2.tup _ _ h1.sq, by rw [enumP_len, h2.length]⟩
  · cases em

/-! ### zip of two tuples -/
def zipP : List D → List D → List D
  | x :: xs, y :: ys => .wt [x, y] :: zipP xs ys
  | _, _ => []
theorem zipP_get : ∀ {xs ys : List D} {i : Nat} {z : D}, (zipP xs ys)[i]? = some z → ∃ x y, xs[i]? = some x ∧ ys[i]? = some y ∧ z = .wt [x, y]
  | [], _, _, _, e => by simp [zipP] at e
  | x :: xs, [], _, _, e => by simp [zipP] at e
  | x :: xs, y :: ys, 0, z, e => by
    simp [zipP] at e
    exact ⟨x, y, rfl, rfl, e.symm⟩
  | x :: xs, y :: ys, i + 1, z, e => by
    simp [zipP] at e
    obtain ⟨a, b, e1, e2, e3⟩ := zipP_get e
    exact ⟨a, b, by simpa using e1, by simpa using e2, e3⟩
theorem zipP_len : ∀ (xs ys : List D), xs.length ≤ (zipP xs ys).length ∨ ys.length ≤ (zipP xs ys).length
  | [], _ => .inl (Nat.zero_le _)
  | x :: xs, [] => .inr (Nat.zero_le _)
  | x :: xs, y :: ys => (zipP_len xs ys).imp (fun h => by simp [zipP]; exact h) (fun h => by simp [zipP]; exact h)
def imZipT (a : AM) : IM := fun env h => (a env h).bind fun p => match p.1 with
  | [.tup xs, .tup ys] => some ((zipP xs ys, []), p.2)
  | _ => none
theorem iv_zipT {e e2 : Expr} {mas : AM} {p pos tpos : Pos} {elts : List Expr} {kk : Nat} (ha : AV X [e, e2] mas) (hm : X.mg "zip" = none) (hg : Gl X "zip" := by rfl)
    (hs : starEach [e, e2] X.env = (false, eval e X.env) :: starEach [e2] X.env := by rfl) (hpl : (backTo pos (starEach [e2] X.env)).any (·.1) = false := by rfl) : IV X (.Tuple elts kk tpos) (.Call (.Name "zip" p) [e, e2] [] pos) (imZipT mas) := by
  refine PIi (RZ.pi_zipA hg hm ha hs hpl) fun σ H R ⟨ρ, env, h, xs, cs, h', rE, rH, em, g⟩ => ?_
  unfold imZipT at em
  obtain ⟨⟨ds, h1⟩, e1, em⟩ := Option.bind_eq_some_iff.mp em
  split at em
  · rename_i ys zs hy
    cases em
    cases hy
    refine ⟨ρ, env, h, _, _, rE, rH, e1, fun ρ1 vs H1 s1 r1 q1 => ?_⟩
    obtain ⟨v, w, rfl, q, q'⟩ := relDs2 q1
    unfold RelD at q q'
    obtain ⟨a, vs, rfl, h1, h2⟩ := q
    obtain ⟨b, ws, rfl, h3, h4⟩ := q'
    refine ⟨a, b, vs, ws, rfl, .inr ⟨h1.sq, h3.sq, g _ ρ1 H1 s1 r1 ⟨fun i x ρ2 h2' H2 ex s2 r2 c2 => ?_, fun ρ2 h2' H2 s2 r2 c2 => ?_⟩⟩⟩
    · obtain ⟨y, z, ey, ez, rfl⟩ := zipP_get ex
      obtain ⟨v, ev, q⟩ := h2.get ey
      obtain ⟨w, ew, q'⟩ := h4.get ez
      refine ⟨⟨vs, ws, v, w, s2.tup _ _ h1.sq, s2.tup _ _ h3.sq, ev, ew⟩, fun u H3 t => ?_⟩
      obtain ⟨T, v', w', rfl, hT, rfl, t1, t2⟩ := t
      exact new_pair r2 ((h2.mono s2).eqs ey (t1 vs (s2.tup _ _ h1.sq))) ((h4.mono s2).eqs ez (t2 ws (s2.tup _ _ h3.sq))) hT
    · refine ⟨vs, ws, s2.tup _ _ h1.sq, s2.tup _ _ h3.sq, ?_⟩
      rw [← h2.length, ← h4.length]
      exact zipP_len _ _
  · cases em
end
end Vm
namespace Vm
open PySem PySem.Spec PyProof.Rows L2

/-! ### names of the module, of built-in types -/
section
variable {X : Cx}
theorem ev_glob {x : Str} {v : V} {u : Value} {d : D} {pos : Pos} (hm : X.mg x = some u) (rv : RelV v u) (hr : ∀ ρ H, RelD X.K X.mg ρ H d v) (hg : Gl X x := by rfl) (hd : (x == ("__debug__" : Str)) = false := by decide) : EV X (.Name x pos) (mC d) :=
  ev_of (pe_glob hg hm rv hd) hr
theorem ev_fn {x : String} {f : Addr} {pos : Pos} (hm : X.mg (Str.ofString x) = some (.ref f)) (hg : Gl X (Str.ofString x) := by rfl) (hd : (Str.ofString x == ("__debug__" : Str)) = false := by decide) : EV X (.Name (Str.ofString x) pos) (mC (.fn x)) :=
  ev_of (v := .ref f) (pe_glob hg hm rfl hd) fun ρ H => by unfold RelD; exact ⟨f, hm, rfl⟩
theorem ev_tyN {x : Str} {T : String} {pos : Pos} (hm : X.mg x = none) (hv : bootBuiltins x = some (.type T)) (hg : Gl X x := by rfl) (hn : x ≠ "__name__" := by decide) (hd : (x == ("__debug__" : Str)) = false := by decide) : EV X (.Name x pos) (mC (.ty T)) :=
  ev_of (v := .ty T) (pe_bltn hg hm hv rfl hn hd) fun ρ H => by unfold RelD; rfl

/-! ### isinstance -/
def tag (h : VH) : D → Option Nat
  | .non => some 0
  | .bl _ => some 1
  | .int _ => some 2
  | .str _ => some 3
  | .tup _ => some 4
  | .wt _ => some 4
  | .ref n => match h[n]? with
    | some (.lst _) => some 5
    | some (.dK _) => some 6
    | _ => none
  | _ => none
def tagNm : Nat → String
  | 0 => "NoneType" | 1 => "bool" | 2 => "int" | 3 => "str" | 4 => "tuple" | 5 => "list" | _ => "dict"
def tagT (n : String) : Option Nat := if n = "bool" then some 1 else if n = "int" then some 2 else if n = "str" then some 3 else if n = "tuple" then some 4 else if n = "list" then some 5 else if n = "dict" then some 6 else none
def dIsI : List D → VH → Option (D × VH)
  | [d, .ty t], h => (tag h d).bind fun a => (tagT t).bind fun b => some (.bl (a == b || (a == 1 && b == 2)), h)
  | _, _ => none
theorem tag_kit : ∀ a b : Nat, a < 7 → b < 7 → b ≠ 0 → kitB (tagNm a) (tagNm b) = some (a == b || (a == 1 && b == 2)) := by
  intro a b ha hb h0
  have all : ∀ (a b : Fin 7), b ≠ 0 → kitB (tagNm a) (tagNm b) = some (a.val == b.val || (a.val == 1 && b.val == 2)) := by decide +kernel
  exact all ⟨a, ha⟩ ⟨b, hb⟩ (fun e => h0 (by simpa using congrArg Fin.val e))
theorem tagT_nm {t : String} {b : Nat} (h : tagT t = some b) : t = tagNm b ∧ b < 7 ∧ b ≠ 0 := by
  unfold tagT at h
  repeat' split at h
  all_goals (first | (cases h; rename_i z; exact ⟨z, by decide, by decide⟩) | (cases h))
section
variable {K : PySem.W.Frag} {mg : Str → Option Value} {ρ : List Addr} {H : Hp} {h : VH}
theorem sqT_tyX {a : Addr} {vs : List V} (t : SqT K H a vs) : TyX K H (.ref a) (.type "tuple") := by
  rcases t with (t | ⟨o, t⟩) | ⟨o, its, n, h1, h2, h3, h4, h5⟩
  · exact .base (.tup t)
  · exact .fTuple t
  · exact .kTuple h1 h2
theorem tag_ok {d : D} {v : V} {a : Nat} (r : RelH K mg ρ h H) (q : RelD K mg ρ H d v) (e : tag h d = some a) : TyX K H v (.type (tagNm a)) ∧ a < 7 := by
  cases d with
  | non => cases e; unfold RelD at q; subst q; exact ⟨.base .non, by decide⟩
  | bl b => cases e; unfold RelD at q; subst q; exact ⟨.base (.bl b), by decide⟩
  | int b => cases e; unfold RelD at q; subst q; exact ⟨.base (.int b), by decide⟩
  | str b => cases e; unfold RelD at q; subst q; exact ⟨.base (.str b), by decide⟩
  | tup xs =>
    cases e; unfold RelD at q
    obtain ⟨p, vs, rfl, h1, h2⟩ := q
    exact ⟨sqT_tyX h1.sq, by decide⟩
  | wt xs =>
    cases e; unfold RelD at q
    obtain ⟨p, vs, rfl, h1, h2⟩ := q
    exact ⟨sqT_tyX h1, by decide⟩
  | ref n =>
    simp only [tag] at e
    unfold RelD at q
    obtain ⟨p, ep, rfl⟩ := q
    split at e
    · rename_i xs hx
      cases e
      obtain ⟨p', vs, e1, e2, e3⟩ := r.lst hx
      rw [ep] at e1; cases e1
      exact ⟨.base (.lst e2), by decide⟩
    · rename_i xs hx
      cases e
      obtain ⟨p', e1, ws, e2, e3⟩ := r.there hx
      rw [ep] at e1; cases e1
      exact ⟨.base (.dK e2), by decide⟩
    · cases e
  | _ => cases e
end
theorem call_isiV : CallV X (.builtin "isinstance") dIsI := by
  intro pins s σ H xs us Q I r ⟨ρ, h, ds, d, h', rH, q, e, g⟩
  unfold dIsI at e
  split at e
  · rename_i d0 t
    obtain ⟨a, e1, e⟩ := Option.bind_eq_some_iff.mp e
    obtain ⟨b, e2, e⟩ := Option.bind_eq_some_iff.mp e
    cases e
    obtain ⟨v, w, rfl, q1, q2⟩ := relDs2 q
    unfold RelD at q2; subst q2
    obtain ⟨ty, ha⟩ := tag_ok rH q1 e1
    obtain ⟨rfl, hb, hb0⟩ := tagT_nm e2
    exact call_isi pins s σ H _ us Q I r ⟨v, .ty (tagNm b), .type (tagNm a), .type (tagNm b), _, rfl, .ty _, ty, kit_ty (tag_kit a b ha hb hb0), g.bl rH⟩
  · cases e

/-! ### x in y -/
def dIn : D → D → VH → Option (D × VH) := fun x y h => match py h deep x, py h deep y with
  | some a, some (.tuple bs) => if (SeqAt.shaped a && SeqAt.shaped (.tuple bs)) = true then some (.bl (bs.any fun b => PyData.eqv b a), h) else none
  | some a, some (.list bs) => if (SeqAt.shaped a && SeqAt.shaped (.list bs)) = true then some (.bl (bs.any fun b => PyData.eqv b a), h) else none
  | _, _ => none
theorem op_inV (hu : X.A.units + 65 < cLine) : OpV X (compareOp .In) dIn := by
  intro pins s σ H x y v u Q I rx ry ⟨ρ, h, dx, dy, d, h', rH, qx, qy, e, g⟩
  unfold dIn at e
  split at e
  · rename_i a bs ea eb
    split at e
    · rename_i hz
      cases e
      rw [Bool.and_eq_true] at hz
      obtain ⟨as1, r1⟩ := Dp.reads I a x v (py_ok rH qx ea) rx
      obtain ⟨bs1, r2⟩ := Dp.reads I (.tuple bs) y u (py_ok rH qy eb) ry
      exact SeqAt.in_tuple_reads r2 r1 (SeqAt.canLay_of_shaped hz.2) (SeqAt.canLay_of_shaped hz.1) (room_in_shaped hz.1 hu) ⟨.bl _, H, I, rfl, g.bl rH⟩
    · cases e
  · rename_i a bs ea eb
    split at e
    · rename_i hz
      cases e
      rw [Bool.and_eq_true] at hz
      exact op_inD hu pins s σ H x y v u Q I rx ry ⟨a, bs, py_ok rH qx ea, py_ok rH qy eb, hz.1, hz.2, g.bl rH⟩
    · cases e
  · cases e
def dNotIn : D → D → VH → Option (D × VH) := fun x y h => match py h deep x, py h deep y with
  | some a, some (.tuple bs) => if (SeqAt.shaped a && SeqAt.shaped (.tuple bs)) = true then some (.bl (!bs.any fun b => PyData.eqv b a), h) else none
  | some a, some (.list bs) => if (SeqAt.shaped a && SeqAt.shaped (.list bs)) = true then some (.bl (!bs.any fun b => PyData.eqv b a), h) else none
  | _, _ => none
theorem op_notInV (hu : X.A.units + 65 < cLine) : OpV X (compareOp .NotIn) dNotIn := by
  intro pins s σ H x y v u Q I rx ry ⟨ρ, h, dx, dy, d, h', rH, qx, qy, e, g⟩
  unfold dNotIn at e
  split at e
  · rename_i a bs ea eb
    split at e
    · rename_i hz
      cases e
      rw [Bool.and_eq_true] at hz
      obtain ⟨as1, r1⟩ := Dp.reads I a x v (py_ok rH qx ea) rx
      obtain ⟨bs1, r2⟩ := Dp.reads I (.tuple bs) y u (py_ok rH qy eb) ry
      exact SeqAt.notIn_tuple_reads r2 r1 (SeqAt.canLay_of_shaped hz.2) (SeqAt.canLay_of_shaped hz.1) (room_in_shaped hz.1 hu) ⟨.bl _, H, I, rfl, g.bl rH⟩
    · cases e
  · rename_i a bs ea eb
    split at e
    · rename_i hz
      cases e
      rw [Bool.and_eq_true] at hz
      exact op_notInD hu pins s σ H x y v u Q I rx ry ⟨a, bs, py_ok rH qx ea, py_ok rH qy eb, hz.1, hz.2, g.bl rH⟩
    · cases e
  · cases e

/-! ### tuple(range(..)), list(range(..)) -/
abbrev RM := En → VH → Option ((Int × Int) × VH)
def mRg1 (a : EM) : RM := fun env h => (a env h).bind fun p => match p.1 with | .int j => some ((0, j), p.2) | _ => none
def mRg2 (a b : EM) : RM := fun env h => (a env h).bind fun p => (b env p.2).bind fun q => match p.1, q.1 with | .int i, .int j => some ((i, j), q.2) | _, _ => none
def rS_ (K : PySem.W.Frag) (mg : Str → Option Value) (m : RM) : L2.St → Hp → (Int → Int → Hp → Prop) → Prop := fun σ H Q => ∃ ρ env h a b h', RelE K mg ρ H env σ ∧ RelH K mg ρ h H ∧ m env h = some ((a, b), h') ∧ ∀ ρ' H', Step K ρ H ρ' H' → RelH K mg ρ' h' H' → Q a b H'
abbrev RV (X : Cx) (e : Expr) (m : RM) : Prop := PRg X e (rS_ X.K X.mg m)
variable {a b e : Expr} {ma mb : EM} {mr : RM} {p pos : Pos}
theorem rv_1 (ha : EV X a ma) (hm : X.mg "range" = none) (hg : Gl X "range" := by rfl) (na : starEach [a] X.env = (false, eval a X.env) :: starEach [] X.env := by rfl) : RV X (.Call (.Name "range" p) [a] [] pos) (mRg1 ma) := by
  intro pins s σ H Q I ⟨ρ, env, h, i, j, h', rE, rH, em, g⟩
  unfold mRg1 at em
  obtain ⟨⟨x, h1⟩, e1, em⟩ := Option.bind_eq_some_iff.mp em
  refine prg_1 hg hm ha na pins s σ H Q I ⟨ρ, env, h, x, h1, rE, rH, e1, fun ρ1 v H1 s1 r1 q1 => ?_⟩
  cases x with
  | int k =>
    cases em
    unfold RelD at q1; subst q1
    exact ⟨_, rfl, g ρ1 H1 s1 r1⟩
  | _ => cases em
theorem rv_2 (ha : EV X a ma) (hb : EV X b mb) (hm : X.mg "range" = none) (hg : Gl X "range" := by rfl) (na : starEach [a, b] X.env = (false, eval a X.env) :: starEach [b] X.env := by rfl) (nb : starEach [b] X.env = (false, eval b X.env) :: starEach [] X.env := by rfl)
    (hp : (backTo pos (starEach [b] X.env)).any (·.1) = false := by rfl) : RV X (.Call (.Name "range" p) [a, b] [] pos) (mRg2 ma mb) := by
  intro pins s σ H Q I ⟨ρ, env, h, i, j, h', rE, rH, em, g⟩
  unfold mRg2 at em
  obtain ⟨⟨x, h1⟩, e1, em⟩ := Option.bind_eq_some_iff.mp em
  obtain ⟨⟨y, h2⟩, e2, em⟩ := Option.bind_eq_some_iff.mp em
  refine prg_2 hg hm ha hb na nb hp pins s σ H Q I ⟨ρ, env, h, x, h1, rE, rH, e1, fun ρ1 v H1 s1 r1 q1 => ?_⟩
  refine ⟨ρ1, env, h1, y, h2, rE.mono s1, r1, e2, fun ρ2 w H2 s2 r2 q2 => ?_⟩
  cases x with
  | int k =>
    cases y with
    | int l =>
      cases em
      unfold RelD at q1 q2; subst q1 q2
      exact ⟨_, _, rfl, rfl, g ρ2 H2 (s1.trans s2) r2⟩
    | _ => cases em
  | _ => cases em
theorem rng_rel {K : PySem.W.Frag} {mg : Str → Option Value} {ρ : List Addr} {H : Hp} (lo hi : Int) : RelDs K mg ρ H (rng lo (hi - lo).toNat) (rgV lo hi) := by
  unfold rng rgV
  generalize (hi - lo).toNat = n
  have gen : ∀ l : List Nat, RelDs K mg ρ H (l.map fun (i : Nat) => D.int (lo + (i : Int))) (l.map fun i => V.int (lo + (i : Nat))) := by
    intro l
    induction l with
    | nil => exact .nil
    | cons x xs ih => exact .cons (by unfold RelD; rfl) ih
  exact gen _
def rgSm (i j : Int) : Bool := decide (-1000000 ≤ i) && decide (i ≤ 1000000) && decide (-1000000 ≤ j) && decide (j ≤ 1000000)
theorem rgSm_ok {i j : Int} (h : rgSm i j = true) : RgOk i j := by
  unfold rgSm at h
  simp only [Bool.and_eq_true, decide_eq_true_eq] at h
  exact ⟨by omega, by omega, by omega, by omega, by omega⟩
def mTupR (m : RM) : EM := fun env h => (m env h).bind fun p => if rgSm p.1.1 p.1.2 = true then some (.tup (rng p.1.1 (p.1.2 - p.1.1).toNat), p.2) else none
def mLstR (m : RM) : EM := fun env h => (m env h).bind fun p => if rgSm p.1.1 p.1.2 = true then some (.ref p.2.length, p.2 ++ [.lst (rng p.1.1 (p.1.2 - p.1.1).toNat)]) else none
theorem ev_lstR (he : RV X e mr) (hm : X.mg "list" = none) (hc : X.calm = true := by rfl) (hg : Gl X "list" := by rfl) (na : starEach [e] X.env = (false, eval e X.env) :: starEach [] X.env := by rfl) : EV X (.Call (.Name "list" p) [e] [] pos) (mLstR mr) := by
  refine PEi (pe_listRg hc hg hm he na) fun σ H Q ⟨ρ, env, h, d, h', rE, rH, em, g⟩ => ?_
  unfold mLstR at em
  obtain ⟨⟨⟨i, j⟩, h1⟩, e1, em⟩ := Option.bind_eq_some_iff.mp em
  split at em
  · rename_i hz
    cases em
    exact ⟨ρ, env, h, i, j, h1, rE, rH, e1, fun ρ1 H1 s1 r1 => ⟨rgSm_ok hz, fun q hq => (g.mono s1).lst r1 (rng_rel i j) hq⟩⟩
  · cases em
theorem ev_tupR (he : RV X e mr) (hm : X.mg "tuple" = none) (hc : X.calm = true := by rfl) (hg : Gl X "tuple" := by rfl) (na : starEach [e] X.env = (false, eval e X.env) :: starEach [] X.env := by rfl) : EV X (.Call (.Name "tuple" p) [e] [] pos) (mTupR mr) := by
  refine ⟨fun pins s σ H Q I ⟨ρ, env, h, d, h', rE, rH, em, g⟩ => ?_⟩
  unfold mTupR at em
  obtain ⟨⟨⟨i, j⟩, h1⟩, e1, em⟩ := Option.bind_eq_some_iff.mp em
  split at em
  · rename_i hz
    cases em
    refine Call_ (ld_blt I hg hm boot_tuple (PyProof.Rows.callWith_type1 (args_cons (thn (he pins s σ H (fun x y H1 => x = i ∧ y = j ∧ ∃ ρ1, Step X.K ρ H ρ1 H1 ∧ RelH X.K X.mg ρ1 h1 H1) I ⟨ρ, env, h, i, j, h1, rE, rH, e1, fun ρ1 H1 s1 r1 => ⟨rfl, rfl, ρ1, s1, r1⟩⟩) fun x s1 ⟨r, x1, y1, t, u, v, H1, ex, hr, I1, q⟩ => args_nil ?_) na) na))
    subst ex
    obtain ⟨rfl, rfl, ρ1, st1, r1⟩ := q
    obtain ⟨b1, b2, b3, b4, b5⟩ := rgSm_ok hz
    refine call_tuple_range (n := (y1 - x1).toNat) (I1.ok.hd hc) hr (small_one b1 b2 b3 b4) (rangeSize_nat x1 y1) b5 fun hp tk acc hk hi => ?_
    have I2 : Inv X pins σ H1 { s1 with heap := hp, toks := tk } := I1.kept hk
    have nt := newTup (s := { s1 with heap := hp, toks := tk }) (Q := Q) I2 (vals_rg hi) (by rw [rgV_length, sizeLine_eq]; omega) tk fun p np o no => (g.mono st1).tup r1 (rng_rel x1 y1) np no
    rw [Array.toArray_toList] at nt
    exact nt
  · cases em
end
end Vm
namespace Vm
open PySem PySem.Spec PyProof.Rows L2

/-! ### t * n -/
theorem tuple_mul0 (l : Addr) (n : Nat) (dd : Option Addr) (sl : Array (Option Value)) (x : Int) (u : Tok) (c0 : (decide (x < -(2 ^ 63)) || decide (x ≥ 2 ^ 63)) = false) :
    Meets (Builtin.«tuple.__mul__» ⟨[.ref l, .int x u], []⟩) (fun _ R s => s.heap.get? l = some { cls := .type "tuple", dict := dd, data := .seq #[] n, slots := sl } ∧ R (.ok (.ret (Value.ref l))) s) := by
  refine .of_wp fun prog w A R s h => ?_
  obtain ⟨hp, gs, dr, tk, oss⟩ := s
  obtain ⟨hl, h⟩ := h
  have idx := AutoSeq1.idx_int
  wp_walk using AutoSeq1.wpAny_loadPart' hl
  refine wpAny_ite_false (decide_eq_false (by rw [c0]; exact Bool.false_ne_true)) ?_
  wp_walk using AutoSeq1.wpAny_loadPart' hl
  exact ⟨_, rfl, h⟩
/-- t * n -/
def dMulT : D → D → VH → Option (D × VH)
  | .int i, .int j, h => dMul (.int i) (.int j) h
  | .tup [], .int k, h => if (decide (2 ≤ k) && decide (k ≤ 1000)) = true then some (.tup [], h) else none
  | .tup (x :: xs), .int k, h => if (decide (2 ≤ k) && decide (k ≤ 1000) && decide ((x :: xs).length ≤ 1000)) = true then some (.tup (List.replicate k.toNat (x :: xs)).flatten, h) else none
  | _, _, _ => none
section
variable {X : Cx}
theorem op_mulT : OpV X (binaryOp .Mult) dMulT := by
  intro pins s σ H x y v u Q I rx ry ⟨ρ, h, dx, dy, d, h', rH, qx, qy, e, g⟩
  unfold dMulT at e
  split at e
  · exact op_mulV pins s σ H x y v u Q I rx ry ⟨ρ, h, _, _, d, h', rH, qx, qy, e, g⟩
  · rename_i k
    split at e
    · rename_i hz
      simp only [Bool.and_eq_true, decide_eq_true_eq] at hz
      cases e
      have qx0 := qx
      unfold RelD at qx qy
      obtain ⟨l, xs, rfl, hT, r0⟩ := qx
      unfold RelDs at r0
      subst r0 qy
      cases rx
      obtain ⟨t, rfl⟩ := ry
      obtain ⟨its, r, ⟨⟨cls, dd, data, sl⟩, ho, hc, n, hd⟩, hs⟩ := I.tuple hT.sq
      cases r
      simp only at hc hd
      subst hc hd
      refine wpAny_binaryOp_repeat_ref (T := "tuple") (U := "int") (by decide) ⟨_, ho, rfl⟩ (fun s1 => typeIs_int s1 k t) noFill_tuple_mul F.fills_int_mul F.slot_int_rmul repeat_tuple F.slot_int_index.lookup
        (call_meets F.slot_int_rmul (typeIs_int s k t) F.entry_int_rmul (F.args_int_rmul_2 _ _) (int_rmul_tuple k t l #[] n dd sl)
          ⟨ho, rfl, ⟨_, ho, rfl⟩, call_meets F.slot_tuple_mul ⟨_, ho, rfl⟩ F.entry_tuple_mul (F.args_tuple_mul_2 _ _) (tuple_mul0 l n dd sl k t ?_) ⟨ho, .ref l, H, I, rfl, g.at rH qx0⟩⟩)
      rw [decide_eq_false (by omega), decide_eq_false (by omega)]
      rfl
    · cases e
  · rename_i x0 xs0 k
    split at e
    · rename_i hz
      simp only [Bool.and_eq_true, decide_eq_true_eq] at hz
      obtain ⟨⟨h1, h2⟩, hz⟩ := hz
      cases e
      unfold RelD at qx qy
      obtain ⟨l, xs, rfl, hT, r0⟩ := qx
      subst qy
      cases rx
      obtain ⟨t, rfl⟩ := ry
      have r0l := r0.length
      rw [r0l] at hz
      obtain ⟨its, r, ⟨⟨cls, dd, data, sl⟩, ho, hc, n, hd⟩, hs⟩ := I.tuple hT.sq
      simp only at hc hd
      subst hc hd
      have len : its.length = xs.length := r.length.symm
      have hi : its.toArray.isEmpty = false := by
        cases its with
        | nil => rw [← len] at r0l; simp at r0l
        | cons a b => rfl
      have sz : its.toArray.size = xs.length := by rw [List.size_toArray, len]
      have prod : ((its.toArray.size : Nat) : Int) * k ≤ 1000000 := by
        rw [sz]
        have a1 : ((xs.length : Nat) : Int) * k ≤ 1000 * k := Int.mul_le_mul_of_nonneg_right (by omega) (by omega)
        omega
      have fl : ∀ ys : List Value, ys.length ≤ 1000 → (List.replicate k.toNat ys).flatten.length ≤ sizeLine := fun ys hy => by
        rw [PyProof.Rows.lm_len_rep_flat, sizeLine_eq]
        have a1 : k.toNat * ys.length ≤ 1000 * 1000 := Nat.mul_le_mul (by omega) hy
        omega
      refine wpAny_binaryOp_repeat_ref (T := "tuple") (U := "int") (by decide) ⟨_, ho, rfl⟩ (fun s1 => typeIs_int s1 k t) noFill_tuple_mul F.fills_int_mul F.slot_int_rmul repeat_tuple F.slot_int_index.lookup
        (call_meets F.slot_int_rmul (typeIs_int s k t) F.entry_int_rmul (F.args_int_rmul_2 _ _) (int_rmul_tuple k t l its.toArray n dd sl)
          ⟨ho, rfl, ⟨_, ho, rfl⟩, call_meets F.slot_tuple_mul ⟨_, ho, rfl⟩ F.entry_tuple_mul (F.args_tuple_mul_2 _ _) (tuple_mulW l its.toArray n dd sl k t ?_ ?_ ?_ (by omega) ?_ ?_) ⟨ho, ?_⟩⟩)
      · rw [decide_eq_false (by omega), decide_eq_false (by omega)]
        rfl
      · rw [hi, Bool.false_or]
        exact beq_eq_false_iff_ne.mpr (by omega)
      · rw [hi, Bool.or_false]
        exact decide_eq_false (by omega)
      · unfold Builtin.Tuple.tupleTooMany
        rw [sizeLine_eq]
        exact decide_eq_false (by omega)
      · rw [size_rep, List.size_toArray]; exact fl its (by omega)
      · rw [size_rep]
        refine newTup (ys := (List.replicate k.toNat xs).flatten) I (r.rep k.toNat) ?_ s.toks fun p np o no => g.tup rH (r0.rep k.toNat) np no
        have q := (r.rep k.toNat).length
        rw [q]
        exact fl its (by omega)
    · cases e
  · cases e

/-! ### t[::-1] -/
theorem adj_rev (n : Nat) : Builtin.Slice.sliceAdjust none none (-1) (n : Int) = ((n : Int) - 1, -1) := by
  unfold Builtin.Slice.sliceAdjust
  have h1 : (-1 : Int) < 0 := by omega
  simp only [h1, if_true]
theorem plc_rev (n : Nat) : Builtin.Slice.slicePlaces ((n : Int) - 1) (-1) (-1) = n := by
  unfold Builtin.Slice.slicePlaces
  have h1 : ¬ ((-1 : Int) > 0) := by omega
  have h2 : -(-1 : Int) = 1 := by omega
  simp only [h1, if_false, h2, Int.ediv_one]
  split <;> omega
theorem pick_rev (xs : Array Value) : ((List.range xs.size).filterMap fun (m : Nat) => xs[((xs.size : Int) - 1 + (m : Int) * (-1)).toNat]?).toArray = xs.toList.reverse.toArray := by
  congr 1
  have e : (fun (m : Nat) => xs[((xs.size : Int) - 1 + (m : Int) * (-1)).toNat]?) = (fun k => xs[k]?) ∘ (fun m => xs.size - 1 - m) := by
    funext m
    have i1 : ((xs.size : Int) - 1 + (m : Int) * (-1)).toNat = xs.size - 1 - m := by omega
    show xs[((xs.size : Int) - 1 + (m : Int) * (-1)).toNat]? = xs[xs.size - 1 - m]?
    rw [i1]
  rw [e, ← List.filterMap_map, PySem.W.krv_range, List.filterMap_reverse, PySem.W.krv_all]
theorem applied_rev {prog : Program} {w : World} {A : Around} {E : Value → Shared → Prop} {s : Shared} {sl : Addr} {vs : Value} {n : Nat} {Q : Int × Int × Nat → Shared → Prop} (hs : s.heap.IsSliceOf sl .none .none vs) (ps : IsPart vs (some (-1)))
    (h : Q ((n : Int) - 1, -1, n) s) : wpAny (model prog w) A (Builtin.Slice.sliceApplied (.ref sl) (pure (n : Int))) Q E s := by
  obtain ⟨os, hos, hcs, hds⟩ := id hs
  unfold Builtin.Slice.sliceApplied Builtin.Slice.sliceFields
  refine wpAny_bind (wpAny_bind (wpAny_field hos hds (x := .none) rfl (wpAny_bind (wpAny_field hos hds (x := .none) rfl (wpAny_bind (wpAny_field hos hds (x := vs) rfl (wpAny_pure ?_)))))))
  refine wpAny_bind (HT.slicePart_ ps ?_)
  show wpAny _ _ (if ((-1 : Int) == 0) = true then _ else _) _ _ s
  rw [if_neg (by decide)]
  refine wpAny_bind (HT.slicePart_ .none (wpAny_bind (HT.slicePart_ .none (wpAny_bind (wpAny_pure ?_)))))
  show wpAny _ _ (match Builtin.Slice.sliceAdjust none none (-1) (n : Int) with | (lo, hi) => pure (lo, (-1 : Int), Builtin.Slice.slicePlaces lo hi (-1))) _ _ s
  rw [adj_rev n]
  show wpAny _ _ (pure ((n : Int) - 1, (-1 : Int), Builtin.Slice.slicePlaces ((n : Int) - 1) (-1) (-1))) _ _ s
  rw [plc_rev]
  exact wpAny_pure h
theorem getItem_rev {prog : Program} {w : World} {A : Around} {E : Value → Shared → Prop} {s : Shared} {t sl : Addr} {its : Array Value} {vs : Value} {Q : Value → Shared → Prop} (ht : IsTup s.heap t its) (hs : s.heap.IsSliceOf sl .none .none vs) (ps : IsPart vs (some (-1)))
    (h : Q (.ref s.heap.objs.size) { s with heap := s.heap.push { cls := .type "tuple", data := .seq its.toList.reverse.toArray } }) (hz : its.size ≤ sizeLine) : wpAny (model prog w) A (getItem (.ref t) (.ref sl)) Q E s := by
  have fits : sizeOk (.seq its.toList.reverse.toArray) := by
    show its.toList.reverse.toArray.size ≤ sizeLine
    rw [List.size_toArray, List.length_reverse, Array.length_toList]
    exact hz
  obtain ⟨os, hos, hcs, hds⟩ := id hs
  have ty : s.TypeIs (.ref sl) "slice" := ⟨os, hos, hcs⟩
  unfold getItem
  try with_reducible refine wpAny_holding ?_
  first | refine wpAny_bind (wpAny_pure ?_) | skip
  refine wpAny_bind (wpAny_sequenceKey ht.typeIs (by decide) ?_)
  refine wpAny_bind (wpAny_callSpecial?_slot (name := Str.ofString "__getitem__") ht.typeIs PyProof.Rows.slot_tuple_getitem (wpAny_call_entry PyProof.Rows.slot_tuple_getitem ht.typeIs entry_tuple_getitem ?_ (args_tuple_getitem _ _)))
  show wpAny _ _ (Builtin.Tuple.tupleItemsOf (.ref t) >>= _) _ _ s
  refine wpAny_bind (tupleItemsOf_ ht ?_)
  refine wpAny_bind (wpAny_typeOf ty ?_)
  rw [if_pos (by decide)]
  refine wpAny_bind (applied_rev hs ps ?_)
  have no : ¬ ((((its.size : Int) - 1) == 0 && (-1 : Int) == 1 && its.size == its.size) = true) := by
    intro q
    rw [Bool.and_eq_true, Bool.and_eq_true] at q
    exact absurd q.1.2 (by decide)
  show wpAny _ _ (if (((its.size : Int) - 1) == 0 && (-1 : Int) == 1 && its.size == its.size) = true then _ else _) _ _ s
  rw [if_neg no, pick_rev]
  first
    | exact wpAny_bind (m := Builtin.Tuple.tupleExact _) (wpAny_newObj_type (wpAny_pure ⟨_, rfl, wpAny_pure h⟩) fits)
    | exact wpAny_bind (m := Builtin.Tuple.tupleExact _) (wpAny_newObj_type (wpAny_bind (wpAny_pure (wpAny_pure ⟨_, rfl, wpAny_pure h⟩))) fits)
    | exact wpAny_bind (wpAny_bind (m := Builtin.Tuple.tupleExact _) (wpAny_newObj_type (wpAny_pure (wpAny_pure ⟨_, rfl, wpAny_pure h⟩)) fits))
    | exact wpAny_bind (wpAny_bind (m := Builtin.Tuple.tupleExact _) (wpAny_newObj_type (wpAny_pure ⟨_, rfl, wpAny_pure h⟩) fits))
theorem RelDs.rev {K : PySem.W.Frag} {mg : Str → Option Value} {ρ : List Addr} {H : Hp} : ∀ {ds : List D} {vs : List V}, RelDs K mg ρ H ds vs → RelDs K mg ρ H ds.reverse vs.reverse
  | [], _, r => by unfold RelDs at r; subst r; exact .nil
  | d :: ds, _, r => by
    unfold RelDs at r
    obtain ⟨v, vs, rfl, r1, r2⟩ := r
    rw [List.reverse_cons, List.reverse_cons]
    exact (RelDs.rev r2).append (.cons r1 .nil)
def mRevT (m : EM) : EM := fun env h => (m env h).bind fun p => match p.1 with | .tup xs => some (.tup xs.reverse, p.2) | _ => none
theorem ev_revT {e : Expr} {m : EM} {k : Nat} {p1 p2 p3 pos : Pos} (he : EV X e m) : EV X (.Subscript e (.Slice none none (some (.UnaryOp .USub (.Constant (.int 1) k p1) p2)) p3) pos) (mRevT m) := by
  refine ⟨fun pins s σ H Q I ⟨ρ, env, h, d, h', rE, rH, em, g⟩ => ?_⟩
  unfold mRevT at em
  obtain ⟨⟨x, h1⟩, e1, em⟩ := Option.bind_eq_some_iff.mp em
  cases x with
  | tup xs =>
    cases em
    refine Subscript_ (thn (he.run pins s σ H (fun v H1 => ∃ ρ1, Step X.K ρ H ρ1 H1 ∧ RelH X.K X.mg ρ1 h1 H1 ∧ RelD X.K X.mg ρ1 H1 (.tup xs) v) I ⟨ρ, env, h, _, h1, rE, rH, e1, fun ρ1 v H1 s1 r1 q1 => ⟨ρ1, s1, r1, q1⟩⟩) fun v s1 ⟨x, H1, I1, rv, ρ1, st1, rH1, q1⟩ => ?_)
    unfold RelD at q1
    obtain ⟨a, vs, rfl, hT, rs⟩ := q1
    cases rv
    have hst : PO X (some (.UnaryOp .USub (.Constant (.int 1) k p1) p2)) (tPart (tUn (rU fun i => .int (-i)) (tC (.int 1)))) := po_some (pe_un un_neg pe_int)
    refine wpAny_Slice (thn (po_none.run pins s1 σ H1 (fun o H2 => o = none ∧ H2 = H1) I1 ⟨rfl, rfl⟩) fun vl s2 ⟨l, H2, I2, pl, el, e2⟩ => ?_)
    subst el e2
    refine thn (po_none.run pins s2 σ H2 (fun o H3 => o = none ∧ H3 = H2) I2 ⟨rfl, rfl⟩) fun vu s3 ⟨u, H3, I3, pu, eu, e3⟩ => ?_
    subst eu e3
    refine thn (hst.run pins s3 σ H3 (fun o H4 => o = some (-1) ∧ H4 = H3) I3 ⟨1, rfl, -1, rfl, rfl, rfl⟩) fun vp s4 ⟨o, H4, I4, ps, eo, e4⟩ => ?_
    subst eo e4
    cases pl
    cases pu
    have I5 : Inv X pins σ H4 { s4 with heap := s4.heap.push { cls := .type "slice", data := .fields #[.none, .none, vp] } } := I4.kept (t' := s4.toks) fun b ob q => Heap.get?_push_of_some _ q
    obtain ⟨its, r, ht, hz⟩ := I5.tuple hT.sq
    have len := r.length
    show wpAny (model X.prog X.w) X.A (subscriptTail e (.Slice none none (some (.UnaryOp .USub (.Constant (.int 1) k p1) p2)) p3) (.ref a) (.ref s4.heap.objs.size)) (EP X pins σ Q) X.xe { s4 with heap := s4.heap.push { cls := .type "slice", data := .fields #[.none, .none, vp] } }
    refine tail_any (ops := [.ref a, .ref s4.heap.objs.size]) ht.typeIs PyProof.Rows.slot_tuple_getitem.lookup ?_ (by with_unfolding_all rfl)
    refine getItem_rev ht (Heap.IsSliceOf.new _ .none .none vp) ps ?_ (by rw [List.size_toArray]; omega)
    exact newTup (ys := vs.reverse) I5 r.reverse (by rw [List.length_reverse]; omega) s4.toks fun p np o no => (g.mono st1).tup rH1 rs.rev np no
  | _ => cases em

/-! ### dict displays, the keys texts -/
structure DV (X : Cx) (pos : Pos) (keys : List (Option Expr)) (values : List Expr) (ks : List Str) (m : AM) : Prop where
  ex : ∃ trs, PPs X pos keys values trs ∧ ∀ σ H Q, (∃ ρ env h ds h', RelE X.K X.mg ρ H env σ ∧ RelH X.K X.mg ρ h H ∧ m env h = some (ds, h') ∧ ∀ ρ' vs H', Step X.K ρ H ρ' H' → RelH X.K X.mg ρ' h' H' → RelDs X.K X.mg ρ' H' ds vs → vs.length = ks.length → Q ((ks.map V.str).zip vs) H') → tPairs trs σ H Q
  len : ∀ env h ds h', m env h = some (ds, h') → ds.length = ks.length
theorem dv_nil {pos : Pos} : DV X pos [] [] [] mNil :=
  ⟨⟨[], pps_nil, fun σ H Q ⟨ρ, env, h, ds, h', rE, rH, em, g⟩ => by
    cases em
    exact g ρ [] H .refl rH .nil rfl⟩, fun _ _ _ _ e => len_nil e⟩
theorem dv_cons {pos p : Pos} {j : Nat} {k : Str} {v : Expr} {keys : List (Option Expr)} {values : List Expr} {ks : List Str} {mv : EM} {m : AM} (hv : EV X v mv) (hr : DV X pos keys values ks m) : DV X pos (some (.Constant (.str k) j p) :: keys) (v :: values) (k :: ks) (mCons mv m) := by
  obtain ⟨trs, hp, hq⟩ := hr.ex
  refine ⟨⟨_, pps_cons (ev_str (X := X) (i := k) (j := j) (pos := p)) hv hp, fun σ H Q ⟨ρ, env, h, ds, h', rE, rH, em, g⟩ => ?_⟩, len_cons hr.len⟩
  unfold mCons at em
  obtain ⟨⟨x, h1⟩, e1, em⟩ := Option.bind_eq_some_iff.mp em
  obtain ⟨⟨xs, h2⟩, e2, em⟩ := Option.bind_eq_some_iff.mp em
  cases em
  refine ⟨ρ, env, h, _, h, rE, rH, rfl, fun ρ0 v0 H0 s0 r0 q0 => ?_⟩
  unfold RelD at q0
  subst q0
  refine ⟨ρ0, env, h, x, h1, rE.mono s0, r0, e1, fun ρ1 v1 H1 s1 r1 q1 => ?_⟩
  refine hq σ H1 _ ⟨ρ1, env, h1, xs, h2, (rE.mono s0).mono s1, r1, e2, fun ρ2 vs H2 s2 r2 q2 l2 => ?_⟩
  exact g ρ2 (v1 :: vs) H2 ((s0.trans s1).trans s2) r2 (.cons (q1.mono s2) q2) (by simp [l2])
def mkD (kvs : List (Key × D)) : List (Key × D) := kvs.foldl (fun acc kv => putD acc kv.1 kv.2) []
theorem mkD_rel {K : PySem.W.Frag} {mg : Str → Option Value} {ρ : List Addr} {H : Hp} : ∀ {ks : List Str} {ds : List D} {vs : List V} {acc : List (Key × D)} {acw : List (Key × V)}, RelDs K mg ρ H ds vs → RelKV K mg ρ H acc acw →
    RelKV K mg ρ H ((ks.zip ds).foldl (fun acc kv => putD acc (.inr kv.1 : Key) kv.2) acc) ((ks.zip vs).foldl (fun acc kv => putK acc (.inr kv.1 : Key) kv.2) acw)
  | [], _, _, _, _, _, ra => by simpa using ra
  | k :: ks, [], vs, _, _, r, ra => by unfold RelDs at r; subst r; simpa using ra
  | k :: ks, d :: ds, vs, acc, acw, r, ra => by
    unfold RelDs at r
    obtain ⟨v, vs, rfl, r1, r2⟩ := r
    simp only [List.zip_cons_cons, List.foldl_cons]
    exact mkD_rel r2 (putD_ok ra r1)
/-- {k: v, ..} -/
def mDict (ks : List Str) (m : AM) : EM := fun env h => (m env h).bind fun p => some (.ref p.2.length, p.2 ++ [.dK ((ks.zip p.1).foldl (fun acc kv => putD acc (.inr kv.1 : Key) kv.2) [])])
theorem ev_dict {pos : Pos} {keys : List (Option Expr)} {values : List Expr} {ks : List Str} {m : AM} (h : DV X pos keys values ks m) (hall : keys.all (·.isSome) = true := by rfl) (hl : keys.length = values.length := by rfl) (h0 : keys ≠ [] := by exact List.cons_ne_nil _ _) (h15 : keys.length ≤ 15 := by decide) (hk : ks.length ≤ 15 := by decide) :
    EV X (.Dict keys values pos) (mDict ks m) := by
  obtain ⟨trs, hp, hq⟩ := h.ex
  refine PEi (pe_disp hp hall hl h0 h15) fun σ H Q ⟨ρ, env, h0, d, h', rE, rH, em, g⟩ p np => ?_
  unfold mDict at em
  obtain ⟨⟨xs, h1⟩, e1, em⟩ := Option.bind_eq_some_iff.mp em
  cases em
  have s0 := Step.untold (K := X.K) (ρ := ρ) (u := .dK []) np
  have pn : p ∉ ρ := rH.new_not_mem np
  refine hq σ _ _ ⟨ρ, env, h0, xs, h1, rE.mono s0, rH.untold np, e1, fun ρ1 vs H1 s1 r1 q1 l1 => ?_⟩
  obtain ⟨z1, z2⟩ := s1.frm p _ upd_same pn
  refine ⟨z1, (ks.map Sum.inr).zip vs, ?_, ?_, ?_⟩
  · have gen : ∀ (ks : List Str) (vs : List V), (ks.map V.str).zip vs = ((ks.map (Sum.inr : Str → Key)).zip vs).map fun kv => (kV kv.1, kv.2) := by
      intro ks
      induction ks with
      | nil => intro vs; simp
      | cons k ks ih =>
        intro vs
        cases vs with
        | nil => simp
        | cons v vs => simp [ih vs, kV]
    exact gen ks vs
  · rw [List.length_zip, List.length_map]; omega
  · have mg_ : ∀ (ks : List Str) (vs : List V) (acw : List (Key × V)), mergeK acw ((ks.map (Sum.inr : Str → Key)).zip vs) = (ks.zip vs).foldl (fun acc kv => putK acc (.inr kv.1 : Key) kv.2) acw := by
      intro ks
      induction ks with
      | nil => intro vs acw; simp [mergeK]
      | cons k ks ih =>
        intro vs acw
        cases vs with
        | nil => simp [mergeK]
        | cons v vs =>
          rw [List.zip_cons_cons, List.foldl_cons]
          exact ih vs _
    rw [mg_]
    have wr : Wr H1 p := fun u e => by
      rw [z1] at e; cases e
      exact ⟨fun _ q => (by cases q), fun _ _ q => (by cases q)⟩
    generalize hw : (ks.zip vs).foldl (fun acc kv => putK acc (.inr kv.1 : Key) kv.2) [] = ws
    have st : Step0 X.K ρ1 H1 (ρ1 ++ [p]) (upd H1 p (.dK ws)) := ⟨⟨[p], rfl⟩, fun _ _ h => sqT_upd wr h, fun _ _ _ h => frz_upd wr h⟩
    have st1 : Step0 X.K ρ1 H1 ρ1 (upd H1 p (.dK ws)) := ⟨⟨[], by simp⟩, fun _ _ h => sqT_upd wr h, fun _ _ _ h => frz_upd wr h⟩
    have r2 : RelH X.K X.mg ρ1 h1 (upd H1 p (.dK ws)) := ⟨r1.len, fun n o a f1 f2 => by
      have na : a ≠ p := fun e => z2 (by rw [← e]; exact List.mem_of_getElem? f2)
      exact (r1.obj n o a f1 f2).mono0 st1 (upd_ne na), r1.inj⟩
    refine g (ρ1 ++ [p]) (.ref p) _ ⟨?_, fun a vs hq => sqT_upd wr ((s0.trans s1).tup a vs hq), fun a o u hq => frz_upd wr ((s0.trans s1).frz a o u hq), fun a o hq hn => ?_⟩ (r2.adopt z2 ⟨ws, upd_same, ?_⟩) ?_
    · obtain ⟨m1, q1⟩ := (s0.trans s1).pre
      exact ⟨m1 ++ [p], by rw [q1, List.append_assoc]⟩
    · have na : a ≠ p := ne_of_none hq np
      obtain ⟨y1, y2⟩ := (s0.trans s1).frm a o hq hn
      exact ⟨by rw [upd_ne na]; exact y1, by simp only [List.mem_append, List.mem_singleton, not_or]; exact ⟨y2, na⟩⟩
    · have q := mkD_rel (ks := ks) (acc := []) (acw := []) (q1.mono0 st) (by unfold RelKV; rfl)
      rw [hw] at q
      exact q
    · unfold RelD
      exact ⟨p, by rw [← r1.len]; simp, rfl⟩
end
end Vm
namespace Vm
open PySem PySem.Spec PyProof.Rows L2

/-! ### x, y = a, b -/
def sPar (i j : Nat) (m : AM) : SM := fun env h => (m env h).bind fun p => match p.1 with | [x, y] => some (.nx ((env.set i (some x)).set j (some y)) p.2) | _ => none
def sPar3 (i j l : Nat) (m : AM) : SM := fun env h => (m env h).bind fun p => match p.1 with | [x, y, z] => some (.nx (((env.set i (some x)).set j (some y)).set l (some z)) p.2) | _ => none
section
variable {X : Cx}
theorem relDs3 {K : PySem.W.Frag} {mg : Str → Option Value} {ρ : List Addr} {H : Hp} {d e f : D} {vs : List V} (h : RelDs K mg ρ H [d, e, f] vs) : ∃ v w u, vs = [v, w, u] ∧ RelD K mg ρ H d v ∧ RelD K mg ρ H e w ∧ RelD K mg ρ H f u := by
  unfold RelDs at h
  obtain ⟨v, r, rfl, h1, h2⟩ := h
  obtain ⟨w, u, rfl, h3, h4⟩ := relDs2 h2
  exact ⟨v, w, u, rfl, h1, h3, h4⟩
theorem sv_par {i j : Nat} {x y : Str} {a b : Expr} {m : AM} {px py pt pos : Pos} {kt k2 : Nat} {pt2 : Pos} (hc : X.calm = true) (hN : X.N.Nodup) (ha : AV X [a, b] m) (hi : X.N[i]? = some x := by rfl) (hj : X.N[j]? = some y := by rfl) (hij : i ≠ j := by decide)
    (hx : X.env.scope.names.lookup x = some .local := by rfl) (hy : X.env.scope.names.lookup y = some .local := by rfl)
    (hw : swappedStores [.Tuple [.Name x px, .Name y py] kt pt] (.Tuple [a, b] k2 pt2) X.env = pure (some [x, y]) := by rfl)
    (hs : swapsWithSole [.Tuple [.Name x px, .Name y py] kt pt] (.Tuple [a, b] k2 pt2) pos.line X.env = pure false := by rfl) :
    SV X (.Assign [.Tuple [.Name x px, .Name y py] kt pt] (.Tuple [a, b] k2 pt2) pos) (sPar i j m) := by
  refine PSi (ps_par hc hN hi hj hij hx hy ha hw hs) fun D σ H ⟨ρ, env, h, r, rE, rH, em, g⟩ => ?_
  unfold sPar at em
  obtain ⟨⟨ds, h1⟩, e1, em⟩ := Option.bind_eq_some_iff.mp em
  refine ⟨ρ, env, h, ds, h1, rE, rH, e1, fun ρ1 vs H1 s1 r1 q1 => ?_⟩
  split at em
  · rename_i d e hd
    cases em
    cases hd
    obtain ⟨v, w, rfl, q, q'⟩ := relDs2 q1
    exact ⟨v, w, rfl, g ρ1 _ H1 s1 r1 (((rE.mono s1).set q).set q')⟩
  · cases em
theorem sv_par3 {i j l : Nat} {x y z : Str} {a b c : Expr} {m : AM} {px py pz pt pos : Pos} {kt k2 : Nat} {pt2 : Pos} (hc : X.calm = true) (hN : X.N.Nodup) (ha : AV X [a, b, c] m) (hi : X.N[i]? = some x := by rfl) (hj : X.N[j]? = some y := by rfl) (hl : X.N[l]? = some z := by rfl)
    (hij : i ≠ j := by decide) (hil : i ≠ l := by decide) (hjl : j ≠ l := by decide)
    (hx : X.env.scope.names.lookup x = some .local := by rfl) (hy : X.env.scope.names.lookup y = some .local := by rfl) (hz : X.env.scope.names.lookup z = some .local := by rfl)
    (hw : swappedStores [.Tuple [.Name x px, .Name y py, .Name z pz] kt pt] (.Tuple [a, b, c] k2 pt2) X.env = pure (some [x, y, z]) := by rfl)
    (hs : swapsWithSole [.Tuple [.Name x px, .Name y py, .Name z pz] kt pt] (.Tuple [a, b, c] k2 pt2) pos.line X.env = pure false := by rfl) :
    SV X (.Assign [.Tuple [.Name x px, .Name y py, .Name z pz] kt pt] (.Tuple [a, b, c] k2 pt2) pos) (sPar3 i j l m) := by
  refine PSi (ps_par3 hc hN hi hj hl hij hil hjl hx hy hz ha hw hs) fun D σ H ⟨ρ, env, h, r, rE, rH, em, g⟩ => ?_
  unfold sPar3 at em
  obtain ⟨⟨ds, h1⟩, e1, em⟩ := Option.bind_eq_some_iff.mp em
  refine ⟨ρ, env, h, ds, h1, rE, rH, e1, fun ρ1 vs H1 s1 r1 q1 => ?_⟩
  split at em
  · rename_i d e f hd
    cases em
    cases hd
    obtain ⟨v, w, u, rfl, q, q', q''⟩ := relDs3 q1
    exact ⟨v, w, u, rfl, g ρ1 _ H1 s1 r1 ((((rE.mono s1).set q).set q').set q'')⟩
  · cases em

/-! ### a call of a local name that holds a def -/
abbrev Tbl := String → Option (Nat × (List D → VH → Option (D × VH)))
def mCallL (i : Nat) (t : Tbl) (a : AM) : EM := fun env h => match env[i]? with
  | some (some (.fn x)) => (t x).bind fun f => (a env h).bind fun p => if p.1.length = f.1 then f.2 p.1 p.2 else none
  | _ => none
def TblOk (X : Cx) (k : Nat) (t : Tbl) : Prop := ∀ x n F, t x = some (n, F) → ∃ ps, ps.length = n ∧ DefV X.prog X.w X.K X.mg X.base (Str.ofString x) k ps F
theorem ev_callL {i k : Nat} {x : Str} {p pos : Pos} {a : Expr} {es : List Expr} {t : Tbl} {mas : AM} (ht : TblOk X k t) (hG : X.A.guards = some []) (hr : Room k X.A) (ha : AV X (a :: es) mas) (hN : X.N[i]? = some x := by rfl)
    (hv : Vis X.env.scope x := by first | exact Or.inl rfl | exact Or.inr (Or.inl rfl) | exact Or.inr (Or.inr rfl))
    (hdb : (x == ("__debug__" : Str)) = false := by decide) (hcd : (x == ("__classdict__" : Str)) = false := by decide)
    (he : starEach (a :: es) X.env = (false, eval a X.env) :: starEach es X.env := by rfl) (hpl : (backTo pos (starEach es X.env)).any (·.1) = false := by rfl) :
    EV X (.Call (.Name x p) (a :: es) [] pos) (mCallL i t mas) := by
  refine ⟨fun pins s σ H Q I ⟨ρ, env, h, d, h', rE, rH, em, g⟩ => ?_⟩
  unfold mCallL at em
  split at em
  · rename_i y hy
    obtain ⟨⟨n, F⟩, e0, em⟩ := Option.bind_eq_some_iff.mp em
    obtain ⟨⟨xs, h1⟩, e1, em⟩ := Option.bind_eq_some_iff.mp em
    split at em
    · rename_i hz
      obtain ⟨ps, hps, f, fd, hm, hk, hb, FO⟩ := ht y n F e0
      obtain ⟨v, ev, q⟩ := rE.get hy
      unfold RelD at q
      obtain ⟨f', hm', rfl⟩ := q
      rw [hm] at hm'; cases hm'
      refine wpAny_Call_Name_kw (thn ((pe_var (pos := p) hN hv hdb hcd).run pins s σ H (fun v H1 => v = .ref f ∧ H1 = H) I ⟨.ref f, ev, rfl, rfl⟩) fun u s1 ⟨v, H1, I1, r1, q1⟩ => ?_)
      obtain ⟨rfl, rfl⟩ := q1
      cases r1
      refine PySem.W.callWith_K (h₀ := X.base) I.ok.mod.kin hk (thn (ha.run pos pins s1 σ H1 _ I1 ⟨ρ, env, h, xs, h1, rE, rH, e1, fun ρ1 vs H2 s2 r2 q2 => ?_⟩) fun us s2 ⟨vs, H2, I2, r, q⟩ => ⟨I2.kIn, runG FO hG hr hb I2 r q⟩) he hpl
      exact ⟨ρ1, h1, xs, d, h', by rw [hps]; exact hz, r2, q2, em, g.mono s2⟩
    · cases em
  · cases em

/-! ### calls by names -/
def perm {α : Type} (pm : List Nat) (xs : List α) : List α := pm.filterMap fun i => xs[i]?
def mFnK (n : Nat) (pm : List Nat) (F : List D → VH → Option (D × VH)) (m : AM) : EM := fun env h => (m env h).bind fun p => if (perm pm p.1).length = n then F (perm pm p.1) p.2 else none
abbrev KV_ (X : Cx) (kws : List Keyword) (m : AM) : Prop := PK X kws (aS X.K X.mg m)
theorem PKi {kws : List Keyword} {t t' : TA} (h : PK X kws t) (i : ∀ σ H Q, t' σ H Q → t σ H Q) : PK X kws t' := ⟨fun p pins s σ H Q I q => h.run p pins s σ H Q I (i _ _ _ q)⟩
theorem kv_nil : KV_ X [] mNil := PKi pk_nil fun σ H Q ⟨ρ, env, h, ds, h', rE, rH, em, g⟩ => by
  cases em
  exact g ρ [] H .refl rH .nil
theorem kv_cons {nm : Option Str} {e : Expr} {kpos : Pos} {kws : List Keyword} {ma : EM} {mas : AM} (ha : EV X e ma) (hr : KV_ X kws mas) : KV_ X (⟨nm, e, kpos⟩ :: kws) (mCons ma mas) := by
  refine PKi (pk_cons ha hr) fun σ H Q ⟨ρ, env, h, ds, h', rE, rH, em, g⟩ => ?_
  unfold mCons at em
  obtain ⟨⟨x, h1⟩, e1, em⟩ := Option.bind_eq_some_iff.mp em
  obtain ⟨⟨xs, h2⟩, e2, em⟩ := Option.bind_eq_some_iff.mp em
  cases em
  refine ⟨ρ, env, h, x, h1, rE, rH, e1, fun ρ1 v H1 s1 r1 q1 => ?_⟩
  refine ⟨ρ1, env, h1, xs, h2, rE.mono s1, r1, e2, fun ρ2 vs H2 s2 r2 q2 => ?_⟩
  exact g ρ2 (v :: vs) H2 (s1.trans s2) r2 (.cons (q1.mono s2) q2)
/-- the def x, called by the names ks -/
structure DefK (P : Program) (w : World) (K : PySem.W.Frag) (mg : Str → Option Value) (base : Heap) (x : Str) (k : Nat) (ps ks : List Str) (pm : List Nat) (F : List D → VH → Option (D × VH)) : Prop where
  ex : ∃ f fd, mg x = some (.ref f) ∧ PySem.W.keepIn K (.ref f) = true ∧ (∀ (s : Shared) (ws : List Value), ws.length = ks.length → BindsTo s fd ⟨[], ks.zip ws⟩ (ps.zip (perm pm ws))) ∧ FnG P w K mg base k f fd ps (spS K mg ps.length F)
theorem _root_.Vm.DefS.k {P : Program} {w : World} {K : PySem.W.Frag} {mg : Str → Option Value} {base : Heap} {x : Str} {st : Stmt} {ps ks : List Str} {k : Nat} {F : List D → VH → Option (D × VH)} (pm : List Nat) (G : DefS P w K mg base x st k ps F)
    (h : ∀ (kV doc pm' : Value) (an : Option Addr) (cdv ct : Value) (ws : List Value), ws.length = ks.length → bindArgs (PySem.W.fnOf x x (defArgs st) (defBody st) (defScope st) .none kV doc pm' an cdv ct) ⟨[], ks.zip ws⟩ = pure (ps.zip (perm pm ws))) : DefK P w K mg base x k ps ks pm F := by
  obtain ⟨f, fd, a, b, G⟩ := G
  obtain ⟨oc, od, kV, doc, pm', an, cdv, ct, osl, rfl, lk, hcd⟩ := b.ex
  exact ⟨f, _, a, b.kp, fun s ws hl => .of_eq (h kV doc pm' an cdv ct ws hl), G⟩
theorem perm_rel {K : PySem.W.Frag} {mg : Str → Option Value} {ρ : List Addr} {H : Hp} {ds : List D} {vs : List V} (r : RelDs K mg ρ H ds vs) : ∀ pm : List Nat, RelDs K mg ρ H (perm pm ds) (perm pm vs)
  | [] => .nil
  | i :: pm => by
    unfold perm
    cases e : ds[i]? with
    | none =>
      have e' : vs[i]? = none := by
        rw [List.getElem?_eq_none_iff] at e ⊢
        rw [← r.length]; exact e
      rw [List.filterMap_cons_none e, List.filterMap_cons_none e']
      exact perm_rel r pm
    | some d =>
      obtain ⟨v, e', q⟩ := r.get e
      rw [List.filterMap_cons_some e, List.filterMap_cons_some e']
      exact .cons q (perm_rel r pm)
theorem perm_vals {vs : List V} {us : List Value} (r : Vals vs us) : ∀ pm : List Nat, Vals (perm pm vs) (perm pm us)
  | [] => .nil
  | i :: pm => by
    unfold perm
    cases e : vs[i]? with
    | none =>
      have e' : us[i]? = none := by
        rw [List.getElem?_eq_none_iff] at e ⊢
        rw [← r.length]; exact e
      rw [List.filterMap_cons_none e, List.filterMap_cons_none e']
      exact perm_vals r pm
    | some d =>
      obtain ⟨v, e', q⟩ := r.get e
      rw [List.filterMap_cons_some e, List.filterMap_cons_some e']
      exact .cons q (perm_vals r pm)
theorem ev_callK {x : Str} {k : Nat} {ps ks : List Str} {pm : List Nat} {F : List D → VH → Option (D × VH)} {p pos : Pos} {kws : List Keyword} {mas : AM} (G : DefK X.prog X.w X.K X.mg X.base x k ps ks pm F) (hG : X.A.guards = some []) (hr : Room k X.A) (hkw : KV_ X kws mas)
    (hl : ∀ env h ds h', mas env h = some (ds, h') → ds.length = ks.length) (hg : Gl X x := by rfl)
    (hall : (backToKw pos (keywordEach kws X.env)).all (·.1.isSome) = true := by rfl) (hks : (backToKw pos (keywordEach kws X.env)).filterMap (·.1) = ks := by rfl) (hdb : (x == ("__debug__" : Str)) = false := by decide)
    (hpl : ((backTo pos (starEach [] X.env)).any (·.1) || (backToKw pos (keywordEach kws X.env)).any (·.1.isNone)) = false := by rfl) : EV X (.Call (.Name x p) [] kws pos) (mFnK ps.length pm F mas) := by
  obtain ⟨f, fd, hm, hk, hb, FO⟩ := G.ex
  refine ⟨fun pins s σ H Q I ⟨ρ, env, h, d, h', rE, rH, em, g⟩ => wpAny_Call_Name_kw (ld_glob I hg hm ?_ hdb)⟩
  unfold mFnK at em
  obtain ⟨⟨xs, h1⟩, e1, em⟩ := Option.bind_eq_some_iff.mp em
  split at em
  · rename_i hz
    refine PySem.W.callWith_KW0 (h₀ := X.base) I.ok.mod.kin hk hall (thn (hkw.run pos pins s σ H (fun vs H1 => vs.length = ks.length ∧ spS X.K X.mg ps.length F (perm pm vs) H1 Q E0) I ⟨ρ, env, h, xs, h1, rE, rH, e1, fun ρ1 vs H1 s1 r1 q1 => ?_⟩) fun ws s1 ⟨vs, H1, I1, r, l1, q⟩ => ⟨I1.kIn, ?_⟩) hpl
    · refine ⟨by rw [← q1.length]; exact hl _ _ _ _ e1, ρ1, h1, perm pm xs, d, h', hz, r1, perm_rel q1 pm, em, g.mono s1⟩
    · rw [hks]
      have run := FO.go X.A X.stack s1 H1 ⟨[], ks.zip ws⟩ (perm pm ws) (perm pm vs) Q E0 hG hr I1.env0 (hb s1 ws (by rw [← r.length]; exact l1)) (perm_vals r pm) q
      refine wpAny_call (codeAny_mono run ?_)
      intro res s' fin
      match res, fin with
      | .ok (.ret _), fin => exact I1.after fin
      | .ok .next, fin => exact fin.elim
      | .ok .brk, fin => exact fin.elim
      | .ok .cont, fin => exact fin.elim
      | .error _, fin => exact fin.elim
  · cases em

/-! ### enumerate -/
variable {tg : Expr}
theorem iv_enum {e : Expr} {mas : AM} {p pos tpos : Pos} {elts : List Expr} {kk : Nat} (ha : AV X [e] mas) (hm : X.mg "enumerate" = none) (hg : Gl X "enumerate" := by rfl) (hs : starEach [e] X.env = [(false, eval e X.env)] := by rfl) :
    IV X (.Tuple elts kk tpos) (.Call (.Name "enumerate" p) [e] [] pos) (imEnum mas) := by
  refine PIi (PI.or (pi_enum hg hm ha hs) (pi_enT hg hm ha hs)) fun σ H R ⟨ρ, env, h, xs, cs, h', rE, rH, em, g⟩ => ?_
  unfold imEnum at em
  obtain ⟨⟨ds, h1⟩, e1, em⟩ := Option.bind_eq_some_iff.mp em
  have new : ∀ {ρ2 : List Addr} {H2 : Hp} {h2 : VH} {i : Nat} {x : D} {v : V} {T : Addr}, RelH X.K X.mg ρ2 h2 H2 → RelD X.K X.mg ρ2 H2 x v → H2 T = none →
      Step X.K ρ2 H2 ρ2 (upd H2 T (.tup [.int (i : Nat), v])) ∧ RelH X.K X.mg ρ2 h2 (upd H2 T (.tup [.int (i : Nat), v])) ∧ RelD X.K X.mg ρ2 (upd H2 T (.tup [.int (i : Nat), v])) (.wt [.int (i : Nat), x]) (.ref T) := fun {ρ2 H2 h2 i x v T} r q hT => by
    have s := Step.untold (K := X.K) (ρ := ρ2) (u := .tup [.int (i : Nat), v]) hT
    refine ⟨s, r.untold hT, ?_⟩
    unfold RelD
    exact ⟨T, _, rfl, .inl (.inl upd_same), .cons (by unfold RelD; rfl) (.cons (q.mono s) .nil)⟩
  split at em
  · rename_i ys hy
    cases em
    cases hy
    refine .inr ⟨ρ, env, h, _, _, rE, rH, e1, fun ρ1 vs H1 s1 r1 q1 => ?_⟩
    obtain ⟨v, rfl, q⟩ := relDs1 q1
    unfold RelD at q
    obtain ⟨a, vs, rfl, h1, h2⟩ := q
    refine ⟨a, vs, rfl, h1.sq, g _ ρ1 H1 s1 r1 ⟨fun i x ρ2 h2' H2 ex s2 r2 c2 => ?_, fun ρ2 h2' H2 s2 r2 c2 => ?_⟩⟩
    · obtain ⟨y, ey, rfl⟩ := enumP_get ex
      obtain ⟨v, ev, q⟩ := h2.get ey
      refine ⟨⟨vs, v, s2.tup _ _ h1.sq, ev⟩, fun w H3 z => ?_⟩
      obtain ⟨T, v', rfl, hT, rfl, z⟩ := z
      rw [Nat.zero_add]
      exact new_pair r2 (by unfold RelD; rfl) ((h2.mono s2).eqs ey (z vs (s2.tup _ _ h1.sq))) hT
    · exact ⟨vs, s2.tup _ _ h1.sq, by rw [enumP_len, h2.length]⟩
  · rename_i ys hy
    cases em
    cases hy
    refine .inl ⟨ρ, env, h, _, _, rE, rH, e1, fun ρ1 v H1 s1 r1 q1 => ?_⟩
    obtain ⟨v, rfl, q⟩ := relDs1 q1
    unfold RelD at q
    obtain ⟨a, vs, rfl, h1, h2⟩ := q
    have sq : ∀ {ρ2 : List Addr} {H2 : Hp}, Step X.K ρ1 H1 ρ2 H2 → SqL X.K H2 a vs := fun s2 => h1.elim (fun ⟨o, z⟩ => .inl (.inr ⟨o, s2.frz _ _ _ z⟩)) .inr
    refine ⟨a, vs, rfl, sq .refl, g _ ρ1 H1 s1 r1 ⟨fun i x ρ2 h2' H2 ex s2 r2 c2 => ?_, fun ρ2 h2' H2 s2 r2 c2 => ?_⟩⟩
    · obtain ⟨y, ey, rfl⟩ := enumP_get ex
      obtain ⟨v, ev, q⟩ := h2.get ey
      refine ⟨⟨vs, v, sq s2, ev⟩, fun w H3 z => ?_⟩
      obtain ⟨T, v', rfl, hT, rfl, z⟩ := z
      rw [Nat.zero_add]
      exact new r2 ((h2.mono s2).eqs ey (z vs (sq s2))) hT
    · exact ⟨vs, sq s2, by rw [enumP_len, h2.length]; exact Nat.le_refl _⟩
  · rename_i n hn
    split at em
    · rename_i ys hy
      cases em
      cases hn
      refine .inl ⟨ρ, env, h, _, _, rE, rH, e1, fun ρ1 v H1 s1 r1 q1 => ?_⟩
      obtain ⟨v, rfl, q⟩ := relDs1 q1
      unfold RelD at q
      obtain ⟨a, ea, rfl⟩ := q
      obtain ⟨a', vs, e1, e2, e3⟩ := r1.lst hy
      rw [ea] at e1; cases e1
      refine ⟨a, vs, rfl, SqL.of e2, g _ ρ1 H1 s1 r1 ⟨fun i x ρ2 h2' H2 ex s2 r2 c2 => ?_, fun ρ2 h2' H2 s2 r2 c2 => ?_⟩⟩
      · obtain ⟨a2, ws, f1, f2, f3⟩ := r2.lst (chk_one c2)
        rw [s2.at ea] at f1; cases f1
        obtain ⟨y, ey, rfl⟩ := enumP_get ex
        obtain ⟨v, ev, q⟩ := f3.get ey
        refine ⟨⟨ws, v, SqL.of f2, ev⟩, fun w H3 z => ?_⟩
        obtain ⟨T, v', rfl, hT, rfl, z⟩ := z
        rw [Nat.zero_add]
        exact new r2 (f3.eqs ey (z ws (SqL.of f2))) hT
      · obtain ⟨a2, ws, f1, f2, f3⟩ := r2.lst (chk_one c2)
        rw [s2.at ea] at f1; cases f1
        exact ⟨ws, SqL.of f2, by rw [enumP_len, f3.length]; exact Nat.le_refl _⟩
    · cases em
  · cases em

/-! ### constants, defs as values -/
def ConstAt (K : PySem.W.Frag) (mg : Str → Option Value) (x : Str) (d : D) : Prop := ∃ (v : V) (u : Value), mg x = some u ∧ RelV v u ∧ ∀ ρ H, RelD K mg ρ H d v
theorem ev_const {x : Str} {d : D} {pos : Pos} (h : ConstAt X.K X.mg x d) (hg : Gl X x := by rfl) (hd : (x == ("__debug__" : Str)) = false := by decide) : EV X (.Name x pos) (mC d) := by
  obtain ⟨v, u, hm, rv, hr⟩ := h
  exact ev_glob hm rv hr hg hd
theorem ev_def {x : String} {st : Stmt} {pos : Pos} (h : FunAt X.K X.mg (Str.ofString x) st) (hg : Gl X (Str.ofString x) := by rfl) (hd : (Str.ofString x == ("__debug__" : Str)) = false := by decide) : EV X (.Name (Str.ofString x) pos) (mC (.fn x)) := by
  obtain ⟨f, fd, hm, _⟩ := h
  exact ev_fn hm hg hd
end
end Vm
namespace Vm
open PySem PySem.Spec PyProof.Rows L2
theorem u1 {k : Nat} {A : Around} (r : Room k A) : A.units + 1 < cLine := by have := r.un; omega
theorem u64 {k : Nat} {A : Around} (r : Room k A) : A.units + 64 < cLine := by have := r.un; omega
theorem u65 {k : Nat} {A : Around} (r : Room k A) : A.units + 65 < cLine := by have := r.un; omega
def dNeg : D → VH → Option (D × VH)
  | .int i, h => some (.int (-i), h)
  | _, _ => none
section
variable {X : Cx}
theorem ev_neg {e : Expr} {m : EM} {pos : Pos} (he : EV X e m) : EV X (.UnaryOp .USub e pos) (mUn dNeg m) := by
  refine PEi (pe_un un_neg he) fun σ H Q ⟨ρ, env, h, d, h', rE, rH, em, g⟩ => ?_
  unfold mUn at em
  obtain ⟨⟨x, h1⟩, e1, em⟩ := Option.bind_eq_some_iff.mp em
  refine ⟨ρ, env, h, x, h1, rE, rH, e1, fun ρ1 v H1 s1 r1 q1 => ?_⟩
  cases x with
  | int i =>
    cases em
    unfold RelD at q1; subst q1
    exact ⟨i, rfl, g ρ1 _ H1 s1 r1 rfl⟩
  | _ => cases em
theorem tblN {k : Nat} : TblOk X k fun _ => none := fun _ _ _ h => by cases h
theorem tblC {k : Nat} {a : String} {ps : List Str} {F : List D → VH → Option (D × VH)} {t : Tbl} (h : DefV X.prog X.w X.K X.mg X.base (Str.ofString a) k ps F) (r : TblOk X k t) : TblOk X k fun x => if x = a then some (ps.length, F) else t x := fun x n G e => by
  simp only at e; split at e
  · rename_i z
    subst z
    cases e
    exact ⟨ps, rfl, h⟩
  · exact r x n G e
end
theorem DefV.mono {P : Program} {w : World} {K : PySem.W.Frag} {mg : Str → Option Value} {base : Heap} {x : Str} {j k : Nat} {ps : List Str} {F : List D → VH → Option (D × VH)} (G : DefV P w K mg base x j ps F) (h : j ≤ k) : DefV P w K mg base x k ps F := by
  obtain ⟨f, fd, a, b, c, G⟩ := G.ex
  exact ⟨f, fd, a, b, c, ⟨G.many, fun A o s H args us vs Q E g r e bt v q => G.go A o s H args us vs Q E g (r.mono h) e bt v q⟩⟩
end Vm
namespace Vm
open PySem PySem.Spec PyProof.Rows L2
section
variable {K : PySem.W.Frag} {mg : Str → Option Value} {h : Heap} {x : Str} {st : Stmt} {f p : Addr}
theorem funAt_mk {oc : Value} {od an : Option Addr} {osl : Array (Option Value)} {kV doc pm cdv ct : Value} (X : K.In h) (G : h.Ns mainGlobals mg) (a : PySem.W.nsIn K mainGlobals x = some (some (.ref f)))
    (l : K.lookup f = some ⟨oc, od, .func (PySem.W.fnOf x x (defArgs st) (defBody st) (defScope st) .none kV doc pm an cdv ct), osl⟩) (c : PySem.W.codeIn K cdv x = true) (k : PySem.W.keepIn K (.ref f) = true) : FunAt K mg x st :=
  ⟨f, _, PySem.W.mg_of X G a, fun_mk l c k⟩
theorem constInt {i : Int} {t : Tok} (X : K.In h) (G : h.Ns mainGlobals mg) (a : PySem.W.nsIn K mainGlobals x = some (some (.int i t))) : ConstAt K mg x (.int i) :=
  ⟨.int i, .int i t, PySem.W.mg_of X G a, ⟨t, rfl⟩, fun _ _ => by unfold RelD; rfl⟩
theorem constStr {i : Str} {t : Tok} (X : K.In h) (G : h.Ns mainGlobals mg) (a : PySem.W.nsIn K mainGlobals x = some (some (.str i t))) : ConstAt K mg x (.str i) :=
  ⟨.str i, .str i t, PySem.W.mg_of X G a, ⟨t, rfl⟩, fun _ _ => by unfold RelD; rfl⟩
/-- a value of the module's own data -/
inductive KD (K : PySem.W.Frag) : D → V → Value → Prop
  | int (i : Int) (t : Tok) : KD K (.int i) (.int i) (.int i t)
  | str (i : Str) (t : Tok) : KD K (.str i) (.str i) (.str i t)
  | non : KD K .non .non .none
  | bl (b : Bool) : KD K (.bl b) (.bl b) (.bool b)
  | tup {ds : List D} {vs : List V} {us : List Value} {p : Addr} {n : Nat} {sl : Array (Option Value)} (l : K.lookup p = some ⟨.type "tuple", none, .seq us.toArray n, sl⟩) (hn : us.length ≤ 1000) (h1 : Vals vs us) (h2 : ∀ mg ρ H, RelDs K mg ρ H ds vs) : KD K (.tup ds) (.ref p) (.ref p)
theorem KD.ok {d : D} {v : V} {u : Value} (k : KD K d v u) : RelV v u ∧ ∀ mg ρ H, RelD K mg ρ H d v := by
  cases k with
  | int i t => exact ⟨⟨t, rfl⟩, fun _ _ _ => by unfold RelD; rfl⟩
  | str i t => exact ⟨⟨t, rfl⟩, fun _ _ _ => by unfold RelD; rfl⟩
  | non => exact ⟨rfl, fun _ _ _ => by unfold RelD; rfl⟩
  | bl b => exact ⟨rfl, fun _ _ _ => by unfold RelD; rfl⟩
  | @tup ds vs us p n sl l hn h1 h2 =>
    refine ⟨rfl, fun mg ρ H => ?_⟩
    unfold RelD
    refine ⟨p, vs, rfl, .inr ⟨_, us.toArray, n, l, rfl, rfl, rfl, ?_, by simpa using h1⟩, h2 mg ρ H⟩
    rw [List.size_toArray, sizeLine_eq]; omega
theorem kdI {i : Int} {t : Tok} : KD K (.int i) (.int i) (.int i t) := .int i t
theorem kdS {i : Str} {t : Tok} : KD K (.str i) (.str i) (.str i t) := .str i t
theorem kdN : KD K .non .non .none := .non
theorem kdB {b : Bool} : KD K (.bl b) (.bl b) (.bool b) := .bl b
theorem KD.nil : Vals ([] : List V) [] ∧ ∀ mg ρ H, RelDs K mg ρ H [] [] := ⟨.nil, fun _ _ _ => .nil⟩
theorem KD.cons {d : D} {v : V} {u : Value} {ds : List D} {vs : List V} {us : List Value} (k : KD K d v u) (r : Vals vs us ∧ ∀ mg ρ H, RelDs K mg ρ H ds vs) : Vals (v :: vs) (u :: us) ∧ ∀ mg ρ H, RelDs K mg ρ H (d :: ds) (v :: vs) :=
  ⟨.cons k.ok.1 r.1, fun mg ρ H => .cons (k.ok.2 mg ρ H) (r.2 mg ρ H)⟩
theorem KD.tp {ds : List D} {vs : List V} {us : List Value} {p : Addr} {n : Nat} {sl : Array (Option Value)} (l : K.lookup p = some ⟨.type "tuple", none, .seq us.toArray n, sl⟩) (r : Vals vs us ∧ ∀ mg ρ H, RelDs K mg ρ H ds vs) (hn : us.length ≤ 1000) : KD K (.tup ds) (.ref p) (.ref p) := .tup l hn r.1 r.2
theorem constKD {d : D} {v : V} {u : Value} (X : K.In h) (G : h.Ns mainGlobals mg) (a : PySem.W.nsIn K mainGlobals x = some (some u)) (k : KD K d v u) : ConstAt K mg x d := ⟨v, u, PySem.W.mg_of X G a, k.ok.1, fun ρ H => k.ok.2 mg ρ H⟩
end
end Vm
namespace Vm
open PySem PySem.Spec PyProof.Rows L2
theorem bindC {α β : Type} {x y : Option α} {f : α → Option β} (h : x = y) : Option.bind x f = Option.bind y f := by rw [h]
theorem bind_some' {α β : Type} {x : α} {f : α → Option β} : Option.bind (some x) f = f x := rfl
def gv (o : Option (Option D)) (h : VH) : Option (D × VH) := match o with | some (some d) => some (d, h) | _ => none
theorem gv_ok {d : D} {h : VH} : gv (some (some d)) h = some (d, h) := rfl
theorem r_var {i env h} : mVar i env h = gv env[i]? h := rfl
theorem r_c {d : D} {env : En} {h : VH} : mC d env h = some (d, h) := rfl
def bin1 (x : Option (D × VH)) (f : D → D → VH → Option (D × VH)) (b : EM) (env : En) : Option (D × VH) := x.bind fun p => (b env p.2).bind fun q => f p.1 q.1 q.2
def bin2 (d : D) (x : Option (D × VH)) (f : D → D → VH → Option (D × VH)) : Option (D × VH) := x.bind fun q => f d q.1 q.2
theorem bin1_ok {d h f b env} : bin1 (some (d, h)) f b env = bin2 d (b env h) f := rfl
theorem bin2_ok {d e h f} : bin2 d (some (e, h)) f = f d e h := rfl
theorem r_bin {f a b env h} : mBin f a b env h = bin1 (a env h) f b env := rfl
def un1 (x : Option (D × VH)) (f : D → VH → Option (D × VH)) : Option (D × VH) := x.bind fun p => f p.1 p.2
theorem un1_ok {d h f} : un1 (some (d, h)) f = f d h := rfl
theorem r_un {f a env h} : mUn f a env h = un1 (a env h) f := rfl
def pick {α : Type} (b : Bool) (x y : α) : α := if b = true then x else y
theorem pick_t {α : Type} {x y : α} : pick true x y = x := rfl
theorem pick_f {α : Type} {x y : α} : pick false x y = y := rfl
theorem pickC {α : Type} {b c : Bool} {x y : α} (h : b = c) : pick b x y = pick c x y := by rw [h]
def if1 {α : Type} (x : Option (Bool × VH)) (a b : En → VH → Option α) (env : En) : Option α := x.bind fun p => if p.1 = true then a env p.2 else b env p.2
theorem if1_t {α : Type} {h : VH} {a b : En → VH → Option α} {env : En} : if1 (some (true, h)) a b env = a env h := rfl
theorem if1_f {α : Type} {h : VH} {a b : En → VH → Option α} {env : En} : if1 (some (false, h)) a b env = b env h := rfl
theorem r_if {c a b env h} : mIf c a b env h = if1 (c env h) a b env := rfl
theorem r_nil {env : En} {h : VH} : mNil env h = some ([], h) := rfl
def cons1 (x : Option (D × VH)) (r : AM) (env : En) : Option (List D × VH) := x.bind fun p => (r env p.2).bind fun q => some (p.1 :: q.1, q.2)
def cons2 (d : D) (x : Option (List D × VH)) : Option (List D × VH) := x.bind fun q => some (d :: q.1, q.2)
theorem cons1_ok {d h r env} : cons1 (some (d, h)) r env = cons2 d (r env h) := rfl
theorem cons2_ok {d ds h} : cons2 d (some (ds, h)) = some (d :: ds, h) := rfl
theorem r_cons {a : EM} {r : AM} {env : En} {h : VH} : mCons a r env h = cons1 (a env h) r env := rfl
def tupI (ds : List D) (h : VH) : Option (D × VH) := if ds.length ≤ lim then some (.tup ds, h) else none
def fn1 (x : Option (List D × VH)) (f : List D → VH → Option (D × VH)) : Option (D × VH) := x.bind fun p => f p.1 p.2
theorem fn1_ok {ds h f} : fn1 (some (ds, h)) f = f ds h := rfl
theorem r_tup {a : AM} {env : En} {h : VH} : mTup a env h = fn1 (a env h) tupI := rfl
def lstI (ds : List D) (h : VH) : Option (D × VH) := if ds.length ≤ lim then some (.ref h.length, h ++ [.lst ds]) else none
theorem r_lst {a : AM} {env : En} {h : VH} : mLst a env h = fn1 (a env h) lstI := rfl
theorem tupI_0 {h} : tupI [] h = some (.tup [], h) := rfl
theorem tupI_1 {a h} : tupI [a] h = some (.tup [a], h) := rfl
theorem tupI_2 {a b h} : tupI [a, b] h = some (.tup [a, b], h) := rfl
theorem tupI_3 {a b c h} : tupI [a, b, c] h = some (.tup [a, b, c], h) := rfl
theorem lstI_0 {h} : lstI [] h = some (.ref h.length, h ++ [.lst []]) := rfl
theorem lstI_1 {a h} : lstI [a] h = some (.ref h.length, h ++ [.lst [a]]) := rfl
theorem lstI_2 {a b h} : lstI [a, b] h = some (.ref h.length, h ++ [.lst [a, b]]) := rfl
theorem lstI_3 {a b c h} : lstI [a, b, c] h = some (.ref h.length, h ++ [.lst [a, b, c]]) := rfl
theorem lstI_6 {a b c d e f h} : lstI [a, b, c, d, e, f] h = some (.ref h.length, h ++ [.lst [a, b, c, d, e, f]]) := rfl
theorem r_fn {f a env h} : mFn f a env h = fn1 (a env h) f := rfl
def blB (p : D × VH) : Option (Bool × VH) := match p.1 with | .bl b => some (b, p.2) | _ => none
theorem blB_ok {b : Bool} {h : VH} : blB (.bl b, h) = some (b, h) := rfl
theorem r_bV {a env h} : bV a env h = (a env h).bind blB := rfl
def bt1 (x : Option (D × VH)) (tr : D → VH → Option Bool) : Option (Bool × VH) := x.bind fun p => (tr p.1 p.2).bind fun b => some (b, p.2)
def bt2 (x : Option Bool) (h : VH) : Option (Bool × VH) := x.bind fun b => some (b, h)
theorem bt1_ok {d h tr} : bt1 (some (d, h)) tr = bt2 (tr d h) h := rfl
theorem bt2_ok {b h} : bt2 (some b) h = some (b, h) := rfl
theorem r_bT {tr : D → VH → Option Bool} {a : EM} {env : En} {h : VH} : bT tr a env h = bt1 (a env h) tr := rfl
def and1 (x : Option (Bool × VH)) (b : BM) (env : En) : Option (Bool × VH) := x.bind fun p => if p.1 = true then b env p.2 else some (false, p.2)
theorem and1_t {h b env} : and1 (some (true, h)) b env = b env h := rfl
theorem and1_f {h b env} : and1 (some (false, h)) b env = some (false, h) := rfl
theorem r_bAnd {a b env h} : bAnd a b env h = and1 (a env h) b env := rfl
def or1 (x : Option (Bool × VH)) (b : BM) (env : En) : Option (Bool × VH) := x.bind fun p => if p.1 = true then some (true, p.2) else b env p.2
theorem or1_t {h b env} : or1 (some (true, h)) b env = some (true, h) := rfl
theorem or1_f {h b env} : or1 (some (false, h)) b env = b env h := rfl
def not1 (x : Option (Bool × VH)) : Option (Bool × VH) := x.bind fun p => some (!p.1, p.2)
theorem not1_ok {b h} : not1 (some (b, h)) = some (!b, h) := rfl
theorem r_bOr {a b env h} : bOr a b env h = or1 (a env h) b env := rfl
theorem r_bNot {a env h} : bNot a env h = not1 (a env h) := rfl
theorem r_bYes {env : En} {h : VH} : bYes env h = some (true, h) := rfl
def ma1 (x : Option (D × VH)) (tr : D → VH → Option Bool) (b : EM) (env : En) : Option (D × VH) := x.bind fun p => (tr p.1 p.2).bind fun k => if k = true then b env p.2 else some p
def ma2 (x : Option Bool) (d : D) (h : VH) (b : EM) (env : En) : Option (D × VH) := x.bind fun k => if k = true then b env h else some (d, h)
theorem ma1_ok {d h tr b env} : ma1 (some (d, h)) tr b env = ma2 (tr d h) d h b env := rfl
theorem ma2_t {d h b env} : ma2 (some true) d h b env = b env h := rfl
theorem ma2_f {d h b env} : ma2 (some false) d h b env = some (d, h) := rfl
def mo1 (x : Option (D × VH)) (tr : D → VH → Option Bool) (b : EM) (env : En) : Option (D × VH) := x.bind fun p => (tr p.1 p.2).bind fun k => if k = true then some p else b env p.2
def mo2 (x : Option Bool) (d : D) (h : VH) (b : EM) (env : En) : Option (D × VH) := x.bind fun k => if k = true then some (d, h) else b env h
theorem mo1_ok {d h tr b env} : mo1 (some (d, h)) tr b env = mo2 (tr d h) d h b env := rfl
theorem mo2_t {d h b env} : mo2 (some true) d h b env = some (d, h) := rfl
theorem mo2_f {d h b env} : mo2 (some false) d h b env = b env h := rfl
def mn1 (x : Option (D × VH)) (tr : D → VH → Option Bool) : Option (D × VH) := x.bind fun p => (tr p.1 p.2).bind fun k => some (.bl (!k), p.2)
def mn2 (x : Option Bool) (h : VH) : Option (D × VH) := x.bind fun k => some (.bl (!k), h)
theorem mn1_ok {d h tr} : mn1 (some (d, h)) tr = mn2 (tr d h) h := rfl
theorem mn2_ok {k h} : mn2 (some k) h = some (.bl (!k), h) := rfl
theorem r_and {tr : D → VH → Option Bool} {a b : EM} {env : En} {h : VH} : mAnd tr a b env h = ma1 (a env h) tr b env := rfl
theorem r_or {tr : D → VH → Option Bool} {a b : EM} {env : En} {h : VH} : mOr tr a b env h = mo1 (a env h) tr b env := rfl
theorem r_not {tr : D → VH → Option Bool} {a : EM} {env : En} {h : VH} : mNot tr a env h = mn1 (a env h) tr := rfl
def ch4 (e : D) (x : Option (D × VH)) (g : D → D → VH → Option (D × VH)) : Option (D × VH) := x.bind fun z => g e z.1 z.2
def ch3 (e : D) (x : Option (D × VH)) (g : D → D → VH → Option (D × VH)) (c : EM) (env : En) : Option (D × VH) := match x with | some (.bl true, h) => ch4 e (c env h) g | some (.bl false, h) => some (.bl false, h) | _ => none
def ch2 (d : D) (x : Option (D × VH)) (f g : D → D → VH → Option (D × VH)) (c : EM) (env : En) : Option (D × VH) := x.bind fun q => ch3 q.1 (f d q.1 q.2) g c env
theorem ch2_ok {d e h f g c env} : ch2 d (some (e, h)) f g c env = ch3 e (f d e h) g c env := rfl
theorem ch3_ok {e b h g c env} : ch3 e (some (.bl b, h)) g c env = pick b (ch4 e (c env h) g) (some (.bl false, h)) := by cases b <;> rfl
theorem ch4_ok {e z h g} : ch4 e (some (z, h)) g = g e z h := rfl
def ch0 (x : Option (D × VH)) (f g : D → D → VH → Option (D × VH)) (b c : EM) (env : En) : Option (D × VH) := x.bind fun p => ch2 p.1 (b env p.2) f g c env
theorem ch0_ok {d h f g b c env} : ch0 (some (d, h)) f g b c env = ch2 d (b env h) f g c env := rfl
theorem r_chain {f g a b c env h} : mChain f g a b c env h = ch0 (a env h) f g b c env := by
  unfold mChain ch0 ch2
  cases a env h with
  | none => rfl
  | some p =>
    rw [bind_some', bind_some']
    cases b env p.2 with
    | none => rfl
    | some q =>
      rw [bind_some', bind_some']
      cases f p.1 q.1 q.2 with
      | none => rfl
      | some r =>
        rw [bind_some']
        obtain ⟨d, h⟩ := r
        cases d <;> first | rfl | (rename_i b; cases b <;> rfl)
theorem t_non {h} : dTru .non h = some false := rfl
theorem t_bl {b h} : dTru (.bl b) h = some b := rfl
theorem t_int {i h} : dTru (.int i) h = some (i != 0) := rfl
theorem t_tup {xs h} : dTru (.tup xs) h = some (!xs.isEmpty) := rfl
/-! operators -/
theorem o_add {i j h} : dAdd (.int i) (.int j) h = some (.int (i + j), h) := rfl
theorem o_addT {a b : List D} {h : VH} (z : a.length + b.length ≤ 1000000) : dAdd (.tup a) (.tup b) h = some (.tup (a ++ b), h) := by
  show (if okLen (a.length + b.length) = true then some (D.tup (a ++ b), h) else none) = _
  rw [if_pos (show okLen (a.length + b.length) = true from decide_eq_true z)]
theorem o_sub {i j h} : dSub (.int i) (.int j) h = some (.int (i - j), h) := rfl
theorem o_mod {i j : Int} {h : VH} (z : j ≠ 0) : dMod (.int i) (.int j) h = some (.int (i.fmod j), h) := by
  show (if decide (j ≠ 0) = true then some (D.int (i.fmod j), h) else none) = _
  rw [if_pos (decide_eq_true z)]
theorem o_fdiv {i j : Int} {h : VH} (z : j ≠ 0) (z2 : j.natAbs < 1073741824) : dFdiv (.int i) (.int j) h = some (.int (i.fdiv j), h) := by
  show (if (decide (j ≠ 0) && decide (j.natAbs < 1073741824)) = true then some (D.int (i.fdiv j), h) else none) = _
  rw [if_pos (by rw [Bool.and_eq_true, decide_eq_true_eq, decide_eq_true_eq]; exact ⟨z, z2⟩)]
theorem o_mul {i j : Int} {h : VH} (z : in64 i = true ∨ in64 j = true) : dMulT (.int i) (.int j) h = some (.int (i * j), h) := by
  show (if (in64 i || in64 j) = true then some (D.int (i * j), h) else none) = _
  rw [if_pos (by rw [Bool.or_eq_true]; exact z)]
theorem o_lt {i j h} : dLt (.int i) (.int j) h = some (.bl (decide (i < j)), h) := rfl
theorem o_le {i j h} : dLe (.int i) (.int j) h = some (.bl (decide (i ≤ j)), h) := rfl
theorem o_gt {i j h} : dGt (.int i) (.int j) h = some (.bl (decide (j < i)), h) := rfl
theorem o_ge {i j h} : dGe (.int i) (.int j) h = some (.bl (decide (j ≤ i)), h) := rfl
theorem o_eqI {i j h} : dEq (.int i) (.int j) h = some (.bl (decide (i = j)), h) := rfl
theorem o_eqS {i j h} : dEq (.str i) (.str j) h = some (.bl (decide (i = j)), h) := rfl
theorem o_neI {i j h} : dNe (.int i) (.int j) h = some (.bl (!decide (i = j)), h) := rfl
theorem o_neS {i j h} : dNe (.str i) (.str j) h = some (.bl (!decide (i = j)), h) := rfl
theorem o_neg {i h} : dNeg (.int i) h = some (.int (-i), h) := rfl
/-! built-ins -/
theorem b_len_tup {xs : List D} {h : VH} : dLen [.tup xs] h = some (.int xs.length, h) := rfl
theorem b_len_rl {xs : List D} {h : VH} : dLen [.rl xs] h = some (.int xs.length, h) := rfl
theorem b_len_ref {n : Nat} {xs : List D} {h : VH} (e : h[n]? = some (.lst xs)) : dLen [.ref n] h = some (.int xs.length, h) := by
  simp [dLen, seqOf, lstOf, e]
theorem b_int {i h} : dInt [.int i] h = some (.int i, h) := rfl
theorem b_tup {xs h} : dTupleOf [.tup xs] h = some (.tup xs, h) := rfl
theorem b_tup_ref {n : Nat} {xs : List D} {h : VH} (e : h[n]? = some (.lst xs)) : dTupleOf [.ref n] h = some (.tup xs, h) := by
  simp [dTupleOf, lstOf, e]
theorem isi_ii {i h} : dIsI [.int i, .ty "int"] h = some (.bl true, h) := by simp [dIsI, tag, tagT]
theorem isi_ib {i h} : dIsI [.int i, .ty "bool"] h = some (.bl false, h) := by simp [dIsI, tag, tagT]
theorem isi_ss {i h} : dIsI [.str i, .ty "str"] h = some (.bl true, h) := by simp [dIsI, tag, tagT]
theorem isi_tt {i h} : dIsI [.tup i, .ty "tuple"] h = some (.bl true, h) := by simp [dIsI, tag, tagT]
/-! subscripts -/
theorem ixN_nat {n i : Nat} (h : i < n) : ixN n (i : Int) = some i := by
  unfold ixN
  rw [if_pos (by omega), if_pos (by omega)]
  simp
theorem ixN_nat1 {n i : Nat} (h : i + 1 < n) : ixN n ((i : Int) + 1) = some (i + 1) := by
  have := ixN_nat h
  simpa using this
theorem ixN_last {n : Nat} (h : 0 < n) : ixN n (-1) = some (n - 1) := by
  unfold ixN
  rw [if_neg (by omega), if_pos (by omega)]
  congr 1
  omega
theorem i_tup {xs : List D} {i : Int} {j : Nat} {d : D} {h : VH} (e : ixN xs.length i = some j) (e2 : xs[j]? = some d) : dIx (.tup xs) (.int i) h = some (d, h) := by
  simp [dIx, atI, e, e2, seqOf, lstOf, tupOf]
theorem i_tup0 {a : D} {xs : List D} {h : VH} : dIx (.tup (a :: xs)) (.int 0) h = some (a, h) := i_tup (j := 0) (by unfold ixN; simp) rfl
theorem i_tup1 {a b : D} {xs : List D} {h : VH} : dIx (.tup (a :: b :: xs)) (.int 1) h = some (b, h) := i_tup (j := 1) (by unfold ixN; simp; omega) rfl
theorem i_tup2 {a b c : D} {xs : List D} {h : VH} : dIx (.tup (a :: b :: c :: xs)) (.int 2) h = some (c, h) := i_tup (j := 2) (by unfold ixN; simp; omega) rfl
theorem i_ref {n : Nat} {xs : List D} {i : Int} {j : Nat} {d : D} {h : VH} (e0 : h[n]? = some (.lst xs)) (e : ixN xs.length i = some j) (e2 : xs[j]? = some d) : dIx (.ref n) (.int i) h = some (d, h) := by
  simp [dIx, atI, e, e2, e0]
/-! statements -/
def sq (r : Option SO) (b : SM) : Option SO := match r with | some (.nx env h) => b env h | r => r
theorem sq_nx {env h b} : sq (some (.nx env h)) b = b env h := rfl
theorem sq_rt {d h b} : sq (some (.rt d h)) b = some (.rt d h) := rfl
theorem sq_bk {d h b} : sq (some (.bk d h)) b = some (.bk d h) := rfl
theorem sq_ct {d h b} : sq (some (.ct d h)) b = some (.ct d h) := rfl
theorem sqC {r s : Option SO} {b : SM} (h : r = s) : sq r b = sq s b := by rw [h]
theorem r_seq {a b env h} : sSeq a b env h = sq (a env h) b := by
  unfold sSeq sq
  cases a env h with
  | none => rfl
  | some r => cases r <;> rfl
theorem r_next {env h} : sNext env h = some (.nx env h) := rfl
def ex1 (x : Option (D × VH)) (env : En) : Option SO := x.bind fun p => some (.nx env p.2)
theorem ex1_ok {d h env} : ex1 (some (d, h)) env = some (.nx env h) := rfl
theorem r_expr {m env h} : sExpr m env h = ex1 (m env h) env := rfl
def rt1 (x : Option (D × VH)) : Option SO := x.bind fun p => some (.rt p.1 p.2)
theorem rt1_ok {d h} : rt1 (some (d, h)) = some (.rt d h) := rfl
theorem r_ret {m env h} : sRet m env h = rt1 (m env h) := rfl
theorem r_retN {env h} : sRetN env h = some (.rt .non h) := rfl
theorem r_sIf {c a b env h} : sIf c a b env h = if1 (c env h) a b env := rfl
def as1 (x : Option (D × VH)) (g : GM) (env : En) : Option SO := x.bind fun p => (g p.1 env p.2).bind fun q => some (.nx q.1 q.2)
def as2 (x : Option (En × VH)) : Option SO := x.bind fun q => some (.nx q.1 q.2)
theorem as1_ok {d h g env} : as1 (some (d, h)) g env = as2 (g d env h) := rfl
theorem as2_ok {env h} : as2 (some (env, h)) = some (.nx env h) := rfl
theorem r_asg {m g env h} : sAsg m g env h = as1 (m env h) g env := rfl
theorem g_nm {i d env h} : gNm i d env h = some (env.set i (some d), h) := rfl
theorem g_tup {r ds env h} : gT r (.tup ds) env h = r ds env h := rfl
theorem g_wt {r ds env h} : gT r (.wt ds) env h = r ds env h := rfl
theorem g_n {env : En} {h : VH} : gN [] env h = some (env, h) := rfl
def gc1 (x : Option (En × VH)) (r : GMs) (ds : List D) : Option (En × VH) := x.bind fun p => r ds p.1 p.2
theorem gc1_ok {env h r ds} : gc1 (some (env, h)) r ds = r ds env h := rfl
theorem g_c {g r d ds env h} : gC g r (d :: ds) env h = gc1 (g d env h) r ds := rfl
def par2 (i j : Nat) (env : En) (p : List D × VH) : Option SO := match p.1 with | [x, y] => some (.nx ((env.set i (some x)).set j (some y)) p.2) | _ => none
theorem par2_ok {i j env x y h} : par2 i j env ([x, y], h) = some (.nx ((env.set i (some x)).set j (some y)) h) := rfl
theorem r_par {i j m env h} : sPar i j m env h = (m env h).bind (par2 i j env) := rfl
def par3 (i j l : Nat) (env : En) (p : List D × VH) : Option SO := match p.1 with | [x, y, z] => some (.nx (((env.set i (some x)).set j (some y)).set l (some z)) p.2) | _ => none
theorem par3_ok {i j l env x y z h} : par3 i j l env ([x, y, z], h) = some (.nx (((env.set i (some x)).set j (some y)).set l (some z)) h) := rfl
theorem r_par3 {i j l m env h} : sPar3 i j l m env h = (m env h).bind (par3 i j l env) := rfl
def fin (r : Option SO) : Option (D × VH) := match r with | some (.nx _ h) => some (.non, h) | some (.rt d h) => some (d, h) | _ => none
theorem fin_nx {env h} : fin (some (.nx env h)) = some (.non, h) := rfl
theorem fin_rt {d h} : fin (some (.rt d h)) = some (d, h) := rfl
theorem r_body {N b ds h} : bodyF N b ds h = fin (b (ds.map some ++ List.replicate (N - ds.length) none) h) := rfl
def pu1 (x : Option (D × VH)) (mo mi : EM) (env : En) : Option SO := x.bind fun v => (mo env v.2).bind fun o => (mi env o.2).bind fun i => (dStore o.1 i.1 v.1 i.2).bind fun h' => some (.nx env h')
def pu2 (v : D) (x : Option (D × VH)) (mi : EM) (env : En) : Option SO := x.bind fun o => (mi env o.2).bind fun i => (dStore o.1 i.1 v i.2).bind fun h' => some (.nx env h')
def pu3 (v o : D) (x : Option (D × VH)) (env : En) : Option SO := x.bind fun i => (dStore o i.1 v i.2).bind fun h' => some (.nx env h')
def pu4 (x : Option VH) (env : En) : Option SO := x.bind fun h' => some (.nx env h')
theorem pu1_ok {v h mo mi env} : pu1 (some (v, h)) mo mi env = pu2 v (mo env h) mi env := rfl
theorem pu2_ok {v o h mi env} : pu2 v (some (o, h)) mi env = pu3 v o (mi env h) env := rfl
theorem pu3_ok {v o i h env} : pu3 v o (some (i, h)) env = pu4 (dStore o i v h) env := rfl
theorem pu4_ok {h env} : pu4 (some h) env = some (.nx env h) := rfl
theorem r_put {mo mi mv env h} : sPut mo mi mv env h = pu1 (mv env h) mo mi env := rfl
def ap1 (x : Option (D × VH)) (me : EM) (env : En) : Option (D × VH) := x.bind fun p => (lstOf p.2 p.1).bind fun _ => (me env p.2).bind fun q => dAppend p.1 q.1 q.2
def ap2 (x : Option (List D)) (d : D) (h : VH) (me : EM) (env : En) : Option (D × VH) := x.bind fun _ => (me env h).bind fun q => dAppend d q.1 q.2
def ap3 (d : D) (x : Option (D × VH)) : Option (D × VH) := x.bind fun q => dAppend d q.1 q.2
theorem ap1_ok {d h me env} : ap1 (some (d, h)) me env = ap2 (lstOf h d) d h me env := rfl
theorem ap2_ok {xs d h me env} : ap2 (some xs) d h me env = ap3 d (me env h) := rfl
theorem ap3_ok {d e h} : ap3 d (some (e, h)) = dAppend d e h := rfl
theorem r_append {mo me env h} : mAppend mo me env h = ap1 (mo env h) me env := rfl
theorem lstOf_ref {n : Nat} {xs : List D} {h : VH} (e : h[n]? = some (.lst xs)) : lstOf h (.ref n) = some xs := by simp [lstOf, e]
theorem app_ok {n : Nat} {xs : List D} {x : D} {h : VH} (e : h[n]? = some (.lst xs)) (z : xs.length < 1000000) : dAppend (.ref n) x h = some (.non, h.set n (.lst (xs ++ [x]))) := by
  simp [dAppend, e, okLen, lim]; omega
/-! slices -/
theorem o_none {env h} : oNone env h = some (none, h) := rfl
def osI (p : D × VH) : Option (Option Int × VH) := match p.1 with | .int i => some (some i, p.2) | _ => none
theorem osI_ok {i h} : osI (.int i, h) = some (some i, h) := rfl
theorem r_oSome {m env h} : oSome m env h = (m env h).bind osI := rfl
def sl1 (x : Option (D × VH)) (lo hi : OM) (env : En) : Option (D × VH) := x.bind fun p => (lo env p.2).bind fun l => (hi env l.2).bind fun u => dSlice p.1 l.1 u.1 u.2
def sl2 (d : D) (x : Option (Option Int × VH)) (hi : OM) (env : En) : Option (D × VH) := x.bind fun l => (hi env l.2).bind fun u => dSlice d l.1 u.1 u.2
def sl3 (d : D) (l : Option Int) (x : Option (Option Int × VH)) : Option (D × VH) := x.bind fun u => dSlice d l u.1 u.2
theorem sl1_ok {d h lo hi env} : sl1 (some (d, h)) lo hi env = sl2 d (lo env h) hi env := rfl
theorem sl2_ok {d l h hi env} : sl2 d (some (l, h)) hi env = sl3 d l (hi env h) := rfl
theorem sl3_ok {d l u h} : sl3 d l (some (u, h)) = dSlice d l u h := rfl
theorem r_slice {m lo hi env h} : mSlice m lo hi env h = sl1 (m env h) lo hi env := rfl
theorem sl_tup_ {xs lo hi h} : dSlice (.tup xs) lo hi h = some (.tup (Vm.cutD xs lo hi), h) := rfl
def rvI (p : D × VH) : Option (D × VH) := match p.1 with | .tup xs => some (.tup xs.reverse, p.2) | _ => none
theorem rvI_ok {xs h} : rvI (.tup xs, h) = some (.tup xs.reverse, h) := rfl
theorem r_revT {m env h} : mRevT m env h = (m env h).bind rvI := rfl
/-! calls -/
def cl1 (o : Option (Option D)) (t : Tbl) (a : AM) (env : En) (h : VH) : Option (D × VH) := match o with | some (some (.fn x)) => (t x).bind fun f => (a env h).bind fun p => if p.1.length = f.1 then f.2 p.1 p.2 else none | _ => none
def cl2 (o : Option (Nat × (List D → VH → Option (D × VH)))) (a : AM) (env : En) (h : VH) : Option (D × VH) := o.bind fun f => (a env h).bind fun p => if p.1.length = f.1 then f.2 p.1 p.2 else none
def cl3 (n : Nat) (F : List D → VH → Option (D × VH)) (x : Option (List D × VH)) : Option (D × VH) := x.bind fun p => if p.1.length = n then F p.1 p.2 else none
theorem cl1_ok {x t a env h} : cl1 (some (some (.fn x))) t a env h = cl2 (t x) a env h := rfl
theorem cl2_ok {n F a env h} : cl2 (some (n, F)) a env h = cl3 n F (a env h) := rfl
theorem cl3_ok {n F ds h} : cl3 n F (some (ds, h)) = pick (decide (ds.length = n)) (F ds h) none := by
  unfold cl3 pick
  rw [bind_some']
  simp only [decide_eq_true_eq]
theorem r_callL {i t a env h} : mCallL i t a env h = cl1 env[i]? t a env h := rfl
def fk1 (n : Nat) (pm : List Nat) (F : List D → VH → Option (D × VH)) (x : Option (List D × VH)) : Option (D × VH) := x.bind fun p => if (perm pm p.1).length = n then F (perm pm p.1) p.2 else none
theorem fk1_ok {n pm F ds h} : fk1 n pm F (some (ds, h)) = pick (decide ((perm pm ds).length = n)) (F (perm pm ds) h) none := by
  unfold fk1 pick
  rw [bind_some']
  simp only [decide_eq_true_eq]
theorem r_fnK {n pm F m env h} : mFnK n pm F m env h = fk1 n pm F (m env h) := rfl
/-! ranges, walks -/
def rgI (p : D × VH) : Option ((Int × Int) × VH) := match p.1 with | .int j => some ((0, j), p.2) | _ => none
theorem rgI_ok {j h} : rgI (.int j, h) = some ((0, j), h) := rfl
theorem r_rg1 {a env h} : mRg1 a env h = (a env h).bind rgI := rfl
def rng0 (n : Nat) : List D := rng 0 n
def tr1 (p : (Int × Int) × VH) : Option (D × VH) := pick (rgSm p.1.1 p.1.2) (some (.tup (rng p.1.1 (p.1.2 - p.1.1).toNat), p.2)) none
theorem tr1_ok {i j h} : tr1 ((i, j), h) = pick (rgSm i j) (some (.tup (rng i (j - i).toNat), h)) none := rfl
theorem r_tupR {m env h} : mTupR m env h = (m env h).bind tr1 := rfl
def lr1 (p : (Int × Int) × VH) : Option (D × VH) := pick (rgSm p.1.1 p.1.2) (some (.ref p.2.length, p.2 ++ [.lst (rng p.1.1 (p.1.2 - p.1.1).toNat)])) none
theorem lr1_ok {i j h} : lr1 ((i, j), h) = pick (rgSm i j) (some (.ref (List.length h), h ++ [.lst (rng i (j - i).toNat)])) none := rfl
theorem r_lstR {m env h} : mLstR m env h = (m env h).bind lr1 := rfl
theorem rgSm_n {n : Nat} (h : n ≤ 1000) : rgSm 0 (n : Int) = true := by unfold rgSm; simp; omega
def imI (p : D × VH) : Option ((List D × List (Nat × VO)) × VH) := match p.1 with
  | .tup xs => some ((xs, []), p.2)
  | .wt xs => some ((xs, []), p.2)
  | .rl xs => some ((xs, []), p.2)
  | .ref n => match p.2[n]? with
    | some (.lst xs) => some ((xs, [(n, .lst xs)]), p.2)
    | _ => none
  | _ => none
theorem imI_tup {xs h} : imI (.tup xs, h) = some ((xs, []), h) := rfl
theorem imI_rl {xs h} : imI (.rl xs, h) = some ((xs, []), h) := rfl
theorem imI_ref {n : Nat} {xs : List D} {h : VH} (e : h[n]? = some (.lst xs)) : imI (.ref n, h) = some ((xs, [(n, .lst xs)]), h) := by simp [imI, e]
theorem r_imSeq {m env h} : imSeq m env h = (m env h).bind imI := rfl
def imE (p : List D × VH) : Option ((List D × List (Nat × VO)) × VH) := match p.1 with
  | [.tup xs] => some ((enumP 0 xs, []), p.2)
  | [.rl xs] => some ((enumP 0 xs, []), p.2)
  | [.ref n] => match p.2[n]? with
    | some (.lst xs) => some ((enumP 0 xs, [(n, .lst xs)]), p.2)
    | _ => none
  | _ => none
theorem imE_tup {xs h} : imE ([.tup xs], h) = some ((enumP 0 xs, []), h) := rfl
theorem imE_rl {xs h} : imE ([.rl xs], h) = some ((enumP 0 xs, []), h) := rfl
theorem r_imEnum {m env h} : imEnum m env h = (m env h).bind imE := rfl
def imZ (p : List D × VH) : Option ((List D × List (Nat × VO)) × VH) := match p.1 with
  | [.tup xs, .tup ys] => some ((zipP xs ys, []), p.2)
  | _ => none
theorem imZ_tup {xs ys h} : imZ ([.tup xs, .tup ys], h) = some ((zipP xs ys, []), h) := rfl
theorem r_imZip {m env h} : imZipT m env h = (m env h).bind imZ := rfl
def imR (p : List D × VH) : Option ((List D × List (Nat × VO)) × VH) := match p.1 with
  | [.int j] => if small j = true then some ((rng 0 j.toNat, []), p.2) else none
  | _ => none
theorem imR_ok {n : Nat} {h : VH} (z : n ≤ 1000) : imR ([.int n], h) = some ((rng 0 n, []), h) := by
  unfold imR small
  simp; omega
theorem r_imRng1 {m env h} : imRng1 m env h = (m env h).bind imR := rfl
def fo1 (x : Option ((List D × List (Nat × VO)) × VH)) (g : GM) (b : SM) (env : En) : Option SO := x.bind fun p => forL p.1.2 g b p.1.1 env p.2
theorem fo1_ok {xs cs h g b env} : fo1 (some ((xs, cs), h)) g b env = forL cs g b xs env h := rfl
theorem r_for {im g b env h} : sFor im g b env h = fo1 (im env h) g b env := rfl
def lcI (n : Nat) (q : List D × VH) : Option (D × VH) := if n ≤ lim then some (.ref q.2.length, q.2 ++ [.lst q.1]) else none
theorem lcI_ok {n : Nat} {q : List D × VH} (h : n ≤ 1000000) : lcI n q = some (.ref q.2.length, q.2 ++ [.lst q.1]) := if_pos h
def lc1 (x : Option ((List D × List (Nat × VO)) × VH)) (own : List Nat) (g : GM) (t : BM) (e : EM) (env : En) : Option (D × VH) := x.bind fun p => (lcL p.1.2 own g t e env p.1.1 p.2).bind (lcI p.1.1.length)
theorem lc1_ok {xs cs h own g t e env} : lc1 (some ((xs, cs), h)) own g t e env = (lcL cs own g t e env xs h).bind (lcI xs.length) := rfl
theorem r_lc {im own g t e env h} : mLc im own g t e env h = lc1 (im env h) own g t e env := rfl
/-! loops that walk no list of the heap -/
theorem chk_nil {h : VH} : chk [] h = true := rfl
/-- one turn's outcome -/
def trn (r : Option SO) (k : En → VH → Option SO) : Option SO := match r with
  | some (.nx env h) => k env h
  | some (.ct env h) => k env h
  | some (.bk env h) => some (.nx env h)
  | some (.rt d h) => some (.rt d h)
  | none => none
theorem trn_nx {env h k} : trn (some (.nx env h)) k = k env h := rfl
theorem trn_ct {env h k} : trn (some (.ct env h)) k = k env h := rfl
theorem trn_rt {env h k} : trn (some (.rt env h)) k = some (.rt env h) := rfl
theorem trnC {r s : Option SO} {k : En → VH → Option SO} (h : r = s) : trn r k = trn s k := by rw [h]
theorem forL_nil {g b env h} : forL [] g b [] env h = some (.nx env h) := rfl
def tn1 (x : Option (En × VH)) (b : SM) (k : En → VH → Option SO) : Option SO := x.bind fun p => trn (b p.1 p.2) k
theorem tn1_ok {env h b k} : tn1 (some (env, h)) b k = trn (b env h) k := rfl
theorem forL_cons {g b x xs env h} : forL [] g b (x :: xs) env h = tn1 (g x env h) b (forL [] g b xs) := by
  rw [forL, if_pos chk_nil]
  cases g x env h with
  | none => rfl
  | some p =>
    show _ = trn (b p.1 p.2) (forL [] g b xs)
    rw [bind_some']
    unfold trn
    cases b p.1 p.2 with
    | none => rfl
    | some r => cases r <;> rfl
theorem lcL_nil {own g t e env h} : lcL [] own g t e env [] h = some ([], h) := rfl
abbrev LK := VH → Option (List D × VH)
def ls1 (x : Option (En × VH)) (t : BM) (e : EM) (K : LK) : Option (List D × VH) := x.bind fun p => (t p.1 p.2).bind fun q => if q.1 = true then (e p.1 q.2).bind fun y => (K y.2).bind fun z => some (y.1 :: z.1, z.2) else K q.2
def ls2 (env : En) (x : Option (Bool × VH)) (e : EM) (K : LK) : Option (List D × VH) := x.bind fun q => if q.1 = true then (e env q.2).bind fun y => (K y.2).bind fun z => some (y.1 :: z.1, z.2) else K q.2
def ls3 (x : Option (D × VH)) (K : LK) : Option (List D × VH) := x.bind fun y => (K y.2).bind fun z => some (y.1 :: z.1, z.2)
def ls4 (d : D) (x : Option (List D × VH)) : Option (List D × VH) := x.bind fun z => some (d :: z.1, z.2)
theorem ls1_ok {env h t e K} : ls1 (some (env, h)) t e K = ls2 env (t env h) e K := rfl
theorem ls2_t {env h e K} : ls2 env (some (true, h)) e K = ls3 (e env h) K := rfl
theorem ls2_f {env h e K} : ls2 env (some (false, h)) e K = K h := rfl
theorem ls3_ok {d h K} : ls3 (some (d, h)) K = ls4 d (K h) := rfl
theorem ls4_ok {d ds h} : ls4 d (some (ds, h)) = some (d :: ds, h) := rfl
theorem lcL_cons {own g t e env x xs h} : lcL [] own g t e env (x :: xs) h = ls1 (g x (wipeE env own) h) t e (lcL [] own g t e env xs) := rfl
theorem wp_nil {env : En} : wipeE env [] = env := rfl
theorem wp_cons {env : En} {v : Nat} {vs : List Nat} : wipeE env (v :: vs) = (wipeE env vs).set v none := rfl
end Vm
/-! Pu: values without a heap, and when a value of the numbered heap is one of them. -/
namespace Pu
open PySem PySem.Spec PyProof.Rows L2 Vm

inductive P where
  | non | bl (b : Bool) | int (i : Int) | str (x : Str) | tup (xs : List P) | wt (xs : List P) | lst (xs : List P) | rl (xs : List P)
  | dK (ks : List Key) (vs : List P) | dT (ks : List (List Key)) (vs : List P) | fn (x : String) | ty (n : String) | gen

/-- where the law's drawing lies -/
structure Mu where
  m : Nat
  a : Nat
  b : Nat
def Mu.has (μ : Mu) (n : Nat) : Prop := n = μ.m ∨ n = μ.a ∨ n = μ.b
/-- what the drawing holds -/
structure S where
  cs : List Int
  gs : List Int
  spot : Nat
def idc (l : List Int) : List D := l.map D.int
def dk (a b s : Nat) : VO := .dK [(.inr "cells", .ref a), (.inr "great", .ref b), (.inr "spot", .int (s : Int))]
structure SI (μ : Mu) (h : VH) (s : S) : Prop where
  dd : h[μ.m]? = some (dk μ.a μ.b s.spot)
  ca : h[μ.a]? = some (.lst (idc s.cs))
  gb : h[μ.b]? = some (.lst (idc s.gs))
  ma : μ.m ≠ μ.a
  mb : μ.m ≠ μ.b
  ab : μ.a ≠ μ.b
  cl : s.cs.length = 64

section
variable (μ : Mu) (B : Nat → Prop) (h : VH)
mutual
def Rep : P → D → Prop
  | .non, d => d = .non
  | .bl b, d => d = .bl b
  | .int i, d => d = .int i
  | .str x, d => d = .str x
  | .tup ps, d => ∃ ds, d = .tup ds ∧ Reps ps ds
  | .wt ps, d => ∃ ds, d = .wt ds ∧ Reps ps ds
  | .rl ps, d => ∃ ds, d = .rl ds ∧ Reps ps ds
  | .lst ps, d => ∃ n ds, d = .ref n ∧ ¬ B n ∧ h[n]? = some (.lst ds) ∧ Reps ps ds
  | .dK ks ps, d => ∃ n ds, d = .ref n ∧ ¬ B n ∧ h[n]? = some (.dK (ks.zip ds)) ∧ ks.length = ds.length ∧ Reps ps ds
  | .dT ks ps, d => ∃ n ds, d = .ref n ∧ ¬ B n ∧ h[n]? = some (.dT (ks.zip ds)) ∧ ks.length = ds.length ∧ Reps ps ds
  | .fn x, d => d = .fn x
  | .ty n, d => d = .ty n
  | .gen, d => d = .ref μ.m
def Reps : List P → List D → Prop
  | [], ds => ds = []
  | p :: ps, ds => ∃ d r, ds = d :: r ∧ Rep p d ∧ Reps ps r
end
/-- the topmost list may be one that is written -/
def RepX : P → D → Prop
  | .lst ps, d => ∃ n ds, d = .ref n ∧ ¬ μ.has n ∧ h[n]? = some (.lst ds) ∧ Reps μ B h ps ds
  | .dK ks ps, d => ∃ n ds, d = .ref n ∧ ¬ μ.has n ∧ h[n]? = some (.dK (ks.zip ds)) ∧ ks.length = ds.length ∧ Reps μ B h ps ds
  | .dT ks ps, d => ∃ n ds, d = .ref n ∧ ¬ μ.has n ∧ h[n]? = some (.dT (ks.zip ds)) ∧ ks.length = ds.length ∧ Reps μ B h ps ds
  | p, d => Rep μ B h p d
def RepXs : List P → List D → Prop
  | [], ds => ds = []
  | p :: ps, ds => ∃ d r, ds = d :: r ∧ RepX μ B h p d ∧ RepXs ps r
end
/-- what stands where it may -/
def Stp (B : Nat → Prop) (h : VH) (B' : Nat → Prop) (h' : VH) : Prop := ∀ n o, ¬ B n → h[n]? = some o → ¬ B' n ∧ h'[n]? = some o
section
variable {μ : Mu} {B B' : Nat → Prop} {h h' : VH}
mutual
theorem Rep.mono (s : Stp B h B' h') : ∀ {p : P} {d : D}, Rep μ B h p d → Rep μ B' h' p d
  | .non, _, r => r
  | .bl _, _, r => r
  | .int _, _, r => r
  | .str _, _, r => r
  | .tup ps, d, r => by
    unfold Rep at r ⊢
    obtain ⟨ds, e, q⟩ := r
    exact ⟨ds, e, Reps.mono s q⟩
  | .wt ps, d, r => by
    unfold Rep at r ⊢
    obtain ⟨ds, e, q⟩ := r
    exact ⟨ds, e, Reps.mono s q⟩
  | .rl ps, d, r => by
    unfold Rep at r ⊢
    obtain ⟨ds, e, q⟩ := r
    exact ⟨ds, e, Reps.mono s q⟩
  | .lst ps, d, r => by
    unfold Rep at r ⊢
    obtain ⟨n, ds, e, b, g, q⟩ := r
    obtain ⟨b', g'⟩ := s n _ b g
    exact ⟨n, ds, e, b', g', Reps.mono s q⟩
  | .dK ks ps, d, r => by
    unfold Rep at r ⊢
    obtain ⟨n, ds, e, b, g, l, q⟩ := r
    obtain ⟨b', g'⟩ := s n _ b g
    exact ⟨n, ds, e, b', g', l, Reps.mono s q⟩
  | .dT ks ps, d, r => by
    unfold Rep at r ⊢
    obtain ⟨n, ds, e, b, g, l, q⟩ := r
    obtain ⟨b', g'⟩ := s n _ b g
    exact ⟨n, ds, e, b', g', l, Reps.mono s q⟩
  | .fn _, _, r => r
  | .ty _, _, r => r
  | .gen, _, r => r
theorem Reps.mono (s : Stp B h B' h') : ∀ {ps : List P} {ds : List D}, Reps μ B h ps ds → Reps μ B' h' ps ds
  | [], _, r => by unfold Reps at r ⊢; exact r
  | p :: ps, ds, r => by
    unfold Reps at r ⊢
    obtain ⟨d, t, e, a, b⟩ := r
    exact ⟨d, t, e, Rep.mono s a, Reps.mono s b⟩
end
theorem Reps.nil : Reps μ B h [] [] := by unfold Reps; rfl
theorem Reps.cons {p d ps ds} (a : Rep μ B h p d) (b : Reps μ B h ps ds) : Reps μ B h (p :: ps) (d :: ds) := by unfold Reps; exact ⟨d, ds, rfl, a, b⟩
theorem Reps.length : ∀ {ps : List P} {ds : List D}, Reps μ B h ps ds → ps.length = ds.length
  | [], _, r => by unfold Reps at r; subst r; rfl
  | p :: ps, ds, r => by
    unfold Reps at r
    obtain ⟨d, t, rfl, _, b⟩ := r
    simp [Reps.length b]
theorem Reps.append : ∀ {ps ds qs es}, Reps μ B h ps ds → Reps μ B h qs es → Reps μ B h (ps ++ qs) (ds ++ es)
  | [], _, _, _, r, q => by unfold Reps at r; subst r; exact q
  | p :: ps, _, _, _, r, q => by
    unfold Reps at r
    obtain ⟨d, t, rfl, a, b⟩ := r
    exact Reps.cons a (Reps.append b q)
theorem Reps.get : ∀ {ps : List P} {ds : List D} {i : Nat} {p : P}, Reps μ B h ps ds → ps[i]? = some p → ∃ d, ds[i]? = some d ∧ Rep μ B h p d
  | [], _, _, _, _, e => by simp at e
  | q :: ps, _, 0, p, r, e => by
    unfold Reps at r
    obtain ⟨d, t, rfl, a, b⟩ := r
    simp at e; subst e
    exact ⟨d, rfl, a⟩
  | q :: ps, _, i + 1, p, r, e => by
    unfold Reps at r
    obtain ⟨d, t, rfl, a, b⟩ := r
    simp at e
    obtain ⟨d', e', a'⟩ := Reps.get b e
    exact ⟨d', by simpa using e', a'⟩
theorem Reps.set : ∀ {ps : List P} {ds : List D} {p : P} {d : D} (i : Nat), Rep μ B h p d → Reps μ B h ps ds → Reps μ B h (ps.set i p) (ds.set i d)
  | [], _, _, _, _, _, r => by unfold Reps at r; subst r; exact Reps.nil
  | q :: ps, _, p, d, 0, a, r => by
    unfold Reps at r
    obtain ⟨d', t, rfl, a', b⟩ := r
    exact Reps.cons a b
  | q :: ps, _, p, d, i + 1, a, r => by
    unfold Reps at r
    obtain ⟨d', t, rfl, a', b⟩ := r
    exact Reps.cons a' (Reps.set i a b)
theorem Reps.take : ∀ {ps : List P} {ds : List D} (n : Nat), Reps μ B h ps ds → Reps μ B h (ps.take n) (ds.take n)
  | [], _, n, r => by unfold Reps at r; subst r; simp [Reps]
  | q :: ps, _, 0, r => by simp [Reps]
  | q :: ps, _, n + 1, r => by
    unfold Reps at r
    obtain ⟨d', t, rfl, a', b⟩ := r
    exact Reps.cons a' (Reps.take n b)
theorem Reps.drop : ∀ {ps : List P} {ds : List D} (n : Nat), Reps μ B h ps ds → Reps μ B h (ps.drop n) (ds.drop n)
  | [], _, n, r => by unfold Reps at r; subst r; simp [Reps]
  | q :: ps, _, 0, r => r
  | q :: ps, _, n + 1, r => by
    unfold Reps at r
    obtain ⟨d', t, rfl, a', b⟩ := r
    exact Reps.drop n b
theorem Reps.rev : ∀ {ps : List P} {ds : List D}, Reps μ B h ps ds → Reps μ B h ps.reverse ds.reverse
  | [], _, r => by unfold Reps at r; subst r; exact Reps.nil
  | q :: ps, _, r => by
    unfold Reps at r
    obtain ⟨d', t, rfl, a', b⟩ := r
    rw [List.reverse_cons, List.reverse_cons]
    exact Reps.append (Reps.rev b) (Reps.cons a' Reps.nil)
theorem Reps.rep {ps : List P} {ds : List D} (r : Reps μ B h ps ds) : ∀ n : Nat, Reps μ B h (List.replicate n ps).flatten (List.replicate n ds).flatten
  | 0 => Reps.nil
  | n + 1 => by
    rw [List.replicate_succ, List.replicate_succ, List.flatten_cons, List.flatten_cons]
    exact r.append (Reps.rep r n)
theorem Reps.isEmpty {ps : List P} {ds : List D} (r : Reps μ B h ps ds) : ds.isEmpty = ps.isEmpty := by
  have := r.length
  cases ps <;> cases ds <;> simp_all
theorem RepXs.length : ∀ {ps : List P} {ds : List D}, RepXs μ B h ps ds → ps.length = ds.length
  | [], _, r => by unfold RepXs at r; subst r; rfl
  | p :: ps, ds, r => by
    unfold RepXs at r
    obtain ⟨d, t, rfl, _, b⟩ := r
    simp [RepXs.length b]
theorem Rep.x (mu : ∀ n, μ.has n → B n) : ∀ {p : P} {d : D}, Rep μ B h p d → RepX μ B h p d := fun {p d} r => by
  cases p with
  | lst ps => unfold Rep at r; obtain ⟨n, ds, e, b, g, q⟩ := r; exact ⟨n, ds, e, fun z => b (mu n z), g, q⟩
  | dK ks ps => unfold Rep at r; obtain ⟨n, ds, e, b, g, q⟩ := r; exact ⟨n, ds, e, fun z => b (mu n z), g, q⟩
  | dT ks ps => unfold Rep at r; obtain ⟨n, ds, e, b, g, q⟩ := r; exact ⟨n, ds, e, fun z => b (mu n z), g, q⟩
  | _ => exact r
theorem Reps.x (mu : ∀ n, μ.has n → B n) : ∀ {ps : List P} {ds : List D}, Reps μ B h ps ds → RepXs μ B h ps ds
  | [], _, r => by unfold Reps at r; exact r
  | p :: ps, ds, r => by
    unfold Reps at r
    obtain ⟨d, t, e, a, b⟩ := r
    exact ⟨d, t, e, a.x mu, Reps.x mu b⟩
/-- only the drawing changes, and new things are laid -/
structure Kp (μ : Mu) (h h' : VH) : Prop where
  len : h.length ≤ h'.length
  kp : ∀ n o, h[n]? = some o → ¬ μ.has n → h'[n]? = some o
theorem Kp.refl : Kp μ h h := ⟨Nat.le_refl _, fun _ _ e _ => e⟩
theorem Kp.trans {h1 h2 h3 : VH} (a : Kp μ h1 h2) (b : Kp μ h2 h3) : Kp μ h1 h3 := ⟨Nat.le_trans a.len b.len, fun n o e z => b.kp n o (a.kp n o e z) z⟩
theorem get_app {h : VH} {n : Nat} {o : VO} (e : h[n]? = some o) (k : VH) : (h ++ k)[n]? = some o := by
  rw [List.getElem?_append_left (List.getElem?_eq_some_iff.mp e).1]; exact e
theorem Kp.app (k : VH) : Kp μ h (h ++ k) := ⟨by simp, fun n o e _ => get_app e k⟩
theorem Stp.kp (mu : ∀ n, μ.has n → B n) (k : Kp μ h h') : Stp B h B h' := fun n o b e => ⟨b, k.kp n o e fun z => b (mu n z)⟩
theorem Stp.app (k : VH) : Stp B h B (h ++ k) := fun n o b e => ⟨b, get_app e k⟩
theorem Stp.less (i : ∀ n, B' n → B n) : Stp B h B' h := fun n o b e => ⟨fun z => b (i n z), e⟩
theorem Stp.trans {B'' : Nat → Prop} {h'' : VH} (x : Stp B h B' h') (y : Stp B' h' B'' h'') : Stp B h B'' h'' := fun n o b e => y n o (x n o b e).1 (x n o b e).2
theorem RepX.kp (mu : ∀ n, μ.has n → B n) (k : Kp μ h h') : ∀ {p : P} {d : D}, RepX μ B h p d → RepX μ B h' p d := fun {p d} r => by
  have s := Stp.kp mu k
  cases p with
  | lst ps => obtain ⟨n, ds, e, b, g, q⟩ := r; exact ⟨n, ds, e, b, k.kp _ _ g b, q.mono s⟩
  | dK ks ps => obtain ⟨n, ds, e, b, g, l, q⟩ := r; exact ⟨n, ds, e, b, k.kp _ _ g b, l, q.mono s⟩
  | dT ks ps => obtain ⟨n, ds, e, b, g, l, q⟩ := r; exact ⟨n, ds, e, b, k.kp _ _ g b, l, q.mono s⟩
  | _ => exact Rep.mono s (p := _) r
theorem RepXs.kp (mu : ∀ n, μ.has n → B n) (k : Kp μ h h') : ∀ {ps : List P} {ds : List D}, RepXs μ B h ps ds → RepXs μ B h' ps ds
  | [], _, r => r
  | p :: ps, ds, ⟨d, t, e, a, b⟩ => ⟨d, t, e, a.kp mu k, RepXs.kp mu k b⟩
theorem SI.app {s : S} (i : SI μ h s) (k : VH) : SI μ (h ++ k) s := ⟨get_app i.dd k, get_app i.ca k, get_app i.gb k, i.ma, i.mb, i.ab, i.cl⟩

/-! ### a frame -/
abbrev PEn := List (Option P)
def bl (B0 : Nat → Prop) (w : Nat → Option Nat) : Nat → Prop := fun a => B0 a ∨ ∃ i, w i = some a
structure In (μ : Mu) (B0 : Nat → Prop) (O : Nat → Bool) (h : VH) (env : En) (pe : PEn) (w : Nat → Option Nat) (s : S) : Prop where
  mu : ∀ n, μ.has n → B0 n
  lt : ∀ n, B0 n → n < h.length
  si : SI μ h s
  len : env.length = pe.length
  own : ∀ i a, w i = some a → O i = true ∧ ¬ B0 a ∧ a < h.length
  inj : ∀ i j a, w i = some a → w j = some a → i = j
  pl : ∀ i p, O i = false → pe[i]? = some (some p) → ∃ d, env[i]? = some (some d) ∧ Rep μ (bl B0 w) h p d
  ow : ∀ i p, O i = true → pe[i]? = some (some p) → ∃ a, w i = some a ∧ env[i]? = some (some (.ref a)) ∧ RepX μ (bl B0 w) h p (.ref a)
variable {B0 : Nat → Prop} {O : Nat → Bool} {env : En} {pe : PEn} {w : Nat → Option Nat} {s s' : S}
theorem In.mu' (i : In μ B0 O h env pe w s) : ∀ n, μ.has n → bl B0 w n := fun n z => .inl (i.mu n z)
theorem In.lt' (i : In μ B0 O h env pe w s) : ∀ n, bl B0 w n → n < h.length := fun n z => z.elim (i.lt n) fun ⟨j, e⟩ => (i.own j n e).2.2
theorem In.keep (i : In μ B0 O h env pe w s) (k : Kp μ h h') (si : SI μ h' s') : In μ B0 O h' env pe w s' :=
  ⟨i.mu, fun n z => Nat.lt_of_lt_of_le (i.lt n z) k.len, si, i.len, fun j a e => ⟨(i.own j a e).1, (i.own j a e).2.1, Nat.lt_of_lt_of_le (i.own j a e).2.2 k.len⟩, i.inj,
    fun j p o e => let ⟨d, e1, r⟩ := i.pl j p o e; ⟨d, e1, r.mono (Stp.kp i.mu' k)⟩,
    fun j p o e => let ⟨a, e0, e1, r⟩ := i.ow j p o e; ⟨a, e0, e1, r.kp i.mu' k⟩⟩
end

/-! ### judgements -/
abbrev PM := PEn → S → Option (P × S)
abbrev PBM := PEn → S → Option (Bool × S)
abbrev PAM := PEn → S → Option (List P × S)
inductive PO where
  | nx (pe : PEn) (s : S) | rt (p : P) (s : S) | bk (pe : PEn) (s : S) | ct (pe : PEn) (s : S)
abbrev PSM := PEn → S → Option PO
abbrev PGM := P → PEn → S → Option (PEn × S)
section
variable (O : Nat → Bool)
/-- strong: no list of it is written -/
def ES (m : EM) (q : PM) : Prop := ∀ μ B0 h env pe w s p s', In μ B0 O h env pe w s → q pe s = some (p, s') → ∃ d h', m env h = some (d, h') ∧ Kp μ h h' ∧ SI μ h' s' ∧ Rep μ (bl B0 w) h' p d
/-- the topmost list may be one that is written -/
def ET (m : EM) (q : PM) : Prop := ∀ μ B0 h env pe w s p s', In μ B0 O h env pe w s → q pe s = some (p, s') → ∃ d h', m env h = some (d, h') ∧ Kp μ h h' ∧ SI μ h' s' ∧ RepX μ (bl B0 w) h' p d
/-- any list of it may be one that is written in this frame -/
def ER (m : EM) (q : PM) : Prop := ∀ μ B0 h env pe w s p s', In μ B0 O h env pe w s → q pe s = some (p, s') → ∃ d h', m env h = some (d, h') ∧ Kp μ h h' ∧ SI μ h' s' ∧ Rep μ B0 h' p d
/-- a new list that nothing else knows -/
def EF (m : EM) (q : PM) : Prop := ∀ μ B0 h env pe w s p s', In μ B0 O h env pe w s → q pe s = some (p, s') → ∃ n h', m env h = some (.ref n, h') ∧ Kp μ h h' ∧ SI μ h' s' ∧ h.length ≤ n ∧ n < h'.length ∧ RepX μ (fun a => bl B0 w a ∨ a = n) h' p (.ref n) ∧ Rep μ (bl B0 w) h' p (.ref n)
def BS (m : BM) (q : PBM) : Prop := ∀ μ B0 h env pe w s b s', In μ B0 O h env pe w s → q pe s = some (b, s') → ∃ h', m env h = some (b, h') ∧ Kp μ h h' ∧ SI μ h' s'
def AS (m : AM) (q : PAM) : Prop := ∀ μ B0 h env pe w s ps s', In μ B0 O h env pe w s → q pe s = some (ps, s') → ∃ ds h', m env h = some (ds, h') ∧ Kp μ h h' ∧ SI μ h' s' ∧ Reps μ (bl B0 w) h' ps ds
def AT (m : AM) (q : PAM) : Prop := ∀ μ B0 h env pe w s ps s', In μ B0 O h env pe w s → q pe s = some (ps, s') → ∃ ds h', m env h = some (ds, h') ∧ Kp μ h h' ∧ SI μ h' s' ∧ RepXs μ (bl B0 w) h' ps ds
def AR (m : AM) (q : PAM) : Prop := ∀ μ B0 h env pe w s ps s', In μ B0 O h env pe w s → q pe s = some (ps, s') → ∃ ds h', m env h = some (ds, h') ∧ Kp μ h h' ∧ SI μ h' s' ∧ Reps μ B0 h' ps ds
end
section
variable {O : Nat → Bool} {m : EM} {q : PM}
theorem ES.t (a : ES O m q) : ET O m q := fun μ B0 h env pe w s p s' i e => let ⟨d, h', e1, k, si, r⟩ := a μ B0 h env pe w s p s' i e; ⟨d, h', e1, k, si, r.x (i.mu')⟩
theorem ES.r (a : ES O m q) : ER O m q := fun μ B0 h env pe w s p s' i e => let ⟨d, h', e1, k, si, r⟩ := a μ B0 h env pe w s p s' i e; ⟨d, h', e1, k, si, r.mono (Stp.less fun _ z => .inl z)⟩
theorem EF.s (a : EF O m q) : ES O m q := fun μ B0 h env pe w s p s' i e => let ⟨n, h', e1, k, si, _, _, _, r⟩ := a μ B0 h env pe w s p s' i e; ⟨_, h', e1, k, si, r⟩
end

/-! ### the flow of statements -/
structure Fl (μ : Mu) (mw : Nat → Bool) (h : VH) (w : Nat → Option Nat) (h' : VH) (w' : Nat → Option Nat) : Prop where
  len : h.length ≤ h'.length
  kp : ∀ n o, h[n]? = some o → ¬ μ.has n → (∀ i, mw i = true → w i ≠ some n) → h'[n]? = some o
  nw : ∀ i a, mw i = true → w' i = some a → (∃ j, mw j = true ∧ w j = some a) ∨ h.length ≤ a
  st : ∀ i, mw i = false → w' i = w i
section
variable {μ : Mu} {mw : Nat → Bool} {h h' h'' : VH} {w w' w'' : Nat → Option Nat}
theorem Fl.refl : Fl μ mw h w h w := ⟨Nat.le_refl _, fun _ _ e _ _ => e, fun i a m e => .inl ⟨i, m, e⟩, fun _ _ => rfl⟩
theorem Fl.of (k : Kp μ h h') : Fl μ mw h w h' w := ⟨k.len, fun n o e z _ => k.kp n o e z, fun i a m e => .inl ⟨i, m, e⟩, fun _ _ => rfl⟩
theorem Fl.trans (a : Fl μ mw h w h' w') (b : Fl μ mw h' w' h'' w'') : Fl μ mw h w h'' w'' := by
  refine ⟨Nat.le_trans a.len b.len, fun n o e z q => b.kp n o (a.kp n o e z q) z fun i m e' => ?_, fun i c m e => ?_, fun i m => (b.st i m).trans (a.st i m)⟩
  · rcases a.nw i n m e' with ⟨j, mj, ej⟩ | g
    · exact q j mj ej
    · exact Nat.not_lt.mpr g (List.getElem?_eq_some_iff.mp e).1
  · rcases b.nw i c m e with ⟨j, mj, ej⟩ | g
    · exact a.nw j c mj ej
    · exact .inr (Nat.le_trans a.len g)
theorem Fl.weak {mw' : Nat → Bool} (a : Fl μ mw h w h' w') (le : ∀ i, mw i = true → mw' i = true) : Fl μ mw' h w h' w' := by
  refine ⟨a.len, fun n o e z q => a.kp n o e z fun i m => q i (le i m), fun i c m e => ?_, fun i m => a.st i (by
    cases hm : mw i with
    | false => rfl
    | true => rw [le i hm] at m; cases m)⟩
  cases hm : mw i with
  | true =>
    rcases a.nw i c hm e with ⟨j, mj, ej⟩ | g
    · exact .inl ⟨j, le j mj, ej⟩
    · exact .inr g
  | false => exact .inl ⟨i, m, by rw [← a.st i hm]; exact e⟩
theorem Fl.stp {B0 : Nat → Prop} (f : Fl μ mw h w h' w') (mu : ∀ n, μ.has n → B0 n) : Stp (bl B0 w) h (bl B0 w') h' := fun n o b e => by
  refine ⟨fun z => ?_, f.kp n o e (fun z => b (.inl (mu n z))) fun i _ ei => b (.inr ⟨i, ei⟩)⟩
  rcases z with z | ⟨i, ei⟩
  · exact b (.inl z)
  · cases hm : mw i with
    | true =>
      rcases f.nw i n hm ei with ⟨j, _, ej⟩ | g
      · exact b (.inr ⟨j, ej⟩)
      · exact Nat.not_lt.mpr g (List.getElem?_eq_some_iff.mp e).1
    | false => exact b (.inr ⟨i, by rw [← f.st i hm]; exact ei⟩)
end
def SRel (μ : Mu) (B0 : Nat → Prop) (O mw : Nat → Bool) (h : VH) (w : Nat → Option Nat) : PO → SO → Prop
  | .nx pe s, .nx env h' => ∃ w', In μ B0 O h' env pe w' s ∧ Fl μ mw h w h' w'
  | .bk pe s, .bk env h' => ∃ w', In μ B0 O h' env pe w' s ∧ Fl μ mw h w h' w'
  | .ct pe s, .ct env h' => ∃ w', In μ B0 O h' env pe w' s ∧ Fl μ mw h w h' w'
  | .rt p s, .rt d h' => Rep μ B0 h' p d ∧ SI μ h' s ∧ ∃ w', Fl μ mw h w h' w'
  | _, _ => False
def SS (O mw : Nat → Bool) (m : SM) (q : PSM) : Prop := ∀ μ B0 h env pe w s r, In μ B0 O h env pe w s → q pe s = some r → ∃ so, m env h = some so ∧ SRel μ B0 O mw h w r so
def GS (O mw : Nat → Bool) (g : GM) (q : PGM) : Prop := ∀ μ B0 h env pe w s p d pe' s', In μ B0 O h env pe w s → Rep μ (bl B0 w) h p d → q p pe s = some (pe', s') → ∃ env' h' w', g d env h = some (env', h') ∧ In μ B0 O h' env' pe' w' s' ∧ Fl μ mw h w h' w'
/-- a def -/
def FnP (f : List D → VH → Option (D × VH)) (F : List P → S → Option (P × S)) : Prop := ∀ μ B0 h s ds ps p s', (∀ n, μ.has n → B0 n) → (∀ n, B0 n → n < h.length) → SI μ h s → Reps μ B0 h ps ds → F ps s = some (p, s') → ∃ d h', f ds h = some (d, h') ∧ Kp μ h h' ∧ SI μ h' s' ∧ Rep μ B0 h' p d
theorem SRel.step {μ : Mu} {B0 : Nat → Prop} {O mw : Nat → Bool} {h h1 : VH} {w w1 : Nat → Option Nat} (f : Fl μ mw h w h1 w1) : ∀ {r : PO} {so : SO}, SRel μ B0 O mw h1 w1 r so → SRel μ B0 O mw h w r so
  | .nx _ _, .nx _ _, ⟨w', i, g⟩ => ⟨w', i, f.trans g⟩
  | .bk _ _, .bk _ _, ⟨w', i, g⟩ => ⟨w', i, f.trans g⟩
  | .ct _ _, .ct _ _, ⟨w', i, g⟩ => ⟨w', i, f.trans g⟩
  | .rt _ _, .rt _ _, ⟨a, b, w', g⟩ => ⟨a, b, w', f.trans g⟩
theorem SRel.weak {μ : Mu} {B0 : Nat → Prop} {O mw mw' : Nat → Bool} {h : VH} {w : Nat → Option Nat} (le : ∀ i, mw i = true → mw' i = true) : ∀ {r : PO} {so : SO}, SRel μ B0 O mw h w r so → SRel μ B0 O mw' h w r so
  | .nx _ _, .nx _ _, ⟨w', i, g⟩ => ⟨w', i, g.weak le⟩
  | .bk _ _, .bk _ _, ⟨w', i, g⟩ => ⟨w', i, g.weak le⟩
  | .ct _ _, .ct _ _, ⟨w', i, g⟩ => ⟨w', i, g.weak le⟩
  | .rt _ _, .rt _ _, ⟨a, b, w', g⟩ => ⟨a, b, w', g.weak le⟩
theorem SS.weak {O mw mw' : Nat → Bool} {m : SM} {q : PSM} (a : SS O mw m q) (le : ∀ i, mw i = true → mw' i = true) : SS O mw' m q := fun μ B0 h env pe w s r i e =>
  let ⟨so, e1, x⟩ := a μ B0 h env pe w s r i e; ⟨so, e1, x.weak le⟩
end Pu
namespace Pu
open PySem PySem.Spec PyProof.Rows L2 Vm
section
variable {μ : Mu} {B : Nat → Prop} {h : VH}
theorem get_new' {o : VO} : (h ++ [o])[h.length]? = some o := by simp
theorem Rep.newL (lt : ∀ n, B n → n < h.length) {ps : List P} {ds : List D} (r : Reps μ B h ps ds) : Rep μ B (h ++ [.lst ds]) (.lst ps) (.ref h.length) := by
  unfold Rep
  exact ⟨_, ds, rfl, fun z => Nat.lt_irrefl _ (lt _ z), get_new', r.mono (Stp.app _)⟩
/-! ### constants -/
mutual
def isC : P → Bool
  | .tup xs => isCs xs
  | .lst _ => false
  | .wt _ => false
  | .rl _ => false
  | .dK _ _ => false
  | .dT _ _ => false
  | .gen => false
  | _ => true
def isCs : List P → Bool
  | [] => true
  | x :: xs => isC x && isCs xs
end
mutual
def cst : P → D
  | .non => .non
  | .bl b => .bl b
  | .int i => .int i
  | .str x => .str x
  | .tup xs => .tup (csts xs)
  | .fn x => .fn x
  | .ty x => .ty x
  | _ => .non
def csts : List P → List D
  | [] => []
  | x :: xs => cst x :: csts xs
end
mutual
theorem rep_c : ∀ {p : P}, isC p = true → Rep μ B h p (cst p)
  | .non, _ => rfl
  | .bl b, _ => rfl
  | .int i, _ => rfl
  | .str x, _ => rfl
  | .fn x, _ => rfl
  | .ty x, _ => rfl
  | .tup xs, e => by
    unfold isC at e
    unfold Rep cst
    exact ⟨_, rfl, reps_c e⟩
  | .lst _, e => by simp [isC] at e
  | .wt _, e => by simp [isC] at e
  | .rl _, e => by simp [isC] at e
  | .dK _ _, e => by simp [isC] at e
  | .dT _ _, e => by simp [isC] at e
  | .gen, e => by simp [isC] at e
theorem reps_c : ∀ {ps : List P}, isCs ps = true → Reps μ B h ps (csts ps)
  | [], _ => Reps.nil
  | p :: ps, e => by
    unfold isCs at e
    rw [Bool.and_eq_true] at e
    exact Reps.cons (rep_c e.1) (reps_c e.2)
end
mutual
def flat : P → Bool
  | .tup xs => flats xs
  | .wt xs => flats xs
  | .rl xs => flats xs
  | .lst _ => false
  | .dK _ _ => false
  | .dT _ _ => false
  | .gen => false
  | _ => true
def flats : List P → Bool
  | [] => true
  | x :: xs => flat x && flats xs
end
mutual
theorem Rep.flat {B' : Nat → Prop} {h' : VH} : ∀ {p : P} {d : D}, flat p = true → Rep μ B h p d → Rep μ B' h' p d
  | .non, _, _, r => r
  | .bl _, _, _, r => r
  | .int _, _, _, r => r
  | .str _, _, _, r => r
  | .fn _, _, _, r => r
  | .ty _, _, _, r => r
  | .tup xs, d, e, r => by
    unfold Pu.flat at e
    unfold Rep at r ⊢
    obtain ⟨ds, e1, q⟩ := r
    exact ⟨ds, e1, Reps.flat e q⟩
  | .wt xs, d, e, r => by
    unfold Pu.flat at e
    unfold Rep at r ⊢
    obtain ⟨ds, e1, q⟩ := r
    exact ⟨ds, e1, Reps.flat e q⟩
  | .rl xs, d, e, r => by
    unfold Pu.flat at e
    unfold Rep at r ⊢
    obtain ⟨ds, e1, q⟩ := r
    exact ⟨ds, e1, Reps.flat e q⟩
  | .lst _, _, e, _ => by simp [Pu.flat] at e
  | .dK _ _, _, e, _ => by simp [Pu.flat] at e
  | .dT _ _, _, e, _ => by simp [Pu.flat] at e
  | .gen, _, e, _ => by simp [Pu.flat] at e
theorem Reps.flat {B' : Nat → Prop} {h' : VH} : ∀ {ps : List P} {ds : List D}, flats ps = true → Reps μ B h ps ds → Reps μ B' h' ps ds
  | [], _, _, r => by unfold Reps at r ⊢; exact r
  | p :: ps, ds, e, r => by
    unfold Pu.flats at e
    rw [Bool.and_eq_true] at e
    unfold Reps at r ⊢
    obtain ⟨d, t, e1, a, b⟩ := r
    exact ⟨d, t, e1, Rep.flat e.1 a, Reps.flat e.2 b⟩
end
/-! ### data that can be read off -/
def pyP : Nat → P → Option PyData
  | _, .non => some .none
  | _, .bl b => some (.bool b)
  | _, .int i => some (.int i)
  | _, .str x => some (.str x)
  | n + 1, .tup xs => (xs.mapM (pyP n)).map .tuple
  | n + 1, .wt xs => (xs.mapM (pyP n)).map .tuple
  | n + 1, .lst xs => (xs.mapM (pyP n)).map .list
  | n + 1, .rl xs => (xs.mapM (pyP n)).map .list
  | _, _ => none
theorem pys_ok {n : Nat} (ih : ∀ {d : D} {p : P} {x : PyData}, Rep μ B h p d → pyP n p = some x → py h n d = some x) : ∀ {ps : List P} {ds : List D} {xs : List PyData}, Reps μ B h ps ds → ps.mapM (pyP n) = some xs → ds.mapM (py h n) = some xs
  | [], _, xs, r, e => by unfold Reps at r; subst r; exact e
  | p :: ps, _, xs, r, e => by
    unfold Reps at r
    obtain ⟨d, t, rfl, a, b⟩ := r
    rw [List.mapM_cons] at e ⊢
    obtain ⟨x, e1, e⟩ := Option.bind_eq_some_iff.mp e
    obtain ⟨ys, e2, e⟩ := Option.bind_eq_some_iff.mp e
    rw [ih a e1, pys_ok ih b e2]
    exact e
theorem py_rep : ∀ {n : Nat} {d : D} {p : P} {x : PyData}, Rep μ B h p d → pyP n p = some x → py h n d = some x := by
  intro n
  induction n with
  | zero =>
    intro d p x r e
    cases p <;> simp only [pyP] at e <;> first | cases e; done | (cases e; unfold Rep at r; subst r; rfl)
  | succ n ih =>
    intro d p x r e
    cases p with
    | non => cases e; unfold Rep at r; subst r; rfl
    | bl b => cases e; unfold Rep at r; subst r; rfl
    | int i => cases e; unfold Rep at r; subst r; rfl
    | str i => cases e; unfold Rep at r; subst r; rfl
    | tup ps =>
      unfold Rep at r
      obtain ⟨ds, rfl, q⟩ := r
      simp only [pyP, Option.map_eq_some_iff] at e
      obtain ⟨xs, e1, rfl⟩ := e
      simp only [py, pys_ok ih q e1, Option.map_some]
    | wt ps =>
      unfold Rep at r
      obtain ⟨ds, rfl, q⟩ := r
      simp only [pyP, Option.map_eq_some_iff] at e
      obtain ⟨xs, e1, rfl⟩ := e
      simp only [py, pys_ok ih q e1, Option.map_some]
    | rl ps =>
      unfold Rep at r
      obtain ⟨ds, rfl, q⟩ := r
      simp only [pyP, Option.map_eq_some_iff] at e
      obtain ⟨xs, e1, rfl⟩ := e
      simp only [py, pys_ok ih q e1, Option.map_some]
    | lst ps =>
      unfold Rep at r
      obtain ⟨m, ds, rfl, _, g, q⟩ := r
      simp only [pyP, Option.map_eq_some_iff] at e
      obtain ⟨xs, e1, rfl⟩ := e
      simp only [py, g, pys_ok ih q e1, Option.map_some]
    | _ => cases e
theorem py_repX {n : Nat} {d : D} {p : P} {x : PyData} (r : RepX μ B h p d) (e : pyP n p = some x) : py h n d = some x := by
  cases p with
  | lst ps =>
    obtain ⟨m, ds, rfl, _, g, q⟩ := r
    cases n with
    | zero => cases e
    | succ n =>
      simp only [pyP, Option.map_eq_some_iff] at e
      obtain ⟨xs, e1, rfl⟩ := e
      simp only [py, g, pys_ok py_rep q e1, Option.map_some]
  | dK ks ps => cases n <;> cases e
  | dT ks ps => cases n <;> cases e
  | _ => exact py_rep r e
end

/-! ### operators -/
def Op2 (f : D → D → VH → Option (D × VH)) (g : P → P → Option P) : Prop := ∀ (μ : Mu) (B : Nat → Prop) (h : VH) (dx dy : D) (px py p : P), (∀ n, μ.has n → B n) → (∀ n, B n → n < h.length) → RepX μ B h px dx → RepX μ B h py dy → g px py = some p →
  ∃ d k, f dx dy h = some (d, h ++ k) ∧ Rep μ B (h ++ k) p d
def CallP (f : List D → VH → Option (D × VH)) (g : List P → Option P) : Prop := ∀ (μ : Mu) (B : Nat → Prop) (h : VH) (ds : List D) (ps : List P) (p : P), (∀ n, μ.has n → B n) → (∀ n, B n → n < h.length) → RepXs μ B h ps ds → g ps = some p →
  ∃ d k, f ds h = some (d, h ++ k) ∧ Rep μ B (h ++ k) p d
theorem op_at {f : D → D → VH → Option (D × VH)} {dx dy d : D} {p : P} {μ : Mu} {B : Nat → Prop} {h : VH} (e : f dx dy h = some (d, h)) (r : Rep μ B h p d) : ∃ d k, f dx dy h = some (d, h ++ k) ∧ Rep μ B (h ++ k) p d := ⟨d, [], by rw [List.append_nil]; exact e, by rw [List.append_nil]; exact r⟩
theorem call_at {f : List D → VH → Option (D × VH)} {ds : List D} {d : D} {p : P} {μ : Mu} {B : Nat → Prop} {h : VH} (e : f ds h = some (d, h)) (r : Rep μ B h p d) : ∃ d k, f ds h = some (d, h ++ k) ∧ Rep μ B (h ++ k) p d := ⟨d, [], by rw [List.append_nil]; exact e, by rw [List.append_nil]; exact r⟩
def pI2 (C : Int → Int → Bool) (f : Int → Int → Int) : P → P → Option P
  | .int i, .int j => if C i j = true then some (.int (f i j)) else none
  | _, _ => none
theorem o_I2 {C f} : Op2 (dI2 C f) (pI2 C f) := fun μ B h dx dy px py p _ _ rx ry e => by
  cases px <;> cases py <;> try cases e
  simp only [pI2] at e
  split at e
  · rename_i hz
    cases e
    unfold RepX Rep at rx ry; subst rx ry
    exact op_at (by simp only [dI2, hz, if_true]) rfl
  · cases e
def pCmp (f : Int → Int → Bool) : P → P → Option P
  | .int i, .int j => some (.bl (f i j))
  | _, _ => none
theorem o_Cmp {f} : Op2 (dCmp f) (pCmp f) := fun μ B h dx dy px py p _ _ rx ry e => by
  cases px <;> cases py <;> try cases e
  unfold RepX Rep at rx ry; subst rx ry
  exact op_at rfl rfl
def pSub := pI2 (fun _ _ => true) fun i j => i - j
def pFdiv := pI2 (fun _ j => decide (j ≠ 0) && decide (j.natAbs < 1073741824)) fun i j => i.fdiv j
def pMod := pI2 (fun _ j => decide (j ≠ 0)) fun i j => i.fmod j
def pPow := pI2 (fun i j => decide (0 ≤ j) && decide (j ≤ 1000) && decide (i.natAbs < 18446744073709551616)) fun i j => i ^ j.toNat
theorem o_sub : Op2 dSub pSub := o_I2
theorem o_fdiv : Op2 dFdiv pFdiv := o_I2
theorem o_mod : Op2 dMod pMod := o_I2
theorem o_pow : Op2 dPow pPow := o_I2
def pLt := pCmp fun i j => decide (i < j)
def pLe := pCmp fun i j => decide (i ≤ j)
def pGt := pCmp fun i j => decide (j < i)
def pGe := pCmp fun i j => decide (j ≤ i)
theorem o_lt : Op2 dLt pLt := o_Cmp
theorem o_le : Op2 dLe pLe := o_Cmp
theorem o_gt : Op2 dGt pGt := o_Cmp
theorem o_ge : Op2 dGe pGe := o_Cmp
def pAdd : P → P → Option P
  | .int i, .int j => some (.int (i + j))
  | .str a, .str b => if okLen (a.length + b.length) = true then some (.str (a ++ b)) else none
  | .tup a, .tup b => if okLen (a.length + b.length) = true then some (.tup (a ++ b)) else none
  | .lst a, .lst b => if okLen (a.length + b.length) = true then some (.lst (a ++ b)) else none
  | _, _ => none
theorem o_add : Op2 dAdd pAdd := fun μ B h dx dy px py p mu lt rx ry e => by
  cases px <;> cases py <;> try cases e
  · unfold RepX Rep at rx ry; subst rx ry
    exact op_at rfl rfl
  · unfold RepX Rep at rx ry; subst rx ry
    simp only [pAdd] at e
    split at e
    · rename_i hz
      cases e
      exact op_at (by simp only [dAdd, hz, if_true]) rfl
    · cases e
  · unfold RepX Rep at rx ry
    obtain ⟨ds, rfl, q⟩ := rx
    obtain ⟨es, rfl, q'⟩ := ry
    simp only [pAdd] at e
    split at e
    · rename_i hz
      cases e
      rw [q.length, q'.length] at hz
      refine op_at (d := .tup (ds ++ es)) (by simp only [dAdd, hz, if_true]) ?_
      unfold Rep
      exact ⟨_, rfl, q.append q'⟩
    · cases e
  · obtain ⟨m, ds, rfl, _, g, q⟩ := rx
    obtain ⟨n, es, rfl, _, g', q'⟩ := ry
    simp only [pAdd] at e
    split at e
    · rename_i hz
      cases e
      rw [q.length, q'.length] at hz
      exact ⟨_, [.lst (ds ++ es)], by simp only [dAdd, g, g', hz, if_true], Rep.newL lt (q.append q')⟩
    · cases e
def pMulT : P → P → Option P
  | .int i, .int j => if (in64 i || in64 j) = true then some (.int (i * j)) else none
  | .tup [], .int k => if (decide (2 ≤ k) && decide (k ≤ 1000)) = true then some (.tup []) else none
  | .tup (x :: xs), .int k => if (decide (2 ≤ k) && decide (k ≤ 1000) && decide ((x :: xs).length ≤ 1000)) = true then some (.tup (List.replicate k.toNat (x :: xs)).flatten) else none
  | _, _ => none
theorem o_mulT : Op2 dMulT pMulT := fun μ B h dx dy px py p mu lt rx ry e => by
  cases px with
  | int i =>
    cases py <;> try cases e
    simp only [pMulT] at e
    split at e
    · rename_i hz
      cases e
      unfold RepX Rep at rx ry; subst rx ry
      exact op_at (by simp only [dMulT, dMul, hz, if_true]) rfl
    · cases e
  | tup ps =>
    unfold RepX Rep at rx
    obtain ⟨ds, rfl, q⟩ := rx
    cases ps with
    | nil =>
      cases py <;> try cases e
      simp only [pMulT] at e
      split at e
      · rename_i hz
        cases e
        unfold Reps at q; subst q
        unfold RepX Rep at ry; subst ry
        refine op_at (d := .tup []) (by simp only [dMulT, hz, if_true]) ?_
        unfold Rep; exact ⟨_, rfl, Reps.nil⟩
      · cases e
    | cons x xs =>
      cases py <;> try cases e
      simp only [pMulT] at e
      split at e
      · rename_i hz
        cases e
        unfold RepX Rep at ry; subst ry
        have q0 := q
        unfold Reps at q
        obtain ⟨d, t, rfl, _, _⟩ := q
        rw [q0.length] at hz
        refine op_at (d := .tup (List.replicate _ (d :: t)).flatten) (by simp only [dMulT, hz, if_true]; rfl) ?_
        unfold Rep; exact ⟨_, rfl, q0.rep _⟩
      · cases e
  | _ => cases py <;> cases e
def pEq : P → P → Option P
  | .int i, .int j => some (.bl (decide (i = j)))
  | .str i, .str j => some (.bl (decide (i = j)))
  | .bl i, .bl j => some (.bl (decide (i = j)))
  | x, y => match pyP deep x, pyP deep y with
    | some a, some b => if (SeqAt.shaped a && SeqAt.shaped b) = true then some (.bl (PyData.eqv a b)) else none
    | _, _ => none
def pNe : P → P → Option P
  | .int i, .int j => some (.bl (!decide (i = j)))
  | .str i, .str j => some (.bl (!decide (i = j)))
  | .bl i, .bl j => some (.bl (!decide (i = j)))
  | x, y => match pyP deep x, pyP deep y with
    | some a, some b => if (SeqAt.shaped a && SeqAt.shaped b) = true then some (.bl (!PyData.eqv a b)) else none
    | _, _ => none
theorem eq_gen {F : D → D → VH → Option (D × VH)} {k : PyData → PyData → Bool} (hF : ∀ dx dy h a b, py h deep dx = some a → py h deep dy = some b → (SeqAt.shaped a && SeqAt.shaped b) = true → F dx dy h = some (.bl (k a b), h))
    {μ : Mu} {B : Nat → Prop} {h : VH} {dx dy : D} {px py' p : P} (rx : RepX μ B h px dx) (ry : RepX μ B h py' dy)
    (e : (match pyP deep px, pyP deep py' with | some a, some b => if (SeqAt.shaped a && SeqAt.shaped b) = true then some (P.bl (k a b)) else none | _, _ => none) = some p) : ∃ d k, F dx dy h = some (d, h ++ k) ∧ Rep μ B (h ++ k) p d := by
  split at e
  · rename_i a b ha hb
    split at e
    · rename_i hz
      cases e
      exact op_at (hF _ _ _ _ _ (py_repX rx ha) (py_repX ry hb) hz) rfl
    · cases e
  · cases e
theorem decide_eq_beq' {α : Type} [DecidableEq α] (a b : α) : decide (a = b) = (a == b) := by
  by_cases e : a = b <;> simp [e]
theorem dEq_py (dx dy : D) (h : VH) (a b : PyData) (e1 : py h deep dx = some a) (e2 : py h deep dy = some b) (sh : (SeqAt.shaped a && SeqAt.shaped b) = true) : dEq dx dy h = some (.bl (PyData.eqv a b), h) := by
  unfold dEq
  split
  · simp only [py, deep, Option.some.injEq] at e1 e2; subst e1 e2; simp [PyData.eqv, decide_eq_beq']
  · simp only [py, deep, Option.some.injEq] at e1 e2; subst e1 e2; simp [PyData.eqv, decide_eq_beq']
  · simp only [py, deep, Option.some.injEq] at e1 e2; subst e1 e2; simp [PyData.eqv, decide_eq_beq']
  · rw [e1, e2]; simp only [sh, if_true]
theorem dNe_py (dx dy : D) (h : VH) (a b : PyData) (e1 : py h deep dx = some a) (e2 : py h deep dy = some b) (sh : (SeqAt.shaped a && SeqAt.shaped b) = true) : dNe dx dy h = some (.bl (!PyData.eqv a b), h) := by
  unfold dNe
  split
  · simp only [py, deep, Option.some.injEq] at e1 e2; subst e1 e2; simp [PyData.eqv, decide_eq_beq']
  · simp only [py, deep, Option.some.injEq] at e1 e2; subst e1 e2; simp [PyData.eqv, decide_eq_beq']
  · simp only [py, deep, Option.some.injEq] at e1 e2; subst e1 e2; simp [PyData.eqv, decide_eq_beq']
  · rw [e1, e2]; simp only [sh, if_true]
theorem o_eq : Op2 dEq pEq := fun μ B h dx dy px py' p mu lt rx ry e => by
  unfold pEq at e
  split at e
  · cases e; unfold RepX Rep at rx ry; subst rx ry; exact op_at rfl rfl
  · cases e; unfold RepX Rep at rx ry; subst rx ry; exact op_at rfl rfl
  · cases e; unfold RepX Rep at rx ry; subst rx ry; exact op_at rfl rfl
  · exact eq_gen (k := PyData.eqv) dEq_py rx ry e
theorem o_ne : Op2 dNe pNe := fun μ B h dx dy px py' p mu lt rx ry e => by
  unfold pNe at e
  split at e
  · cases e; unfold RepX Rep at rx ry; subst rx ry; exact op_at rfl rfl
  · cases e; unfold RepX Rep at rx ry; subst rx ry; exact op_at rfl rfl
  · cases e; unfold RepX Rep at rx ry; subst rx ry; exact op_at rfl rfl
  · exact eq_gen (k := fun a b => !PyData.eqv a b) dNe_py rx ry e
def pIn : P → P → Option P := fun x y => match pyP deep x, pyP deep y with
  | some a, some (.tuple bs) => if (SeqAt.shaped a && SeqAt.shaped (.tuple bs)) = true then some (.bl (bs.any fun b => PyData.eqv b a)) else none
  | some a, some (.list bs) => if (SeqAt.shaped a && SeqAt.shaped (.list bs)) = true then some (.bl (bs.any fun b => PyData.eqv b a)) else none
  | _, _ => none
theorem o_in : Op2 dIn pIn := fun μ B h dx dy px py' p mu lt rx ry e => by
  unfold pIn at e
  split at e
  · rename_i a bs ha hb
    split at e
    · rename_i hz
      cases e
      exact op_at (by unfold dIn; rw [py_repX rx ha, py_repX ry hb]; simp only [hz, if_true]) rfl
    · cases e
  · rename_i a bs ha hb
    split at e
    · rename_i hz
      cases e
      exact op_at (by unfold dIn; rw [py_repX rx ha, py_repX ry hb]; simp only [hz, if_true]) rfl
    · cases e
  · cases e
def pNotIn : P → P → Option P := fun x y => match pyP deep x, pyP deep y with
  | some a, some (.tuple bs) => if (SeqAt.shaped a && SeqAt.shaped (.tuple bs)) = true then some (.bl (!bs.any fun b => PyData.eqv b a)) else none
  | some a, some (.list bs) => if (SeqAt.shaped a && SeqAt.shaped (.list bs)) = true then some (.bl (!bs.any fun b => PyData.eqv b a)) else none
  | _, _ => none
theorem o_notIn : Op2 dNotIn pNotIn := fun μ B h dx dy px py' p mu lt rx ry e => by
  unfold pNotIn at e
  split at e
  · rename_i a bs ha hb
    split at e
    · rename_i hz
      cases e
      exact op_at (by unfold dNotIn; rw [py_repX rx ha, py_repX ry hb]; simp only [hz, if_true]) rfl
    · cases e
  · rename_i a bs ha hb
    split at e
    · rename_i hz
      cases e
      exact op_at (by unfold dNotIn; rw [py_repX rx ha, py_repX ry hb]; simp only [hz, if_true]) rfl
    · cases e
  · cases e
def isNonP : P → Bool
  | .non => true
  | _ => false
theorem isNon_rep {μ : Mu} {B : Nat → Prop} {h : VH} {p : P} {d : D} (r : RepX μ B h p d) : isNon d = isNonP p := by
  cases p <;> unfold RepX at r <;> try unfold Rep at r
  all_goals first | (subst r; rfl) | (obtain ⟨ds, rfl, _⟩ := r; rfl) | (obtain ⟨n, ds, rfl, _⟩ := r; rfl)
def pIsN : P → P → Option P
  | d, .non => some (.bl (isNonP d))
  | _, _ => none
def pNotN : P → P → Option P
  | d, .non => some (.bl (!isNonP d))
  | _, _ => none
theorem o_isN : Op2 dIsN pIsN := fun μ B h dx dy px py p mu lt rx ry e => by
  cases py <;> try cases e
  unfold RepX Rep at ry; subst ry
  exact op_at (d := .bl (isNonP px)) (by simp only [dIsN, isNon_rep rx]) rfl
theorem o_notN : Op2 dNotN pNotN := fun μ B h dx dy px py p mu lt rx ry e => by
  cases py <;> try cases e
  unfold RepX Rep at ry; subst ry
  exact op_at (d := .bl (!isNonP px)) (by simp only [dNotN, isNon_rep rx]) rfl
/-! subscripts -/
def pKey : P → Option Key
  | .int i => some (.inl i)
  | .str x => some (.inr x)
  | _ => none
def valP {κ : Type} [DecidableEq κ] (ks : List κ) (vs : List P) (k : κ) : Option P := ((ks.zip vs).find? fun kv => decide (kv.1 = k)).map (·.2)
theorem valP_ok {κ : Type} [DecidableEq κ] {μ : Mu} {B : Nat → Prop} {h : VH} {k : κ} {p : P} : ∀ {ks : List κ} {vs : List P} {ds : List D}, Reps μ B h vs ds → valP ks vs k = some p → ∃ d, valD (ks.zip ds) k = some d ∧ Rep μ B h p d
  | [], _, _, _, e => by cases e
  | k0 :: ks, [], _, _, e => by cases e
  | k0 :: ks, v :: vs, _, r, e => by
    unfold Reps at r
    obtain ⟨d, t, rfl, a, b⟩ := r
    unfold valP at e
    unfold valD
    rw [List.zip_cons_cons, List.find?_cons] at e ⊢
    by_cases hk : k0 = k
    · have hd : decide (k0 = k) = true := decide_eq_true hk
      simp only [hd, Option.map_some, Option.some.injEq] at e ⊢
      subst e
      exact ⟨d, rfl, a⟩
    · have hd : decide (k0 = k) = false := decide_eq_false hk
      simp only [hd] at e ⊢
      exact valP_ok b e
theorem pKey_ok {μ : Mu} {B : Nat → Prop} {h : VH} {p : P} {d : D} {k : Key} (r : RepX μ B h p d) (e : pKey p = some k) : dKey d = some k := by
  cases p <;> try cases e
  all_goals (unfold RepX Rep at r; subst r; rfl)
theorem atI_ok {μ : Mu} {B : Nat → Prop} {h : VH} {ps : List P} {ds : List D} {i : Int} {p : P} (r : Reps μ B h ps ds) (e : atI ps i = some p) : ∃ d, atI ds i = some d ∧ Rep μ B h p d := by
  unfold atI at e ⊢
  rw [← r.length]
  obtain ⟨j, e1, e2⟩ := Option.bind_eq_some_iff.mp e
  obtain ⟨d, e3, q⟩ := r.get e2
  exact ⟨d, by rw [e1]; exact e3, q⟩
def pIx : P → P → Option P
  | .lst xs, .int i => atI xs i
  | .tup xs, .int i => atI xs i
  | .wt xs, .int i => atI xs i
  | .rl xs, .int i => atI xs i
  | .dK ks vs, k => (pKey k).bind fun k => valP ks vs k
  | _, _ => none
theorem o_ix : Op2 dIx pIx := fun μ B h dx dy px py p mu lt rx ry e => by
  unfold pIx at e
  split at e
  · obtain ⟨n, ds, rfl, _, g, q⟩ := rx
    unfold RepX Rep at ry; subst ry
    obtain ⟨d, e1, r⟩ := atI_ok q e
    exact op_at (by simp only [dIx, g, e1, Option.bind_some]) r
  · unfold RepX Rep at rx ry
    obtain ⟨ds, rfl, q⟩ := rx
    subst ry
    obtain ⟨d, e1, r⟩ := atI_ok q e
    exact op_at (by simp only [dIx, seqOf, lstOf, tupOf, Option.or, Option.bind_some, e1]) r
  · unfold RepX Rep at rx ry
    obtain ⟨ds, rfl, q⟩ := rx
    subst ry
    obtain ⟨d, e1, r⟩ := atI_ok q e
    exact op_at (by simp only [dIx, seqOf, lstOf, tupOf, Option.or, Option.bind_some, e1]) r
  · unfold RepX Rep at rx ry
    obtain ⟨ds, rfl, q⟩ := rx
    subst ry
    obtain ⟨d, e1, r⟩ := atI_ok q e
    exact op_at (by simp only [dIx, seqOf, lstOf, tupOf, Option.or, Option.bind_some, e1]) r
  · obtain ⟨n, ds, rfl, _, g, l, q⟩ := rx
    obtain ⟨k, e1, e2⟩ := Option.bind_eq_some_iff.mp e
    obtain ⟨d, e3, r⟩ := valP_ok q e2
    exact op_at (by simp only [dIx, g, pKey_ok ry e1, Option.bind_some, e3]) r
  · cases e
/-! ### built-in functions -/
def itemsP : P → Option (List P)
  | .lst xs => some xs
  | .rl xs => some xs
  | .tup xs => some xs
  | .wt xs => some xs
  | _ => none
theorem items_ok {μ : Mu} {B : Nat → Prop} {h : VH} {p : P} {d : D} {xs : List P} (r : RepX μ B h p d) (e : itemsP p = some xs) : ∃ ds, seqOf h d = some ds ∧ Reps μ B h xs ds := by
  cases p <;> try cases e
  · unfold RepX Rep at r; obtain ⟨ds, rfl, q⟩ := r; exact ⟨ds, rfl, q⟩
  · unfold RepX Rep at r; obtain ⟨ds, rfl, q⟩ := r; exact ⟨ds, rfl, q⟩
  · obtain ⟨n, ds, rfl, _, g, q⟩ := r; exact ⟨ds, by simp only [seqOf, lstOf, g, Option.or], q⟩
  · unfold RepX Rep at r; obtain ⟨ds, rfl, q⟩ := r; exact ⟨ds, rfl, q⟩
theorem repXs1 {μ : Mu} {B : Nat → Prop} {h : VH} {p : P} {ds : List D} (r : RepXs μ B h [p] ds) : ∃ d, ds = [d] ∧ RepX μ B h p d := by
  obtain ⟨d, t, rfl, a, rfl⟩ := r
  exact ⟨d, rfl, a⟩
theorem repXs2 {μ : Mu} {B : Nat → Prop} {h : VH} {p q : P} {ds : List D} (r : RepXs μ B h [p, q] ds) : ∃ d e, ds = [d, e] ∧ RepX μ B h p d ∧ RepX μ B h q e := by
  obtain ⟨d, t, rfl, a, d', t', rfl, a', rfl⟩ := r
  exact ⟨d, d', rfl, a, a'⟩
def pLen : List P → Option P
  | [.str x] => if okLen x.length = true then some (.int x.length) else none
  | [p] => (itemsP p).bind fun xs => some (.int xs.length)
  | _ => none
theorem c_len : CallP dLen pLen := fun μ B h ds ps p mu lt r e => by
  unfold pLen at e
  split at e
  · obtain ⟨d, rfl, a⟩ := repXs1 r
    unfold RepX Rep at a; subst a
    split at e
    · rename_i hz
      cases e
      exact call_at (by simp only [dLen, hz, if_true]) rfl
    · cases e
  · rename_i q hq
    obtain ⟨d, rfl, a⟩ := repXs1 r
    obtain ⟨xs, e1, e2⟩ := Option.bind_eq_some_iff.mp e
    cases e2
    obtain ⟨es, e3, q⟩ := items_ok a e1
    refine call_at (d := .int es.length) ?_ (by rw [← q.length]; rfl)
    cases d <;> first | (cases e3; done) | (simp only [dLen, e3, Option.bind_some])
  · cases e
def pInt : List P → Option P
  | [.int i] => some (.int i)
  | [.bl b] => some (.int (if b then 1 else 0))
  | _ => none
theorem c_int : CallP dInt pInt := fun μ B h ds ps p mu lt r e => by
  unfold pInt at e
  split at e
  · cases e; obtain ⟨d, rfl, a⟩ := repXs1 r; unfold RepX Rep at a; subst a; exact call_at rfl rfl
  · cases e; obtain ⟨d, rfl, a⟩ := repXs1 r; unfold RepX Rep at a; subst a; exact call_at rfl rfl
  · cases e
def pTupleOf : List P → Option P
  | [.tup xs] => some (.tup xs)
  | [.lst xs] => some (.tup xs)
  | [.rl xs] => some (.tup xs)
  | _ => none
theorem c_tuple : CallP dTupleOf pTupleOf := fun μ B h ds ps p mu lt r e => by
  unfold pTupleOf at e
  split at e
  · cases e; obtain ⟨d, rfl, a⟩ := repXs1 r; unfold RepX Rep at a; obtain ⟨es, rfl, q⟩ := a
    exact call_at (d := .tup es) rfl (by unfold Rep; exact ⟨_, rfl, q⟩)
  · cases e; obtain ⟨d, rfl, a⟩ := repXs1 r; obtain ⟨n, es, rfl, _, g, q⟩ := a
    exact call_at (d := .tup es) (by simp only [dTupleOf, lstOf, g, Option.bind_some]) (by unfold Rep; exact ⟨_, rfl, q⟩)
  · cases e; obtain ⟨d, rfl, a⟩ := repXs1 r; unfold RepX Rep at a; obtain ⟨es, rfl, q⟩ := a
    exact call_at (d := .tup es) rfl (by unfold Rep; exact ⟨_, rfl, q⟩)
  · cases e
def pListOf : List P → Option P
  | [p] => (itemsP p).bind fun xs => some (.lst xs)
  | _ => none
theorem c_list : CallP dListOf pListOf := fun μ B h ds ps p mu lt r e => by
  unfold pListOf at e
  split at e
  · obtain ⟨d, rfl, a⟩ := repXs1 r
    obtain ⟨xs, e1, e2⟩ := Option.bind_eq_some_iff.mp e
    cases e2
    obtain ⟨es, e3, q⟩ := items_ok a e1
    exact ⟨_, [.lst es], by simp only [dListOf, e3, Option.bind_some], Rep.newL lt q⟩
  · cases e
def pRepr : List P → Option P
  | [d] => (pyP deep d).bind fun p => if (p.showable && okLen p.shown.length && !p.hasDict && decide (p.depth ≤ 60)) = true then some (.str p.shown) else none
  | _ => none
theorem c_repr : CallP dRepr pRepr := fun μ B h ds ps p mu lt r e => by
  unfold pRepr at e
  split at e
  · obtain ⟨d, rfl, a⟩ := repXs1 r
    obtain ⟨x, e1, e2⟩ := Option.bind_eq_some_iff.mp e
    split at e2
    · rename_i hz
      cases e2
      exact call_at (by simp only [dRepr, py_repX a e1, Option.bind_some, hz, if_true]) rfl
    · cases e2
  · cases e
def tagP : P → Option Nat
  | .non => some 0
  | .bl _ => some 1
  | .int _ => some 2
  | .str _ => some 3
  | .tup _ => some 4
  | .wt _ => some 4
  | .lst _ => some 5
  | .dK _ _ => some 6
  | _ => none
theorem tag_rep {μ : Mu} {B : Nat → Prop} {h : VH} {p : P} {d : D} {a : Nat} (r : RepX μ B h p d) (e : tagP p = some a) : tag h d = some a := by
  cases p <;> try cases e
  · unfold RepX Rep at r; subst r; rfl
  · unfold RepX Rep at r; subst r; rfl
  · unfold RepX Rep at r; subst r; rfl
  · unfold RepX Rep at r; subst r; rfl
  · unfold RepX Rep at r; obtain ⟨ds, rfl, q⟩ := r; rfl
  · unfold RepX Rep at r; obtain ⟨ds, rfl, q⟩ := r; rfl
  · obtain ⟨n, ds, rfl, _, g, q⟩ := r; simp only [tag, g]
  · obtain ⟨n, ds, rfl, _, g, q⟩ := r; simp only [tag, g]
def pIsI : List P → Option P
  | [d, .ty t] => (tagP d).bind fun a => (tagT t).bind fun b => some (.bl (a == b || (a == 1 && b == 2)))
  | _ => none
theorem c_isi : CallP dIsI pIsI := fun μ B h ds ps p mu lt r e => by
  unfold pIsI at e
  split at e
  · obtain ⟨d, d', rfl, a, a'⟩ := repXs2 r
    unfold RepX Rep at a'; subst a'
    obtain ⟨x, e1, e2⟩ := Option.bind_eq_some_iff.mp e
    obtain ⟨y, e3, e4⟩ := Option.bind_eq_some_iff.mp e2
    cases e4
    exact call_at (by simp only [dIsI, tag_rep a e1, Option.bind_some, e3]) rfl
  · cases e
/-! truth, slices, methods -/
def pTru : P → Option Bool
  | .non => some false
  | .bl b => some b
  | .int i => some (i != 0)
  | .str x => if x.length ≤ lim then some ((x.length : Int) != 0) else none
  | .tup xs => some (!xs.isEmpty)
  | .wt xs => some (!xs.isEmpty)
  | .rl xs => some (!xs.isEmpty)
  | .lst xs => some (!xs.isEmpty)
  | _ => none
theorem tru_ok {μ : Mu} {B : Nat → Prop} {h : VH} {p : P} {d : D} {b : Bool} (r : RepX μ B h p d) (e : pTru p = some b) : dTru d h = some b := by
  cases p <;> try cases e
  · unfold RepX Rep at r; subst r; rfl
  · unfold RepX Rep at r; subst r; rfl
  · unfold RepX Rep at r; subst r; rfl
  · unfold RepX Rep at r; subst r; exact e
  · unfold RepX Rep at r; obtain ⟨ds, rfl, q⟩ := r; simp only [dTru, q.isEmpty]
  · unfold RepX Rep at r; obtain ⟨ds, rfl, q⟩ := r; simp only [dTru, q.isEmpty]
  · obtain ⟨n, ds, rfl, _, g, q⟩ := r; simp only [dTru, g, q.isEmpty]
  · unfold RepX Rep at r; obtain ⟨ds, rfl, q⟩ := r; simp only [dTru, q.isEmpty]
def cutP (xs : List P) (lo hi : Option Int) : List P := (xs.drop (HT.sIx xs.length 0 lo)).take (HT.sIx xs.length xs.length hi - HT.sIx xs.length 0 lo)
theorem Reps.cut {μ : Mu} {B : Nat → Prop} {h : VH} {ps : List P} {ds : List D} (r : Reps μ B h ps ds) (lo hi : Option Int) : Reps μ B h (cutP ps lo hi) (Vm.cutD ds lo hi) := by
  unfold cutP Vm.cutD
  rw [r.length]
  exact (r.drop _).take _
def pSlice : P → Option Int → Option Int → Option P
  | .tup xs, lo, hi => some (.tup (cutP xs lo hi))
  | .lst xs, lo, hi => some (.lst (cutP xs lo hi))
  | .rl xs, lo, hi => some (.lst (cutP xs lo hi))
  | _, _, _ => none
theorem slice_ok {μ : Mu} {B : Nat → Prop} {h : VH} {p q : P} {d : D} {lo hi : Option Int} (lt : ∀ n, B n → n < h.length) (r : RepX μ B h p d) (e : pSlice p lo hi = some q) : ∃ d' k, dSlice d lo hi h = some (d', h ++ k) ∧ Rep μ B (h ++ k) q d' := by
  cases p <;> try cases e
  · unfold RepX Rep at r; obtain ⟨ds, rfl, q⟩ := r
    exact ⟨.tup (Vm.cutD ds lo hi), [], by simp only [dSlice, List.append_nil], by rw [List.append_nil]; unfold Rep; exact ⟨_, rfl, q.cut lo hi⟩⟩
  · obtain ⟨n, ds, rfl, _, g, q⟩ := r
    exact ⟨_, [.lst (Vm.cutD ds lo hi)], by simp only [dSlice, lstOf, g, Option.bind_some], Rep.newL lt (q.cut lo hi)⟩
  · unfold RepX Rep at r; obtain ⟨ds, rfl, q⟩ := r
    exact ⟨_, [.lst (Vm.cutD ds lo hi)], by simp only [dSlice, lstOf, Option.bind_some], Rep.newL lt (q.cut lo hi)⟩
def intsP : List P → Option (List Int)
  | [] => some []
  | .int i :: r => (intsP r).map (i :: ·)
  | _ => none
theorem ints_ok {μ : Mu} {B : Nat → Prop} {h : VH} : ∀ {ps : List P} {ds : List D} {ns : List Int}, Reps μ B h ps ds → intsP ps = some ns → intsOf ds = some ns
  | [], _, ns, r, e => by unfold Reps at r; subst r; exact e
  | p :: ps, _, ns, r, e => by
    unfold Reps at r
    obtain ⟨d, t, rfl, a, b⟩ := r
    cases p <;> try cases e
    simp only [intsP, Option.map_eq_some_iff] at e
    obtain ⟨ms, e1, rfl⟩ := e
    unfold Rep at a; subst a
    simp only [intsOf, ints_ok b e1, Option.map_some]
def pIndex : P → P → Option P
  | .tup xs, .int k => (intsP xs).bind fun ns => if k ∈ ns then some (.int (ns.idxOf k)) else none
  | _, _ => none
theorem o_index : Op2 dIndex pIndex := fun μ B h dx dy px py p mu lt rx ry e => by
  unfold pIndex at e
  split at e
  · unfold RepX Rep at rx ry
    obtain ⟨ds, rfl, q⟩ := rx
    subst ry
    obtain ⟨ns, e1, e2⟩ := Option.bind_eq_some_iff.mp e
    split at e2
    · rename_i hz
      cases e2
      exact op_at (by simp only [dIndex, tupOf, ints_ok q e1, Option.bind_some, hz, if_true]) rfl
    · cases e2
  · cases e
end Pu
namespace Pu
open PySem PySem.Spec PyProof.Rows L2 Vm
/-! ### expressions -/
def qVar (i : Nat) : PM := fun pe s => match pe[i]? with | some (some p) => some (p, s) | _ => none
def qC (p : P) : PM := fun _ s => some (p, s)
def qBin (g : P → P → Option P) (a b : PM) : PM := fun pe s => (a pe s).bind fun x => (b pe x.2).bind fun y => (g x.1 y.1).bind fun z => some (z, y.2)
def qIf (c : PBM) (a b : PM) : PM := fun pe s => (c pe s).bind fun x => if x.1 = true then a pe x.2 else b pe x.2
def qNil : PAM := fun _ s => some ([], s)
def qCons (a : PM) (r : PAM) : PAM := fun pe s => (a pe s).bind fun x => (r pe x.2).bind fun y => some (x.1 :: y.1, y.2)
def qTup (a : PAM) : PM := fun pe s => (a pe s).bind fun x => if x.1.length ≤ lim then some (.tup x.1, x.2) else none
def qLst (a : PAM) : PM := fun pe s => (a pe s).bind fun x => if x.1.length ≤ lim then some (.lst x.1, x.2) else none
/-- a def of the text -/
def qFn (F : List P → S → Option (P × S)) (a : PAM) : PM := fun pe s => (a pe s).bind fun x => F x.1 x.2
/-- a def of the text, whose answer holds no list -/
def qFnW (F : List P → S → Option (P × S)) (a : PAM) : PM := fun pe s => (a pe s).bind fun x => (F x.1 x.2).bind fun y => if flat y.1 = true then some y else none
/-- a built-in function -/
def qB (G : List P → Option P) (a : PAM) : PM := fun pe s => (a pe s).bind fun x => (G x.1).bind fun z => some (z, x.2)
def qbV (a : PM) : PBM := fun pe s => (a pe s).bind fun x => match x.1 with | .bl b => some (b, x.2) | _ => none
def qbT (a : PM) : PBM := fun pe s => (a pe s).bind fun x => (pTru x.1).bind fun b => some (b, x.2)
def qbAnd (a b : PBM) : PBM := fun pe s => (a pe s).bind fun x => if x.1 = true then b pe x.2 else some (false, x.2)
def qbOr (a b : PBM) : PBM := fun pe s => (a pe s).bind fun x => if x.1 = true then some (true, x.2) else b pe x.2
def qbNot (a : PBM) : PBM := fun pe s => (a pe s).bind fun x => some (!x.1, x.2)
def qAnd (a b : PM) : PM := fun pe s => (a pe s).bind fun x => (pTru x.1).bind fun k => if k = true then b pe x.2 else some x
def qOr (a b : PM) : PM := fun pe s => (a pe s).bind fun x => (pTru x.1).bind fun k => if k = true then some x else b pe x.2
def qNot (a : PM) : PM := fun pe s => (a pe s).bind fun x => (pTru x.1).bind fun k => some (.bl (!k), x.2)
def qNeg (a : PM) : PM := fun pe s => (a pe s).bind fun x => match x.1 with | .int i => some (.int (-i), x.2) | _ => none
def qChain (f g : P → P → Option P) (a b c : PM) : PM := fun pe s => (a pe s).bind fun x => (b pe x.2).bind fun y => (f x.1 y.1).bind fun r =>
  match r with
  | .bl true => (c pe y.2).bind fun z => (g y.1 z.1).bind fun v => some (v, z.2)
  | .bl false => some (.bl false, y.2)
  | _ => none
abbrev POM := PEn → S → Option (Option Int × S)
def qoNone : POM := fun _ s => some (none, s)
def qoSome (m : PM) : POM := fun pe s => (m pe s).bind fun x => match x.1 with | .int i => some (some i, x.2) | _ => none
def qSlice (m : PM) (lo hi : POM) : PM := fun pe s => (m pe s).bind fun x => (lo pe x.2).bind fun l => (hi pe l.2).bind fun u => (pSlice x.1 l.1 u.1).bind fun z => some (z, u.2)
def qRevT (m : PM) : PM := fun pe s => (m pe s).bind fun x => match x.1 with | .tup xs => some (.tup xs.reverse, x.2) | _ => none
abbrev PRM := PEn → S → Option ((Int × Int) × S)
def qRg1 (a : PM) : PRM := fun pe s => (a pe s).bind fun x => match x.1 with | .int j => some ((0, j), x.2) | _ => none
def qRg2 (a b : PM) : PRM := fun pe s => (a pe s).bind fun x => (b pe x.2).bind fun y => match x.1, y.1 with | .int i, .int j => some ((i, j), y.2) | _, _ => none
def prng (lo : Int) (n : Nat) : List P := (List.range n).map fun (i : Nat) => P.int (lo + (i : Int))
def qTupR (m : PRM) : PM := fun pe s => (m pe s).bind fun x => if rgSm x.1.1 x.1.2 = true then some (.tup (prng x.1.1 (x.1.2 - x.1.1).toNat), x.2) else none
def qLstR (m : PRM) : PM := fun pe s => (m pe s).bind fun x => if rgSm x.1.1 x.1.2 = true then some (.lst (prng x.1.1 (x.1.2 - x.1.1).toNat), x.2) else none
abbrev PTbl := String → Option (Nat × (List P → S → Option (P × S)))
def qCallL (i : Nat) (t : PTbl) (a : PAM) : PM := fun pe s => match pe[i]? with
  | some (some (.fn x)) => (t x).bind fun f => (a pe s).bind fun y => if y.1.length = f.1 then f.2 y.1 y.2 else none
  | _ => none
def qFnK (n : Nat) (pm : List Nat) (F : List P → S → Option (P × S)) (m : PAM) : PM := fun pe s => (m pe s).bind fun x => if (perm pm x.1).length = n then F (perm pm x.1) x.2 else none

theorem prng_rep {μ : Mu} {B : Nat → Prop} {h : VH} (lo : Int) (n : Nat) : Reps μ B h (prng lo n) (rng lo n) := by
  unfold prng rng
  generalize List.range n = l
  induction l with
  | nil => exact Reps.nil
  | cons i l ih => exact Reps.cons rfl ih
section
variable {O : Nat → Bool} {a b c : EM} {p q r : PM} {ba bb : BM} {qa qb : PBM} {ma : AM} {pa : PAM}
theorem es_var (i : Nat) (hO : O i = false := by rfl) : ES O (mVar i) (qVar i) := fun μ B0 h env pe w s p s' I e => by
  unfold qVar at e
  split at e
  · rename_i x hx
    cases e
    obtain ⟨d, e1, r⟩ := I.pl i _ hO hx
    exact ⟨d, h, by simp only [mVar, e1], .refl, I.si, r⟩
  · cases e
theorem et_var (i : Nat) : ET O (mVar i) (qVar i) := fun μ B0 h env pe w s p s' I e => by
  unfold qVar at e
  split at e
  · rename_i x hx
    cases e
    cases hO : O i with
    | false =>
      obtain ⟨d, e1, r⟩ := I.pl i _ hO hx
      exact ⟨d, h, by simp only [mVar, e1], .refl, I.si, r.x I.mu'⟩
    | true =>
      obtain ⟨a, _, e1, r⟩ := I.ow i _ hO hx
      exact ⟨_, h, by simp only [mVar, e1], .refl, I.si, r⟩
  · cases e
theorem er_var (i : Nat) : ER O (mVar i) (qVar i) := fun μ B0 h env pe w s p s' I e => by
  unfold qVar at e
  split at e
  · rename_i x hx
    cases e
    cases hO : O i with
    | false =>
      obtain ⟨d, e1, r⟩ := I.pl i _ hO hx
      exact ⟨d, h, by simp only [mVar, e1], .refl, I.si, r.mono (Stp.less fun _ z => .inl z)⟩
    | true =>
      obtain ⟨a, e0, e1, r⟩ := I.ow i _ hO hx
      refine ⟨.ref a, h, by simp only [mVar, e1], .refl, I.si, ?_⟩
      have na := (I.own i a e0).2.1
      have le : ∀ n, B0 n → bl B0 w n := fun n z => .inl z
      cases p with
      | lst ps => obtain ⟨n, ds, e2, _, g, q⟩ := r; cases e2; unfold Rep; exact ⟨a, ds, rfl, na, g, q.mono (Stp.less le)⟩
      | dK ks ps => obtain ⟨n, ds, e2, _, g, l, q⟩ := r; cases e2; unfold Rep; exact ⟨a, ds, rfl, na, g, l, q.mono (Stp.less le)⟩
      | dT ks ps => obtain ⟨n, ds, e2, _, g, l, q⟩ := r; cases e2; unfold Rep; exact ⟨a, ds, rfl, na, g, l, q.mono (Stp.less le)⟩
      | _ => exact Rep.mono (Stp.less le) (p := _) r
  · cases e
theorem es_c (x : P) {d : D} (hc : isC x = true := by rfl) (hd : cst x = d := by rfl) : ES O (mC d) (qC x) := fun μ B0 h env pe w s p s' I e => by
  cases e
  subst hd
  exact ⟨_, h, rfl, .refl, I.si, rep_c hc⟩
theorem es_bin {f : D → D → VH → Option (D × VH)} {g : P → P → Option P} (o : Op2 f g) (ha : ET O a p) (hb : ET O b q) : ES O (mBin f a b) (qBin g p q) := fun μ B0 h env pe w s z s' I e => by
  unfold qBin at e
  obtain ⟨⟨x, s1⟩, e1, e⟩ := Option.bind_eq_some_iff.mp e
  obtain ⟨⟨y, s2⟩, e2, e⟩ := Option.bind_eq_some_iff.mp e
  obtain ⟨v, e3, e⟩ := Option.bind_eq_some_iff.mp e
  cases e
  obtain ⟨d1, h1, f1, k1, i1, r1⟩ := ha _ _ _ _ _ _ _ _ _ I e1
  have I1 := I.keep k1 i1
  obtain ⟨d2, h2, f2, k2, i2, r2⟩ := hb _ _ _ _ _ _ _ _ _ I1 e2
  have I2 := I1.keep k2 i2
  obtain ⟨d, k, f3, r3⟩ := o μ _ h2 _ _ _ _ _ I.mu' I2.lt' (r1.kp I.mu' k2) r2 e3
  exact ⟨d, h2 ++ k, by simp only [mBin, f1, f2, f3, Option.bind_some], (k1.trans k2).trans (.app k), i2.app k, r3⟩
theorem as_nil : AS O mNil qNil := fun μ B0 h env pe w s p s' I e => by
  cases e; exact ⟨[], h, rfl, .refl, I.si, Reps.nil⟩
theorem as_cons (ha : ES O a p) (hr : AS O ma pa) : AS O (mCons a ma) (qCons p pa) := fun μ B0 h env pe w s z s' I e => by
  unfold qCons at e
  obtain ⟨⟨x, s1⟩, e1, e⟩ := Option.bind_eq_some_iff.mp e
  obtain ⟨⟨y, s2⟩, e2, e⟩ := Option.bind_eq_some_iff.mp e
  cases e
  obtain ⟨d1, h1, f1, k1, i1, r1⟩ := ha _ _ _ _ _ _ _ _ _ I e1
  have I1 := I.keep k1 i1
  obtain ⟨d2, h2, f2, k2, i2, r2⟩ := hr _ _ _ _ _ _ _ _ _ I1 e2
  exact ⟨d1 :: d2, h2, by simp only [mCons, f1, f2, Option.bind_some], k1.trans k2, i2, Reps.cons (r1.mono (Stp.kp I.mu' k2)) r2⟩
theorem at_nil : AT O mNil qNil := fun μ B0 h env pe w s p s' I e => by
  cases e; exact ⟨[], h, rfl, .refl, I.si, rfl⟩
theorem at_cons (ha : ET O a p) (hr : AT O ma pa) : AT O (mCons a ma) (qCons p pa) := fun μ B0 h env pe w s z s' I e => by
  unfold qCons at e
  obtain ⟨⟨x, s1⟩, e1, e⟩ := Option.bind_eq_some_iff.mp e
  obtain ⟨⟨y, s2⟩, e2, e⟩ := Option.bind_eq_some_iff.mp e
  cases e
  obtain ⟨d1, h1, f1, k1, i1, r1⟩ := ha _ _ _ _ _ _ _ _ _ I e1
  have I1 := I.keep k1 i1
  obtain ⟨d2, h2, f2, k2, i2, r2⟩ := hr _ _ _ _ _ _ _ _ _ I1 e2
  exact ⟨d1 :: d2, h2, by simp only [mCons, f1, f2, Option.bind_some], k1.trans k2, i2, d1, d2, rfl, r1.kp I.mu' k2, r2⟩
theorem ar_nil : AR O mNil qNil := fun μ B0 h env pe w s p s' I e => by
  cases e; exact ⟨[], h, rfl, .refl, I.si, Reps.nil⟩
theorem ar_cons (ha : ER O a p) (hr : AR O ma pa) : AR O (mCons a ma) (qCons p pa) := fun μ B0 h env pe w s z s' I e => by
  unfold qCons at e
  obtain ⟨⟨x, s1⟩, e1, e⟩ := Option.bind_eq_some_iff.mp e
  obtain ⟨⟨y, s2⟩, e2, e⟩ := Option.bind_eq_some_iff.mp e
  cases e
  obtain ⟨d1, h1, f1, k1, i1, r1⟩ := ha _ _ _ _ _ _ _ _ _ I e1
  have I1 := I.keep k1 i1
  obtain ⟨d2, h2, f2, k2, i2, r2⟩ := hr _ _ _ _ _ _ _ _ _ I1 e2
  exact ⟨d1 :: d2, h2, by simp only [mCons, f1, f2, Option.bind_some], k1.trans k2, i2, Reps.cons (r1.mono (Stp.kp I.mu k2)) r2⟩
theorem es_tup (ha : AS O ma pa) : ES O (mTup ma) (qTup pa) := fun μ B0 h env pe w s z s' I e => by
  unfold qTup at e
  obtain ⟨⟨x, s1⟩, e1, e⟩ := Option.bind_eq_some_iff.mp e
  split at e
  · rename_i hz
    cases e
    obtain ⟨d1, h1, f1, k1, i1, r1⟩ := ha _ _ _ _ _ _ _ _ _ I e1
    simp only at hz
    rw [r1.length] at hz
    exact ⟨.tup d1, h1, by simp only [mTup, f1, Option.bind_some, hz, if_true], k1, i1, by unfold Rep; exact ⟨_, rfl, r1⟩⟩
  · cases e
theorem er_tup (ha : AR O ma pa) : ER O (mTup ma) (qTup pa) := fun μ B0 h env pe w s z s' I e => by
  unfold qTup at e
  obtain ⟨⟨x, s1⟩, e1, e⟩ := Option.bind_eq_some_iff.mp e
  split at e
  · rename_i hz
    cases e
    obtain ⟨d1, h1, f1, k1, i1, r1⟩ := ha _ _ _ _ _ _ _ _ _ I e1
    simp only at hz
    rw [r1.length] at hz
    exact ⟨.tup d1, h1, by simp only [mTup, f1, Option.bind_some, hz, if_true], k1, i1, by unfold Rep; exact ⟨_, rfl, r1⟩⟩
  · cases e
/-- a new list -/
theorem newF {μ : Mu} {B0 : Nat → Prop} {h h1 : VH} {env : En} {pe : PEn} {w : Nat → Option Nat} {s s1 : S} {ps : List P} {ds : List D} (I : In μ B0 O h env pe w s) (k1 : Kp μ h h1) (i1 : SI μ h1 s1) (r1 : Reps μ (bl B0 w) h1 ps ds) :
    Kp μ h (h1 ++ [.lst ds]) ∧ SI μ (h1 ++ [.lst ds]) s1 ∧ h.length ≤ h1.length ∧ h1.length < (h1 ++ [VO.lst ds]).length ∧ RepX μ (fun a => bl B0 w a ∨ a = h1.length) (h1 ++ [.lst ds]) (.lst ps) (.ref h1.length) ∧ Rep μ (bl B0 w) (h1 ++ [.lst ds]) (.lst ps) (.ref h1.length) := by
  have I1 := I.keep k1 i1
  refine ⟨k1.trans (.app _), i1.app _, k1.len, by simp, ⟨_, ds, rfl, fun z => ?_, get_new', r1.mono fun n o b e => ⟨fun z => z.elim b fun z => ?_, get_app e _⟩⟩, Rep.newL I1.lt' r1⟩
  · exact Nat.lt_irrefl _ (I1.lt _ (I.mu _ z))
  · subst z; exact Nat.lt_irrefl _ (List.getElem?_eq_some_iff.mp e).1
theorem ef_lst (ha : AS O ma pa) : EF O (mLst ma) (qLst pa) := fun μ B0 h env pe w s z s' I e => by
  unfold qLst at e
  obtain ⟨⟨x, s1⟩, e1, e⟩ := Option.bind_eq_some_iff.mp e
  split at e
  · rename_i hz
    cases e
    obtain ⟨d1, h1, f1, k1, i1, r1⟩ := ha _ _ _ _ _ _ _ _ _ I e1
    simp only at hz
    rw [r1.length] at hz
    obtain ⟨x1, x2, x3, x4, x5, x6⟩ := newF I k1 i1 r1
    exact ⟨h1.length, h1 ++ [.lst d1], by simp only [mLst, f1, Option.bind_some, hz, if_true], x1, x2, x3, x4, x5, x6⟩
  · cases e
theorem es_fn {f : List D → VH → Option (D × VH)} {F : List P → S → Option (P × S)} (hf : FnP f F) (ha : AS O ma pa) : ES O (mFn f ma) (qFn F pa) := fun μ B0 h env pe w s z s' I e => by
  unfold qFn at e
  obtain ⟨⟨x, s1⟩, e1, e⟩ := Option.bind_eq_some_iff.mp e
  obtain ⟨d1, h1, f1, k1, i1, r1⟩ := ha _ _ _ _ _ _ _ _ _ I e1
  have I1 := I.keep k1 i1
  obtain ⟨d, h2, f2, k2, i2, r2⟩ := hf μ (bl B0 w) h1 s1 d1 x z s' I.mu' I1.lt' i1 r1 e
  exact ⟨d, h2, by simp only [mFn, f1, f2, Option.bind_some], k1.trans k2, i2, r2⟩
theorem er_fn {f : List D → VH → Option (D × VH)} {F : List P → S → Option (P × S)} (hf : FnP f F) (ha : AR O ma pa) : ER O (mFn f ma) (qFn F pa) := fun μ B0 h env pe w s z s' I e => by
  unfold qFn at e
  obtain ⟨⟨x, s1⟩, e1, e⟩ := Option.bind_eq_some_iff.mp e
  obtain ⟨d1, h1, f1, k1, i1, r1⟩ := ha _ _ _ _ _ _ _ _ _ I e1
  have I1 := I.keep k1 i1
  obtain ⟨d, h2, f2, k2, i2, r2⟩ := hf μ B0 h1 s1 d1 x z s' I.mu I1.lt i1 r1 e
  exact ⟨d, h2, by simp only [mFn, f1, f2, Option.bind_some], k1.trans k2, i2, r2⟩
theorem es_fnW {f : List D → VH → Option (D × VH)} {F : List P → S → Option (P × S)} (hf : FnP f F) (ha : AR O ma pa) : ES O (mFn f ma) (qFnW F pa) := fun μ B0 h env pe w s z s' I e => by
  unfold qFnW at e
  obtain ⟨⟨x, s1⟩, e1, e⟩ := Option.bind_eq_some_iff.mp e
  obtain ⟨⟨y, s2⟩, e2, e⟩ := Option.bind_eq_some_iff.mp e
  split at e
  · rename_i hz
    cases e
    obtain ⟨d1, h1, f1, k1, i1, r1⟩ := ha _ _ _ _ _ _ _ _ _ I e1
    have I1 := I.keep k1 i1
    obtain ⟨d, h2, f2, k2, i2, r2⟩ := hf μ B0 h1 s1 d1 x _ _ I.mu I1.lt i1 r1 e2
    exact ⟨d, h2, by simp only [mFn, f1, f2, Option.bind_some], k1.trans k2, i2, Rep.flat hz r2⟩
  · cases e
theorem es_b {f : List D → VH → Option (D × VH)} {G : List P → Option P} (hf : CallP f G) (ha : AT O ma pa) : ES O (mFn f ma) (qB G pa) := fun μ B0 h env pe w s z s' I e => by
  unfold qB at e
  obtain ⟨⟨x, s1⟩, e1, e⟩ := Option.bind_eq_some_iff.mp e
  obtain ⟨y, e2, e⟩ := Option.bind_eq_some_iff.mp e
  cases e
  obtain ⟨d1, h1, f1, k1, i1, r1⟩ := ha _ _ _ _ _ _ _ _ _ I e1
  have I1 := I.keep k1 i1
  obtain ⟨d, k, f2, r2⟩ := hf μ _ h1 d1 x _ I.mu' I1.lt' r1 e2
  exact ⟨d, h1 ++ k, by simp only [mFn, f1, f2, Option.bind_some], k1.trans (.app k), i1.app k, r2⟩
theorem bs_v (ha : ET O a p) : BS O (bV a) (qbV p) := fun μ B0 h env pe w s z s' I e => by
  unfold qbV at e
  obtain ⟨⟨x, s1⟩, e1, e⟩ := Option.bind_eq_some_iff.mp e
  obtain ⟨d1, h1, f1, k1, i1, r1⟩ := ha _ _ _ _ _ _ _ _ _ I e1
  cases x <;> try cases e
  unfold RepX Rep at r1; subst r1
  exact ⟨h1, by simp only [bV, f1, Option.bind_some], k1, i1⟩
theorem bs_t (ha : ET O a p) : BS O (bT dTru a) (qbT p) := fun μ B0 h env pe w s z s' I e => by
  unfold qbT at e
  obtain ⟨⟨x, s1⟩, e1, e⟩ := Option.bind_eq_some_iff.mp e
  obtain ⟨b, e2, e⟩ := Option.bind_eq_some_iff.mp e
  cases e
  obtain ⟨d1, h1, f1, k1, i1, r1⟩ := ha _ _ _ _ _ _ _ _ _ I e1
  exact ⟨h1, by simp only [bT, f1, Option.bind_some, tru_ok r1 e2], k1, i1⟩
theorem bs_and (ha : BS O ba qa) (hb : BS O bb qb) : BS O (bAnd ba bb) (qbAnd qa qb) := fun μ B0 h env pe w s z s' I e => by
  unfold qbAnd at e
  obtain ⟨⟨x, s1⟩, e1, e⟩ := Option.bind_eq_some_iff.mp e
  obtain ⟨h1, f1, k1, i1⟩ := ha _ _ _ _ _ _ _ _ _ I e1
  have I1 := I.keep k1 i1
  cases x with
  | true =>
    simp only [if_true] at e
    obtain ⟨h2, f2, k2, i2⟩ := hb _ _ _ _ _ _ _ _ _ I1 e
    exact ⟨h2, by simp only [bAnd, f1, f2, Option.bind_some, if_true], k1.trans k2, i2⟩
  | false =>
    simp only [Bool.false_eq_true, if_false] at e
    cases e
    exact ⟨h1, by simp only [bAnd, f1, Option.bind_some, Bool.false_eq_true, if_false], k1, i1⟩
theorem bs_or (ha : BS O ba qa) (hb : BS O bb qb) : BS O (bOr ba bb) (qbOr qa qb) := fun μ B0 h env pe w s z s' I e => by
  unfold qbOr at e
  obtain ⟨⟨x, s1⟩, e1, e⟩ := Option.bind_eq_some_iff.mp e
  obtain ⟨h1, f1, k1, i1⟩ := ha _ _ _ _ _ _ _ _ _ I e1
  have I1 := I.keep k1 i1
  cases x with
  | false =>
    simp only [Bool.false_eq_true, if_false] at e
    obtain ⟨h2, f2, k2, i2⟩ := hb _ _ _ _ _ _ _ _ _ I1 e
    exact ⟨h2, by simp only [bOr, f1, f2, Option.bind_some, Bool.false_eq_true, if_false], k1.trans k2, i2⟩
  | true =>
    simp only [if_true] at e
    cases e
    exact ⟨h1, by simp only [bOr, f1, Option.bind_some, if_true], k1, i1⟩
theorem bs_not (ha : BS O ba qa) : BS O (bNot ba) (qbNot qa) := fun μ B0 h env pe w s z s' I e => by
  unfold qbNot at e
  obtain ⟨⟨x, s1⟩, e1, e⟩ := Option.bind_eq_some_iff.mp e
  cases e
  obtain ⟨h1, f1, k1, i1⟩ := ha _ _ _ _ _ _ _ _ _ I e1
  exact ⟨h1, by simp only [bNot, f1, Option.bind_some], k1, i1⟩
theorem es_if (hc : BS O ba qa) (ha : ES O a p) (hb : ES O b q) : ES O (mIf ba a b) (qIf qa p q) := fun μ B0 h env pe w s z s' I e => by
  unfold qIf at e
  obtain ⟨⟨x, s1⟩, e1, e⟩ := Option.bind_eq_some_iff.mp e
  obtain ⟨h1, f1, k1, i1⟩ := hc _ _ _ _ _ _ _ _ _ I e1
  have I1 := I.keep k1 i1
  cases x with
  | true =>
    simp only [if_true] at e
    obtain ⟨d, h2, f2, k2, i2, r⟩ := ha _ _ _ _ _ _ _ _ _ I1 e
    exact ⟨d, h2, by simp only [mIf, f1, f2, Option.bind_some, if_true], k1.trans k2, i2, r⟩
  | false =>
    simp only [Bool.false_eq_true, if_false] at e
    obtain ⟨d, h2, f2, k2, i2, r⟩ := hb _ _ _ _ _ _ _ _ _ I1 e
    exact ⟨d, h2, by simp only [mIf, f1, f2, Option.bind_some, Bool.false_eq_true, if_false], k1.trans k2, i2, r⟩
theorem er_if (hc : BS O ba qa) (ha : ER O a p) (hb : ER O b q) : ER O (mIf ba a b) (qIf qa p q) := fun μ B0 h env pe w s z s' I e => by
  unfold qIf at e
  obtain ⟨⟨x, s1⟩, e1, e⟩ := Option.bind_eq_some_iff.mp e
  obtain ⟨h1, f1, k1, i1⟩ := hc _ _ _ _ _ _ _ _ _ I e1
  have I1 := I.keep k1 i1
  cases x with
  | true =>
    simp only [if_true] at e
    obtain ⟨d, h2, f2, k2, i2, r⟩ := ha _ _ _ _ _ _ _ _ _ I1 e
    exact ⟨d, h2, by simp only [mIf, f1, f2, Option.bind_some, if_true], k1.trans k2, i2, r⟩
  | false =>
    simp only [Bool.false_eq_true, if_false] at e
    obtain ⟨d, h2, f2, k2, i2, r⟩ := hb _ _ _ _ _ _ _ _ _ I1 e
    exact ⟨d, h2, by simp only [mIf, f1, f2, Option.bind_some, Bool.false_eq_true, if_false], k1.trans k2, i2, r⟩
theorem es_and (ha : ES O a p) (hb : ES O b q) : ES O (mAnd dTru a b) (qAnd p q) := fun μ B0 h env pe w s z s' I e => by
  unfold qAnd at e
  obtain ⟨⟨x, s1⟩, e1, e⟩ := Option.bind_eq_some_iff.mp e
  obtain ⟨k, e2, e⟩ := Option.bind_eq_some_iff.mp e
  obtain ⟨d1, h1, f1, k1, i1, r1⟩ := ha _ _ _ _ _ _ _ _ _ I e1
  have I1 := I.keep k1 i1
  have t := tru_ok (r1.x I.mu') e2
  cases k with
  | true =>
    simp only [if_true] at e
    obtain ⟨d, h2, f2, k2, i2, r⟩ := hb _ _ _ _ _ _ _ _ _ I1 e
    exact ⟨d, h2, by simp only [mAnd, f1, f2, t, Option.bind_some, if_true], k1.trans k2, i2, r⟩
  | false =>
    simp only [Bool.false_eq_true, if_false] at e
    cases e
    exact ⟨d1, h1, by simp only [mAnd, f1, t, Option.bind_some, Bool.false_eq_true, if_false], k1, i1, r1⟩
theorem es_or (ha : ES O a p) (hb : ES O b q) : ES O (mOr dTru a b) (qOr p q) := fun μ B0 h env pe w s z s' I e => by
  unfold qOr at e
  obtain ⟨⟨x, s1⟩, e1, e⟩ := Option.bind_eq_some_iff.mp e
  obtain ⟨k, e2, e⟩ := Option.bind_eq_some_iff.mp e
  obtain ⟨d1, h1, f1, k1, i1, r1⟩ := ha _ _ _ _ _ _ _ _ _ I e1
  have I1 := I.keep k1 i1
  have t := tru_ok (r1.x I.mu') e2
  cases k with
  | false =>
    simp only [Bool.false_eq_true, if_false] at e
    obtain ⟨d, h2, f2, k2, i2, r⟩ := hb _ _ _ _ _ _ _ _ _ I1 e
    exact ⟨d, h2, by simp only [mOr, f1, f2, t, Option.bind_some, Bool.false_eq_true, if_false], k1.trans k2, i2, r⟩
  | true =>
    simp only [if_true] at e
    cases e
    exact ⟨d1, h1, by simp only [mOr, f1, t, Option.bind_some, if_true], k1, i1, r1⟩
theorem es_not (ha : ET O a p) : ES O (mNot dTru a) (qNot p) := fun μ B0 h env pe w s z s' I e => by
  unfold qNot at e
  obtain ⟨⟨x, s1⟩, e1, e⟩ := Option.bind_eq_some_iff.mp e
  obtain ⟨k, e2, e⟩ := Option.bind_eq_some_iff.mp e
  cases e
  obtain ⟨d1, h1, f1, k1, i1, r1⟩ := ha _ _ _ _ _ _ _ _ _ I e1
  exact ⟨_, h1, by simp only [mNot, f1, tru_ok r1 e2, Option.bind_some], k1, i1, rfl⟩
theorem es_neg (ha : ET O a p) : ES O (mUn dNeg a) (qNeg p) := fun μ B0 h env pe w s z s' I e => by
  unfold qNeg at e
  obtain ⟨⟨x, s1⟩, e1, e⟩ := Option.bind_eq_some_iff.mp e
  obtain ⟨d1, h1, f1, k1, i1, r1⟩ := ha _ _ _ _ _ _ _ _ _ I e1
  cases x <;> try cases e
  unfold RepX Rep at r1; subst r1
  exact ⟨_, h1, by simp only [mUn, f1, dNeg, Option.bind_some], k1, i1, rfl⟩
theorem es_chain {f f' : D → D → VH → Option (D × VH)} {g g' : P → P → Option P} (o : Op2 f g) (o' : Op2 f' g') (ha : ET O a p) (hb : ET O b q) (hc : ET O c r) : ES O (mChain f f' a b c) (qChain g g' p q r) := fun μ B0 h env pe w s z s' I e => by
  unfold qChain at e
  obtain ⟨⟨x, s1⟩, e1, e⟩ := Option.bind_eq_some_iff.mp e
  obtain ⟨⟨y, s2⟩, e2, e⟩ := Option.bind_eq_some_iff.mp e
  obtain ⟨v, e3, e⟩ := Option.bind_eq_some_iff.mp e
  obtain ⟨d1, h1, f1, k1, i1, r1⟩ := ha _ _ _ _ _ _ _ _ _ I e1
  have I1 := I.keep k1 i1
  obtain ⟨d2, h2, f2, k2, i2, r2⟩ := hb _ _ _ _ _ _ _ _ _ I1 e2
  have I2 := I1.keep k2 i2
  obtain ⟨d, k, f3, r3⟩ := o μ _ h2 _ _ _ _ _ I.mu' I2.lt' (r1.kp I.mu' k2) r2 e3
  have kk : Kp μ h2 (h2 ++ k) := .app k
  have I3 := I2.keep kk (i2.app k)
  split at e
  · unfold Rep at r3; subst r3
    obtain ⟨⟨t, s3⟩, e4, e⟩ := Option.bind_eq_some_iff.mp e
    obtain ⟨v', e5, e⟩ := Option.bind_eq_some_iff.mp e
    cases e
    obtain ⟨d3, h4, f4, k4, i4, r4⟩ := hc _ _ _ _ _ _ _ _ _ I3 e4
    have I4 := I3.keep k4 i4
    obtain ⟨d5, k5, f5, r5⟩ := o' μ _ h4 _ _ _ _ _ I.mu' I4.lt' ((r2.kp I.mu' kk).kp I.mu' k4) r4 e5
    exact ⟨d5, h4 ++ k5, by simp only [mChain, f1, f2, f3, f4, f5, Option.bind_some], (((k1.trans k2).trans kk).trans k4).trans (.app k5), i4.app k5, r5⟩
  · unfold Rep at r3; subst r3
    cases e
    exact ⟨_, h2 ++ k, by simp only [mChain, f1, f2, f3, Option.bind_some], (k1.trans k2).trans kk, i2.app k, rfl⟩
  · cases e
/-! slices -/
def OS (O : Nat → Bool) (m : OM) (q : POM) : Prop := ∀ μ B0 h env pe w s o s', In μ B0 O h env pe w s → q pe s = some (o, s') → ∃ h', m env h = some (o, h') ∧ Kp μ h h' ∧ SI μ h' s'
theorem os_none : OS O oNone qoNone := fun μ B0 h env pe w s o s' I e => by
  cases e; exact ⟨h, rfl, .refl, I.si⟩
theorem os_some (ha : ET O a p) : OS O (oSome a) (qoSome p) := fun μ B0 h env pe w s z s' I e => by
  unfold qoSome at e
  obtain ⟨⟨x, s1⟩, e1, e⟩ := Option.bind_eq_some_iff.mp e
  obtain ⟨d1, h1, f1, k1, i1, r1⟩ := ha _ _ _ _ _ _ _ _ _ I e1
  cases x <;> try cases e
  unfold RepX Rep at r1; subst r1
  exact ⟨h1, by simp only [oSome, f1, Option.bind_some], k1, i1⟩
theorem es_slice {ol oh : OM} {ql qh : POM} (ha : ET O a p) (hl : OS O ol ql) (hh : OS O oh qh) : ES O (mSlice a ol oh) (qSlice p ql qh) := fun μ B0 h env pe w s z s' I e => by
  unfold qSlice at e
  obtain ⟨⟨x, s1⟩, e1, e⟩ := Option.bind_eq_some_iff.mp e
  obtain ⟨⟨l, s2⟩, e2, e⟩ := Option.bind_eq_some_iff.mp e
  obtain ⟨⟨u, s3⟩, e3, e⟩ := Option.bind_eq_some_iff.mp e
  obtain ⟨v, e4, e⟩ := Option.bind_eq_some_iff.mp e
  cases e
  obtain ⟨d1, h1, f1, k1, i1, r1⟩ := ha _ _ _ _ _ _ _ _ _ I e1
  have I1 := I.keep k1 i1
  obtain ⟨h2, f2, k2, i2⟩ := hl _ _ _ _ _ _ _ _ _ I1 e2
  have I2 := I1.keep k2 i2
  obtain ⟨h3, f3, k3, i3⟩ := hh _ _ _ _ _ _ _ _ _ I2 e3
  have I3 := I2.keep k3 i3
  obtain ⟨d', k, f4, r4⟩ := slice_ok I3.lt' ((r1.kp I.mu' k2).kp I.mu' k3) e4
  exact ⟨d', h3 ++ k, by simp only [mSlice, f1, f2, f3, f4, Option.bind_some], ((k1.trans k2).trans k3).trans (.app k), i3.app k, r4⟩
theorem es_revT (ha : ET O a p) : ES O (mRevT a) (qRevT p) := fun μ B0 h env pe w s z s' I e => by
  unfold qRevT at e
  obtain ⟨⟨x, s1⟩, e1, e⟩ := Option.bind_eq_some_iff.mp e
  obtain ⟨d1, h1, f1, k1, i1, r1⟩ := ha _ _ _ _ _ _ _ _ _ I e1
  cases x <;> try cases e
  unfold RepX Rep at r1
  obtain ⟨ds, rfl, q⟩ := r1
  exact ⟨.tup ds.reverse, h1, by simp only [mRevT, f1, Option.bind_some], k1, i1, by unfold Rep; exact ⟨_, rfl, q.rev⟩⟩
/-! ranges as values -/
def RgS (O : Nat → Bool) (m : RM) (q : PRM) : Prop := ∀ μ B0 h env pe w s o s', In μ B0 O h env pe w s → q pe s = some (o, s') → ∃ h', m env h = some (o, h') ∧ Kp μ h h' ∧ SI μ h' s'
theorem rg_1 (ha : ET O a p) : RgS O (mRg1 a) (qRg1 p) := fun μ B0 h env pe w s z s' I e => by
  unfold qRg1 at e
  obtain ⟨⟨x, s1⟩, e1, e⟩ := Option.bind_eq_some_iff.mp e
  obtain ⟨d1, h1, f1, k1, i1, r1⟩ := ha _ _ _ _ _ _ _ _ _ I e1
  cases x <;> try cases e
  unfold RepX Rep at r1; subst r1
  exact ⟨h1, by simp only [mRg1, f1, Option.bind_some], k1, i1⟩
theorem rg_2 (ha : ET O a p) (hb : ET O b q) : RgS O (mRg2 a b) (qRg2 p q) := fun μ B0 h env pe w s z s' I e => by
  unfold qRg2 at e
  obtain ⟨⟨x, s1⟩, e1, e⟩ := Option.bind_eq_some_iff.mp e
  obtain ⟨⟨y, s2⟩, e2, e⟩ := Option.bind_eq_some_iff.mp e
  obtain ⟨d1, h1, f1, k1, i1, r1⟩ := ha _ _ _ _ _ _ _ _ _ I e1
  have I1 := I.keep k1 i1
  obtain ⟨d2, h2, f2, k2, i2, r2⟩ := hb _ _ _ _ _ _ _ _ _ I1 e2
  cases x <;> cases y <;> try cases e
  unfold RepX Rep at r1 r2; subst r1 r2
  exact ⟨h2, by simp only [mRg2, f1, f2, Option.bind_some], k1.trans k2, i2⟩
theorem es_tupR {mr : RM} {qr : PRM} (ha : RgS O mr qr) : ES O (mTupR mr) (qTupR qr) := fun μ B0 h env pe w s z s' I e => by
  unfold qTupR at e
  obtain ⟨⟨x, s1⟩, e1, e⟩ := Option.bind_eq_some_iff.mp e
  split at e
  · rename_i hz
    cases e
    obtain ⟨h1, f1, k1, i1⟩ := ha _ _ _ _ _ _ _ _ _ I e1
    exact ⟨.tup (rng x.1 (x.2 - x.1).toNat), h1, by simp only [mTupR, f1, Option.bind_some, hz, if_true], k1, i1, by unfold Rep; exact ⟨_, rfl, prng_rep _ _⟩⟩
  · cases e
theorem ef_lstR {mr : RM} {qr : PRM} (ha : RgS O mr qr) : EF O (mLstR mr) (qLstR qr) := fun μ B0 h env pe w s z s' I e => by
  unfold qLstR at e
  obtain ⟨⟨x, s1⟩, e1, e⟩ := Option.bind_eq_some_iff.mp e
  split at e
  · rename_i hz
    cases e
    obtain ⟨h1, f1, k1, i1⟩ := ha _ _ _ _ _ _ _ _ _ I e1
    obtain ⟨x1, x2, x3, x4, x5, x6⟩ := newF I k1 i1 (prng_rep x.1 (x.2 - x.1).toNat)
    exact ⟨h1.length, _, by simp only [mLstR, f1, Option.bind_some, hz, if_true], x1, x2, x3, x4, x5, x6⟩
  · cases e
/-! calls of local names, calls by names -/
def TblP (t : Tbl) (t' : PTbl) : Prop := ∀ x n F, t' x = some (n, F) → ∃ f, t x = some (n, f) ∧ FnP f F
theorem es_callL {i : Nat} {t : Tbl} {t' : PTbl} (ht : TblP t t') (ha : AS O ma pa) (hO : O i = false := by rfl) : ES O (mCallL i t ma) (qCallL i t' pa) := fun μ B0 h env pe w s z s' I e => by
  unfold qCallL at e
  split at e
  · rename_i x hx
    obtain ⟨⟨n, F⟩, e0, e⟩ := Option.bind_eq_some_iff.mp e
    obtain ⟨⟨y, s1⟩, e1, e⟩ := Option.bind_eq_some_iff.mp e
    split at e
    · rename_i hz
      obtain ⟨d0, g0, r0⟩ := I.pl i _ hO hx
      unfold Rep at r0; subst r0
      obtain ⟨f, ef, hf⟩ := ht _ _ _ e0
      obtain ⟨d1, h1, f1, k1, i1, r1⟩ := ha _ _ _ _ _ _ _ _ _ I e1
      have I1 := I.keep k1 i1
      obtain ⟨d, h2, f2, k2, i2, r2⟩ := hf μ (bl B0 w) h1 s1 d1 y z s' I.mu' I1.lt' i1 r1 e
      simp only at hz
      rw [r1.length] at hz
      exact ⟨d, h2, by simp only [mCallL, g0, ef, f1, f2, Option.bind_some, hz, if_true], k1.trans k2, i2, r2⟩
    · cases e
  · cases e
theorem Reps.perm {μ : Mu} {B : Nat → Prop} {h : VH} {ps : List P} {ds : List D} (r : Reps μ B h ps ds) : ∀ pm : List Nat, Reps μ B h (perm pm ps) (perm pm ds)
  | [] => Reps.nil
  | i :: pm => by
    unfold Vm.perm
    rw [List.filterMap_cons, List.filterMap_cons]
    cases e : ps[i]? with
    | none =>
      have : ds[i]? = none := by
        rw [List.getElem?_eq_none_iff] at e ⊢
        rw [← r.length]; exact e
      rw [this]
      exact Reps.perm r pm
    | some p =>
      obtain ⟨d, e1, q⟩ := r.get e
      rw [e1]
      exact Reps.cons q (Reps.perm r pm)
theorem es_fnK {n : Nat} {pm : List Nat} {f : List D → VH → Option (D × VH)} {F : List P → S → Option (P × S)} (hf : FnP f F) (ha : AS O ma pa) : ES O (mFnK n pm f ma) (qFnK n pm F pa) := fun μ B0 h env pe w s z s' I e => by
  unfold qFnK at e
  obtain ⟨⟨x, s1⟩, e1, e⟩ := Option.bind_eq_some_iff.mp e
  split at e
  · rename_i hz
    obtain ⟨d1, h1, f1, k1, i1, r1⟩ := ha _ _ _ _ _ _ _ _ _ I e1
    have I1 := I.keep k1 i1
    have rp := r1.perm pm
    obtain ⟨d, h2, f2, k2, i2, r2⟩ := hf μ (bl B0 w) h1 s1 _ _ z s' I.mu' I1.lt' i1 rp e
    simp only at hz
    rw [rp.length] at hz
    exact ⟨d, h2, by simp only [mFnK, f1, f2, Option.bind_some, hz, if_true], k1.trans k2, i2, r2⟩
  · cases e
end
end Pu
namespace Pu
open PySem PySem.Spec PyProof.Rows L2 Vm
section
variable {μ : Mu} {B0 : Nat → Prop} {O mw : Nat → Bool} {h h0 h' : VH} {env : En} {pe : PEn} {w : Nat → Option Nat} {s s0 : S}
/-! ### frames change -/
theorem get_set_cases {α : Type} {l : List (Option α)} {i j : Nat} {x y : α} (e : (l.set i (some x))[j]? = some (some y)) : (i = j ∧ x = y ∧ i < l.length) ∨ (i ≠ j ∧ l[j]? = some (some y)) := by
  by_cases hi : i = j
  · subst hi
    have hl : i < l.length := by
      have := (List.getElem?_eq_some_iff.mp e).1
      simpa using this
    rw [List.getElem?_set_self hl] at e
    exact .inl ⟨rfl, by simpa using e, hl⟩
  · rw [List.getElem?_set_ne hi] at e
    exact .inr ⟨hi, e⟩
theorem In.plain (I : In μ B0 O h env pe w s) {i : Nat} {p : P} {d : D} (hO : O i = false) (r : Rep μ (bl B0 w) h p d) : In μ B0 O h (env.set i (some d)) (pe.set i (some p)) w s := by
  refine ⟨I.mu, I.lt, I.si, by simp [I.len], I.own, I.inj, fun j q o e => ?_, fun j q o e => ?_⟩
  · rcases get_set_cases e with ⟨rfl, rfl, hl⟩ | ⟨hj, e'⟩
    · exact ⟨d, List.getElem?_set_self (by rw [I.len]; exact hl), r⟩
    · obtain ⟨d', e1, r'⟩ := I.pl j q o e'
      exact ⟨d', by rw [List.getElem?_set_ne hj]; exact e1, r'⟩
  · rcases get_set_cases e with ⟨rfl, rfl, hl⟩ | ⟨hj, e'⟩
    · rw [hO] at o; cases o
    · obtain ⟨a, e0, e1, r'⟩ := I.ow j q o e'
      exact ⟨a, e0, by rw [List.getElem?_set_ne hj]; exact e1, r'⟩
/-- what was laid since is kept apart -/
theorem In.block (I : In μ B0 O h0 env pe w s0) (k : Kp μ h0 h) (si : SI μ h s) {n : Nat} (h1 : h0.length ≤ n) (h2 : n < h.length) : In μ (fun a => B0 a ∨ a = n) O h env pe w s := by
  have st : Stp (bl B0 w) h0 (bl (fun a => B0 a ∨ a = n) w) h := fun m o b e => by
    refine ⟨fun z => ?_, k.kp m o e fun z => b (.inl (I.mu m z))⟩
    rcases z with (z | z) | z
    · exact b (.inl z)
    · subst z; exact Nat.not_lt.mpr h1 (List.getElem?_eq_some_iff.mp e).1
    · exact b (.inr z)
  refine ⟨fun m z => .inl (I.mu m z), fun m z => z.elim (fun z => Nat.lt_of_lt_of_le (I.lt m z) k.len) (fun z => by subst z; exact h2), si, I.len, fun i a e => ?_, I.inj, fun i p o e => ?_, fun i p o e => ?_⟩
  · obtain ⟨x1, x2, x3⟩ := I.own i a e
    exact ⟨x1, fun z => z.elim x2 fun z => by subst z; exact Nat.not_lt.mpr h1 x3, Nat.lt_of_lt_of_le x3 k.len⟩
  · obtain ⟨d, e1, r⟩ := I.pl i p o e
    exact ⟨d, e1, r.mono st⟩
  · obtain ⟨a, e0, e1, r⟩ := I.ow i p o e
    refine ⟨a, e0, e1, ?_⟩
    have r' := r.kp I.mu' k
    cases p with
    | lst ps => obtain ⟨n', ds, e2, b, g, q⟩ := r; exact ⟨n', ds, e2, b, k.kp _ _ g b, q.mono st⟩
    | dK ks ps => obtain ⟨n', ds, e2, b, g, l, q⟩ := r; exact ⟨n', ds, e2, b, k.kp _ _ g b, l, q.mono st⟩
    | dT ks ps => obtain ⟨n', ds, e2, b, g, l, q⟩ := r; exact ⟨n', ds, e2, b, k.kp _ _ g b, l, q.mono st⟩
    | _ => exact Rep.mono st (p := _) r
def wset (w : Nat → Option Nat) (i n : Nat) : Nat → Option Nat := fun j => if j = i then some n else w j
theorem RepX.mono (st : ∀ m o, ¬ B0 m → h[m]? = some o → ¬ μ.has m → ¬ B0 m ∧ h[m]? = some o) {B' : Nat → Prop} (s : Stp B0 h B' h) {p : P} {d : D} (r : RepX μ B0 h p d) : RepX μ B' h p d := by
  cases p with
  | lst ps => obtain ⟨n', ds, e2, b, g, q⟩ := r; exact ⟨n', ds, e2, b, g, q.mono s⟩
  | dK ks ps => obtain ⟨n', ds, e2, b, g, l, q⟩ := r; exact ⟨n', ds, e2, b, g, l, q.mono s⟩
  | dT ks ps => obtain ⟨n', ds, e2, b, g, l, q⟩ := r; exact ⟨n', ds, e2, b, g, l, q.mono s⟩
  | _ => exact Rep.mono s (p := _) r
theorem RepX.less {B B' : Nat → Prop} (i : ∀ n, B' n → B n) {p : P} {d : D} (r : RepX μ B h p d) : RepX μ B' h p d := RepX.mono (B0 := B) (fun _ _ b e _ => ⟨b, e⟩) (Stp.less i) r
theorem In.own' (I : In μ (fun a => B0 a ∨ a = n) O h env pe w s) {i : Nat} {p : P} (hO : O i = true) (hn : ¬ B0 n) (hl : n < h.length) (r : RepX μ (bl (fun a => B0 a ∨ a = n) w) h p (.ref n)) (mu : ∀ m, μ.has m → B0 m) :
    In μ B0 O h (env.set i (some (.ref n))) (pe.set i (some p)) (wset w i n) s := by
  have less : ∀ m, bl B0 (wset w i n) m → bl (fun a => B0 a ∨ a = n) w m := fun m z => by
    rcases z with z | ⟨j, z⟩
    · exact .inl (.inl z)
    · unfold wset at z
      split at z
      · cases z; exact .inl (.inr rfl)
      · exact .inr ⟨j, z⟩
  refine ⟨mu, fun m z => I.lt m (.inl z), I.si, by simp [I.len], fun j a e => ?_, fun j k a e1 e2 => ?_, fun j q o e => ?_, fun j q o e => ?_⟩
  · unfold wset at e
    split at e
    · rename_i hj; subst hj; cases e; exact ⟨hO, hn, hl⟩
    · obtain ⟨x1, x2, x3⟩ := I.own j a e
      exact ⟨x1, fun z => x2 (.inl z), x3⟩
  · unfold wset at e1 e2
    split at e1 <;> split at e2
    · rename_i x y; rw [x, y]
    · cases e1; exact ((I.own k _ e2).2.1 (.inr rfl)).elim
    · cases e2; exact ((I.own j _ e1).2.1 (.inr rfl)).elim
    · exact I.inj j k a e1 e2
  · rcases get_set_cases e with ⟨rfl, rfl, hl⟩ | ⟨hj, e'⟩
    · rw [hO] at o; cases o
    · obtain ⟨d', e1, r'⟩ := I.pl j q o e'
      exact ⟨d', by rw [List.getElem?_set_ne hj]; exact e1, r'.mono (Stp.less less)⟩
  · rcases get_set_cases e with ⟨rfl, rfl, hl⟩ | ⟨hj, e'⟩
    · exact ⟨n, by simp [wset], List.getElem?_set_self (by rw [I.len]; exact hl), r.less less⟩
    · obtain ⟨a, e0, e1, r'⟩ := I.ow j q o e'
      exact ⟨a, by unfold wset; rw [if_neg (fun z => hj z.symm)]; exact e0, by rw [List.getElem?_set_ne hj]; exact e1, r'.less less⟩
theorem Fl.own (k : Kp μ h h') {i n : Nat} (hm : mw i = true) (hn : h.length ≤ n) : Fl μ mw h w h' (wset w i n) := by
  refine ⟨k.len, fun m o e z _ => k.kp m o e z, fun j a m e => ?_, fun j m => ?_⟩
  · unfold wset at e
    split at e
    · cases e; exact .inr hn
    · exact .inl ⟨j, m, e⟩
  · unfold wset
    rw [if_neg (fun z => by subst z; rw [hm] at m; cases m)]
end
/-! ### statements -/
def qNext : PSM := fun pe s => some (.nx pe s)
def qSeq (a b : PSM) : PSM := fun pe s => match a pe s with | some (.nx pe' s') => b pe' s' | r => r
def qExpr (m : PM) : PSM := fun pe s => (m pe s).bind fun x => some (.nx pe x.2)
def qRet (m : PM) : PSM := fun pe s => (m pe s).bind fun x => some (.rt x.1 x.2)
def qRetN : PSM := fun _ s => some (.rt .non s)
def qIfS (c : PBM) (a b : PSM) : PSM := fun pe s => (c pe s).bind fun x => if x.1 = true then a pe x.2 else b pe x.2
def qBrk : PSM := fun pe s => some (.bk pe s)
def qCt : PSM := fun pe s => some (.ct pe s)
def qNever : PSM := fun _ _ => none
def qAsg (m : PM) (g : PGM) : PSM := fun pe s => (m pe s).bind fun x => (g x.1 pe x.2).bind fun y => some (.nx y.1 y.2)
def qNm (i : Nat) : PGM := fun p pe s => some (pe.set i (some p), s)
abbrev PGMs := List P → PEn → S → Option (PEn × S)
def qGN : PGMs := fun ps pe s => match ps with | [] => some (pe, s) | _ => none
def qGC (g : PGM) (r : PGMs) : PGMs := fun ps pe s => match ps with | p :: ps => (g p pe s).bind fun x => r ps x.1 x.2 | _ => none
def qGT (r : PGMs) : PGM := fun p pe s => match p with | .tup ps => r ps pe s | .wt ps => r ps pe s | _ => none
def pStoreL (xs : List P) (i : P) (v : P) : Option (List P) := match i with | .int k => (ixN xs.length k).bind fun j => some (xs.set j v) | _ => none
/-- x[i] = v of a variable's own list -/
def qGSub (x : Nat) (qi : PM) : PGM := fun v pe s => match pe[x]? with
  | some (some (.lst xs)) => (qi pe s).bind fun y => (pStoreL xs y.1 v).bind fun xs' => some (pe.set x (some (.lst xs')), y.2)
  | _ => none
def qPut (x : Nat) (qi qv : PM) : PSM := fun pe s => (qv pe s).bind fun v => match pe[x]? with
  | some (some (.lst xs)) => (qi pe v.2).bind fun y => (pStoreL xs y.1 v.1).bind fun xs' => some (.nx (pe.set x (some (.lst xs'))) y.2)
  | _ => none
def qAppend (x : Nat) (q : PM) : PSM := fun pe s => (q pe s).bind fun v => match pe[x]? with
  | some (some (.lst xs)) => if okLen (xs.length + 1) = true then some (.nx (pe.set x (some (.lst (xs ++ [v.1])))) v.2) else none
  | _ => none
def qPar (i j : Nat) (a b : PM) : PSM := fun pe s => (a pe s).bind fun x => (b pe x.2).bind fun y => some (.nx ((pe.set i (some x.1)).set j (some y.1)) y.2)
def qPar3 (i j l : Nat) (a b c : PM) : PSM := fun pe s => (a pe s).bind fun x => (b pe x.2).bind fun y => (c pe y.2).bind fun z => some (.nx (((pe.set i (some x.1)).set j (some y.1)).set l (some z.1)) z.2)
section
variable {O mw : Nat → Bool} {a b : SM} {p q : PSM} {m m2 m3 : EM} {qm qm2 qm3 : PM}
theorem ss_next : SS O mw sNext qNext := fun μ B0 h env pe w s r I e => by
  cases e; exact ⟨_, rfl, w, I, .refl⟩
theorem ss_never {a : SM} : SS O mw a qNever := fun μ B0 h env pe w s r I e => by cases e
theorem ss_brk : SS O mw sBrk qBrk := fun μ B0 h env pe w s r I e => by
  cases e; exact ⟨_, rfl, w, I, .refl⟩
theorem ss_ct : SS O mw sCt qCt := fun μ B0 h env pe w s r I e => by
  cases e; exact ⟨_, rfl, w, I, .refl⟩
theorem ss_seq (ha : SS O mw a p) (hb : SS O mw b q) : SS O mw (sSeq a b) (qSeq p q) := fun μ B0 h env pe w s r I e => by
  unfold qSeq at e
  cases e1 : p pe s with
  | none => rw [e1] at e; cases e
  | some r1 =>
    rw [e1] at e
    obtain ⟨so, f1, x⟩ := ha _ _ _ _ _ _ _ _ I e1
    cases r1 with
    | nx pe' s' =>
      cases so <;> try exact x.elim
      obtain ⟨w', I', fl⟩ := x
      obtain ⟨so2, f2, y⟩ := hb _ _ _ _ _ _ _ _ I' e
      exact ⟨so2, by simp only [sSeq, f1, f2], y.step fl⟩
    | rt p' s' =>
      cases e
      cases so <;> try exact x.elim
      exact ⟨_, by simp only [sSeq, f1], x⟩
    | bk p' s' =>
      cases e
      cases so <;> try exact x.elim
      exact ⟨_, by simp only [sSeq, f1], x⟩
    | ct p' s' =>
      cases e
      cases so <;> try exact x.elim
      exact ⟨_, by simp only [sSeq, f1], x⟩
theorem ss_expr (hm : ER O m qm) : SS O mw (sExpr m) (qExpr qm) := fun μ B0 h env pe w s r I e => by
  unfold qExpr at e
  obtain ⟨⟨x, s1⟩, e1, e⟩ := Option.bind_eq_some_iff.mp e
  cases e
  obtain ⟨d1, h1, f1, k1, i1, r1⟩ := hm _ _ _ _ _ _ _ _ _ I e1
  exact ⟨.nx env h1, by simp only [sExpr, f1, Option.bind_some], w, I.keep k1 i1, .of k1⟩
theorem ss_ret (hm : ER O m qm) : SS O mw (sRet m) (qRet qm) := fun μ B0 h env pe w s r I e => by
  unfold qRet at e
  obtain ⟨⟨x, s1⟩, e1, e⟩ := Option.bind_eq_some_iff.mp e
  cases e
  obtain ⟨d1, h1, f1, k1, i1, r1⟩ := hm _ _ _ _ _ _ _ _ _ I e1
  exact ⟨.rt d1 h1, by simp only [sRet, f1, Option.bind_some], r1, i1, w, .of k1⟩
theorem ss_retN : SS O mw sRetN qRetN := fun μ B0 h env pe w s r I e => by
  cases e; exact ⟨.rt .non h, rfl, rfl, I.si, w, .refl⟩
theorem ss_if {c : BM} {qc : PBM} (hc : BS O c qc) (ha : SS O mw a p) (hb : SS O mw b q) : SS O mw (sIf c a b) (qIfS qc p q) := fun μ B0 h env pe w s r I e => by
  unfold qIfS at e
  obtain ⟨⟨x, s1⟩, e1, e⟩ := Option.bind_eq_some_iff.mp e
  obtain ⟨h1, f1, k1, i1⟩ := hc _ _ _ _ _ _ _ _ _ I e1
  have I1 := I.keep k1 i1
  cases x with
  | true =>
    simp only [if_true] at e
    obtain ⟨so, f2, y⟩ := ha _ _ _ _ _ _ _ _ I1 e
    exact ⟨so, by simp only [sIf, f1, f2, Option.bind_some, if_true], y.step (.of k1)⟩
  | false =>
    simp only [Bool.false_eq_true, if_false] at e
    obtain ⟨so, f2, y⟩ := hb _ _ _ _ _ _ _ _ I1 e
    exact ⟨so, by simp only [sIf, f1, f2, Option.bind_some, Bool.false_eq_true, if_false], y.step (.of k1)⟩
/-! targets -/
/-- a target of plain names -/
def TG' (O : Nat → Bool) (g : GM) (q : PGM) : Prop := ∀ μ B0 h env pe w s p d pe' s', In μ B0 O h env pe w s → Rep μ (bl B0 w) h p d → q p pe s = some (pe', s') → s' = s ∧ ∃ env', g d env h = some (env', h) ∧ In μ B0 O h env' pe' w s
def TGs' (O : Nat → Bool) (g : GMs) (q : PGMs) : Prop := ∀ μ B0 h env pe w s p d pe' s', In μ B0 O h env pe w s → Reps μ (bl B0 w) h p d → q p pe s = some (pe', s') → s' = s ∧ ∃ env', g d env h = some (env', h) ∧ In μ B0 O h env' pe' w s
def GSs (O mw : Nat → Bool) (g : GMs) (q : PGMs) : Prop := ∀ μ B0 h env pe w s p d pe' s', In μ B0 O h env pe w s → Reps μ (bl B0 w) h p d → q p pe s = some (pe', s') → ∃ env' h' w', g d env h = some (env', h') ∧ In μ B0 O h' env' pe' w' s' ∧ Fl μ mw h w h' w'
variable {g : GM} {qg : PGM} {gs : GMs} {qgs : PGMs}
theorem tg_name {i : Nat} (hO : O i = false := by rfl) : TG' O (gNm i) (qNm i) := fun μ B0 h env pe w s p d pe' s' I r e => by
  cases e
  exact ⟨rfl, _, rfl, I.plain hO r⟩
theorem tg_nil : TGs' O gN qGN := fun μ B0 h env pe w s p d pe' s' I r e => by
  cases p with
  | nil => cases e; unfold Reps at r; subst r; exact ⟨rfl, _, rfl, I⟩
  | cons _ _ => cases e
theorem tg_cons (h1 : TG' O g qg) (h2 : TGs' O gs qgs) : TGs' O (gC g gs) (qGC qg qgs) := fun μ B0 h env pe w s p d pe' s' I r e => by
  cases p with
  | nil => cases e
  | cons x xs =>
    unfold Reps at r
    obtain ⟨d1, t, rfl, r1, r2⟩ := r
    obtain ⟨⟨pe1, s1⟩, e1, e2⟩ := Option.bind_eq_some_iff.mp e
    obtain ⟨z1, env1, f1, I1⟩ := h1 _ _ _ _ _ _ _ _ _ _ _ I r1 e1
    subst z1
    obtain ⟨z2, env2, f2, I2⟩ := h2 _ _ _ _ _ _ _ _ _ _ _ I1 r2 e2
    exact ⟨z2, env2, by simp only [gC, f1, f2, Option.bind_some], I2⟩
theorem tg_tup (h2 : TGs' O gs qgs) : TG' O (gT gs) (qGT qgs) := fun μ B0 h env pe w s p d pe' s' I r e => by
  unfold qGT at e
  split at e
  · unfold Rep at r; obtain ⟨ds, rfl, q⟩ := r; exact h2 _ _ _ _ _ _ _ _ _ _ _ I q e
  · unfold Rep at r; obtain ⟨ds, rfl, q⟩ := r; exact h2 _ _ _ _ _ _ _ _ _ _ _ I q e
  · cases e
theorem gs_of (t : TG' O g qg) : GS O mw g qg := fun μ B0 h env pe w s p d pe' s' I r e => by
  obtain ⟨rfl, env', f, I'⟩ := t _ _ _ _ _ _ _ _ _ _ _ I r e
  exact ⟨env', h, w, f, I', .refl⟩
theorem gs_nil' : GSs O mw gN qGN := fun μ B0 h env pe w s p d pe' s' I r e => by
  cases p with
  | nil => cases e; unfold Reps at r; subst r; exact ⟨_, _, w, rfl, I, .refl⟩
  | cons _ _ => cases e
theorem gs_cons' (h1 : GS O mw g qg) (h2 : GSs O mw gs qgs) : GSs O mw (gC g gs) (qGC qg qgs) := fun μ B0 h env pe w s p d pe' s' I r e => by
  cases p with
  | nil => cases e
  | cons x xs =>
    unfold Reps at r
    obtain ⟨d1, t, rfl, r1, r2⟩ := r
    obtain ⟨⟨pe1, s1⟩, e1, e⟩ := Option.bind_eq_some_iff.mp e
    obtain ⟨env1, h1', w1, f1, I1, fl1⟩ := h1 _ _ _ _ _ _ _ _ _ _ _ I r1 e1
    obtain ⟨env2, h2', w2, f2, I2, fl2⟩ := h2 _ _ _ _ _ _ _ _ _ _ _ I1 (r2.mono (fl1.stp I.mu)) e
    exact ⟨env2, h2', w2, by simp only [gC, f1, f2, Option.bind_some], I2, fl1.trans fl2⟩
theorem gs_tup' (h2 : GSs O mw gs qgs) : GS O mw (gT gs) (qGT qgs) := fun μ B0 h env pe w s p d pe' s' I r e => by
  unfold qGT at e
  split at e
  · unfold Rep at r; obtain ⟨ds, rfl, q⟩ := r; exact h2 _ _ _ _ _ _ _ _ _ _ _ I q e
  · unfold Rep at r; obtain ⟨ds, rfl, q⟩ := r; exact h2 _ _ _ _ _ _ _ _ _ _ _ I q e
  · cases e
/-- an own list is written -/
theorem In.write {μ : Mu} {B0 : Nat → Prop} {h : VH} {env : En} {pe : PEn} {w : Nat → Option Nat} {s : S} (I : In μ B0 O h env pe w s) {x a : Nat} {xs' : List P} {ds' : List D} (hw : w x = some a) (r : Reps μ (bl B0 w) h xs' ds') (he : env[x]? = some (some (.ref a))) :
    In μ B0 O (h.set a (.lst ds')) env (pe.set x (some (.lst xs'))) w s ∧ (mw x = true → Fl μ mw h w (h.set a (.lst ds')) w) := by
  obtain ⟨hO, hB, hl⟩ := I.own x a hw
  have nm : ¬ μ.has a := fun z => hB (I.mu a z)
  have st : Stp (bl B0 w) h (bl B0 w) (h.set a (.lst ds')) := fun n o b e => ⟨b, by
    rw [List.getElem?_set_ne (fun z => b (by subst z; exact .inr ⟨x, hw⟩))]; exact e⟩
  have oth : ∀ {n o}, h[n]? = some o → n ≠ a → (h.set a (VO.lst ds'))[n]? = some o := fun e z => by
    rw [List.getElem?_set_ne (fun q => z q.symm)]; exact e
  have ne : ∀ n, μ.has n → n ≠ a := fun n z q => by subst q; exact nm z
  refine ⟨⟨I.mu, fun n z => by simpa using I.lt n z, ⟨oth I.si.dd (ne _ (.inl rfl)), oth I.si.ca (ne _ (.inr (.inl rfl))), oth I.si.gb (ne _ (.inr (.inr rfl))), I.si.ma, I.si.mb, I.si.ab, I.si.cl⟩, by simp [I.len], fun i b e => ?_, I.inj, fun i p o e => ?_, fun i p o e => ?_⟩, fun hm => ?_⟩
  · obtain ⟨x1, x2, x3⟩ := I.own i b e
    exact ⟨x1, x2, by simpa using x3⟩
  · rcases get_set_cases e with ⟨rfl, rfl, hl⟩ | ⟨hj, e'⟩
    · rw [hO] at o; cases o
    · obtain ⟨d', e1, r'⟩ := I.pl i p o e'
      exact ⟨d', e1, r'.mono st⟩
  · rcases get_set_cases e with ⟨rfl, rfl, hl'⟩ | ⟨hj, e'⟩
    · exact ⟨a, hw, he, a, ds', rfl, nm, List.getElem?_set_self hl, r.mono st⟩
    · obtain ⟨b, e0, e1, r'⟩ := I.ow i p o e'
      have hab : b ≠ a := fun z => by subst z; exact hj (I.inj _ _ _ hw e0)
      refine ⟨b, e0, e1, ?_⟩
      cases p with
      | lst ps => obtain ⟨n', ds, e2, b', g, q⟩ := r'; cases e2; exact ⟨_, ds, rfl, b', oth g hab, q.mono st⟩
      | dK ks ps => obtain ⟨n', ds, e2, b', g, l, q⟩ := r'; cases e2; exact ⟨_, ds, rfl, b', oth g hab, l, q.mono st⟩
      | dT ks ps => obtain ⟨n', ds, e2, b', g, l, q⟩ := r'; cases e2; exact ⟨_, ds, rfl, b', oth g hab, l, q.mono st⟩
      | _ => exact Rep.mono st (p := _) r'
  · refine ⟨by simp, fun n o e z q => oth e fun y => ?_, fun i b m e => .inl ⟨i, m, e⟩, fun _ _ => rfl⟩
    subst y
    exact q x hm hw
theorem gs_sub {x : Nat} {mi : EM} {qi : PM} (hi : ET O mi qi) (hO : O x = true := by rfl) (hm : mw x = true := by rfl) : GS O mw (gSub (mVar x) mi) (qGSub x qi) := fun μ B0 h env pe w s p d pe' s' I r e => by
  unfold qGSub at e
  split at e
  · rename_i xs hx
    obtain ⟨⟨y, s1⟩, e1, e⟩ := Option.bind_eq_some_iff.mp e
    obtain ⟨xs', e2, e⟩ := Option.bind_eq_some_iff.mp e
    cases e
    obtain ⟨h1, h2, f1, k1, i1, r1⟩ := hi _ _ _ _ _ _ _ _ _ I e1
    have I1 := I.keep k1 i1
    obtain ⟨a, hw, he, n', ds, e3, hb, g, q⟩ := I1.ow x _ hO hx
    cases e3
    cases y <;> try cases e2
    unfold RepX Rep at r1; subst r1
    obtain ⟨j, e4, e5⟩ := Option.bind_eq_some_iff.mp e2
    cases e5
    rw [q.length] at e4
    obtain ⟨I2, fl⟩ := I1.write (mw := mw) hw (q.set j (r.mono (Stp.kp I.mu' k1))) he
    exact ⟨env, _, w, by simp only [Vm.gSub, mVar, he, f1, dPut, g, e4, Option.bind_some], I2, (Fl.of k1).trans (fl hm)⟩
  · cases e
theorem ss_asg (hm : ES O m qm) (hg : GS O mw g qg) : SS O mw (sAsg m g) (qAsg qm qg) := fun μ B0 h env pe w s r I e => by
  unfold qAsg at e
  obtain ⟨⟨x, s1⟩, e1, e⟩ := Option.bind_eq_some_iff.mp e
  obtain ⟨⟨pe2, s2⟩, e2, e⟩ := Option.bind_eq_some_iff.mp e
  cases e
  obtain ⟨d1, h1, f1, k1, i1, r1⟩ := hm _ _ _ _ _ _ _ _ _ I e1
  have I1 := I.keep k1 i1
  obtain ⟨env2, h2, w2, f2, I2, fl⟩ := hg _ _ _ _ _ _ _ _ _ _ _ I1 r1 e2
  exact ⟨.nx env2 h2, by simp only [sAsg, f1, f2, Option.bind_some], w2, I2, (Fl.of k1).trans fl⟩
theorem fr_eq {μ : Mu} {B0 : Nat → Prop} {h : VH} {w : Nat → Option Nat} {n : Nat} {p : P} {d : D} (r : RepX μ (fun a => bl B0 w a ∨ a = n) h p d) : RepX μ (bl (fun a => B0 a ∨ a = n) w) h p d := r.less fun m z => by
  rcases z with (z | z) | z
  · exact .inl (.inl z)
  · exact .inr z
  · exact .inl (.inr z)
theorem ss_own {i : Nat} (he : EF O m qm) (hO : O i = true := by rfl) (hm : mw i = true := by rfl) : SS O mw (sAsg m (gNm i)) (qAsg qm (qNm i)) := fun μ B0 h env pe w s r I e => by
  unfold qAsg at e
  obtain ⟨⟨x, s1⟩, e1, e⟩ := Option.bind_eq_some_iff.mp e
  cases e
  obtain ⟨n, h1, f1, k1, i1, l1, l2, r1, _⟩ := he _ _ _ _ _ _ _ _ _ I e1
  have I1 := I.block k1 i1 l1 l2
  have I2 := I1.own' (i := i) hO (fun z => Nat.not_lt.mpr l1 (I.lt n z)) l2 (fr_eq r1) I.mu
  exact ⟨.nx (env.set i (some (.ref n))) h1, by simp only [sAsg, f1, gNm, Option.bind_some], _, I2, Fl.own k1 hm l1⟩
theorem ss_put {x : Nat} {mi mv : EM} {qi qv : PM} (hv : ES O mv qv) (hi : ET O mi qi) (hO : O x = true := by rfl) (hm : mw x = true := by rfl) : SS O mw (sPut (mVar x) mi mv) (qPut x qi qv) := fun μ B0 h env pe w s r I e => by
  unfold qPut at e
  obtain ⟨⟨v, s1⟩, e1, e⟩ := Option.bind_eq_some_iff.mp e
  obtain ⟨d1, h1, f1, k1, i1, r1⟩ := hv _ _ _ _ _ _ _ _ _ I e1
  have I1 := I.keep k1 i1
  simp only at e
  split at e
  · rename_i xs hx
    obtain ⟨⟨y, s2⟩, e2, e⟩ := Option.bind_eq_some_iff.mp e
    obtain ⟨xs', e3, e⟩ := Option.bind_eq_some_iff.mp e
    cases e
    obtain ⟨d2, h2, f2, k2, i2, r2⟩ := hi _ _ _ _ _ _ _ _ _ I1 e2
    have I2 := I1.keep k2 i2
    obtain ⟨a, hw, he, n', ds, e4, hb, g, q⟩ := I2.ow x _ hO hx
    cases e4
    cases y <;> try cases e3
    unfold RepX Rep at r2; subst r2
    obtain ⟨j, e4, e5⟩ := Option.bind_eq_some_iff.mp e3
    cases e5
    rw [q.length] at e4
    obtain ⟨I3, fl⟩ := I2.write (mw := mw) hw (q.set j (r1.mono (Stp.kp I.mu' k2))) he
    exact ⟨.nx env _, by simp only [sPut, mVar, he, f1, f2, dStore, g, e4, Option.bind_some], w, I3, ((Fl.of k1).trans (Fl.of k2)).trans (fl hm)⟩
  · cases e
theorem ss_append {x : Nat} {mv : EM} {qv : PM} (hv : ES O mv qv) (hO : O x = true := by rfl) (hm : mw x = true := by rfl) : SS O mw (sExpr (mAppend (mVar x) mv)) (qAppend x qv) := fun μ B0 h env pe w s r I e => by
  unfold qAppend at e
  obtain ⟨⟨v, s1⟩, e1, e⟩ := Option.bind_eq_some_iff.mp e
  obtain ⟨d1, h1, f1, k1, i1, r1⟩ := hv _ _ _ _ _ _ _ _ _ I e1
  have I1 := I.keep k1 i1
  simp only at e
  split at e
  · rename_i xs hx
    split at e
    · rename_i hz
      cases e
      obtain ⟨a, hw, he, n', ds, e4, hb, g, q⟩ := I1.ow x _ hO hx
      cases e4
      rw [q.length] at hz
      obtain ⟨a0, hw0, he0, n0, ds0, e0, hb0, g0, q0⟩ := I.ow x _ hO hx
      cases e0
      rw [hw] at hw0; cases hw0
      obtain ⟨I3, fl⟩ := I1.write (mw := mw) hw (q.append (Reps.cons r1 Reps.nil)) he
      exact ⟨.nx env _, by simp only [sExpr, mAppend, mVar, he, lstOf, g0, f1, dAppend, g, hz, if_true, Option.bind_some], w, I3, (Fl.of k1).trans (fl hm)⟩
    · cases e
  · cases e
/-- what a parallel assignment's side gives: plain or own -/
def SideOk (O mw : Nat → Bool) (i : Nat) (m : EM) (q : PM) : Prop := (O i = false ∧ ES O m q) ∨ (O i = true ∧ mw i = true ∧ EF O m q)
theorem side_p {i : Nat} (h : ES O m qm) (hO : O i = false := by rfl) : SideOk O mw i m qm := .inl ⟨hO, h⟩
theorem side_o {i : Nat} (h : EF O m qm) (hO : O i = true := by rfl) (hm : mw i = true := by rfl) : SideOk O mw i m qm := .inr ⟨hO, hm, h⟩
/-- the first side is worked out; the rest goes on as if nothing knew it -/
theorem side_go {i : Nat} (sd : SideOk O mw i m qm) {μ : Mu} {B0 : Nat → Prop} {h : VH} {env : En} {pe : PEn} {w : Nat → Option Nat} {s s1 : S} {p : P} (I : In μ B0 O h env pe w s) (e : qm pe s = some (p, s1)) :
    ∃ d h1 B1, m env h = some (d, h1) ∧ Kp μ h h1 ∧ In μ B1 O h1 env pe w s1 ∧ (∀ n, B0 n → B1 n) ∧
      ∀ (h2 : VH) (env2 : En) (pe2 : PEn) (s2 : S), Kp μ h1 h2 → In μ B1 O h2 env2 pe2 w s2 → ∃ w', In μ B0 O h2 (env2.set i (some d)) (pe2.set i (some p)) w' s2 ∧ Fl μ mw h w h2 w' := by
  rcases sd with ⟨hO, he⟩ | ⟨hO, hm, he⟩
  · obtain ⟨d, h1, f1, k1, i1, r1⟩ := he _ _ _ _ _ _ _ _ _ I e
    refine ⟨d, h1, B0, f1, k1, I.keep k1 i1, fun _ z => z, fun h2 env2 pe2 s2 k2 I2 => ⟨w, I2.plain hO (r1.mono (Stp.kp I.mu' k2)), (Fl.of k1).trans (Fl.of k2)⟩⟩
  · obtain ⟨n, h1, f1, k1, i1, l1, l2, r1, _⟩ := he _ _ _ _ _ _ _ _ _ I e
    have I1 := I.block k1 i1 l1 l2
    refine ⟨_, h1, _, f1, k1, I1, fun _ z => .inl z, fun h2 env2 pe2 s2 k2 I2 => ⟨_, I2.own' (i := i) hO (fun z => Nat.not_lt.mpr l1 (I.lt n z)) (Nat.lt_of_lt_of_le l2 k2.len) ((fr_eq r1).kp (fun m z => .inl (I1.mu m z)) k2) I.mu, Fl.own (k1.trans k2) hm l1⟩⟩
end
end Pu
namespace Pu
open PySem PySem.Spec PyProof.Rows L2 Vm
section
variable {O mw : Nat → Bool} {a b : SM} {p q : PSM} {m m2 m3 : EM} {qm qm2 qm3 : PM}
theorem ss_par {i j : Nat} (h1 : SideOk O mw i m qm) (h2 : SideOk O mw j m2 qm2) : SS O mw (sPar i j (mCons m (mCons m2 mNil))) (qPar i j qm qm2) := fun μ B0 h env pe w s r I e => by
  unfold qPar at e
  obtain ⟨⟨x, s1⟩, e1, e⟩ := Option.bind_eq_some_iff.mp e
  obtain ⟨⟨y, s2⟩, e2, e⟩ := Option.bind_eq_some_iff.mp e
  cases e
  have ev : ∃ d1 h1', m env h = some (d1, h1') ∧ Kp μ h h1' ∧ ∃ d2 h2', m2 env h1' = some (d2, h2') ∧ Kp μ h1' h2' := by
    obtain ⟨d1, h1', B1, f1, k1, I1, le1, go1⟩ := side_go h1 I e1
    obtain ⟨d2, h2', B2, f2, k2, I2, le2, go2⟩ := side_go h2 I1 e2
    exact ⟨d1, h1', f1, k1, d2, h2', f2, k2⟩
  obtain ⟨d1, h1', f1, k1, d2, h2', f2, k2⟩ := ev
  have g1 : sPar i j (mCons m (mCons m2 mNil)) env h = some (.nx ((env.set i (some d1)).set j (some d2)) h2') := by
    simp only [sPar, mCons, mNil, f1, f2, Option.bind_some]
  refine ⟨_, g1, ?_⟩
  rcases h1 with ⟨hO1, he1⟩ | ⟨hO1, hm1, he1⟩
  · -- plain: the order does not matter
    obtain ⟨d, g, f, k, i', r⟩ := he1 _ _ _ _ _ _ _ _ _ I e1
    rw [f1] at f; cases f
    have J1 := I.keep k1 i'
    rcases h2 with ⟨hO2, he2⟩ | ⟨hO2, hm2, he2⟩
    · obtain ⟨d, g, f, k, i2, r2⟩ := he2 _ _ _ _ _ _ _ _ _ J1 e2
      rw [f2] at f; cases f
      have J2 := J1.keep k2 i2
      have K1 := J2.plain hO1 (r.mono (Stp.kp I.mu' k2))
      exact ⟨w, K1.plain hO2 r2, (Fl.of k1).trans (Fl.of k2)⟩
    · obtain ⟨n, g, f, k, i2, l1, l2, r2, _⟩ := he2 _ _ _ _ _ _ _ _ _ J1 e2
      rw [f2] at f; cases f
      have J2 := J1.block k2 i2 l1 l2
      have st : Stp (bl B0 w) h1' (bl (fun a => B0 a ∨ a = n) w) h2' := fun o u b e => by
        refine ⟨fun z => ?_, k2.kp o u e fun z => b (.inl (I.mu o z))⟩
        rcases z with (z | z) | z
        · exact b (.inl z)
        · subst z; exact Nat.not_lt.mpr l1 (List.getElem?_eq_some_iff.mp e).1
        · exact b (.inr z)
      have K1 := J2.plain hO1 (r.mono st)
      exact ⟨_, K1.own' (i := j) hO2 (fun z => Nat.not_lt.mpr l1 (J1.lt n z)) l2 (fr_eq r2) I.mu, (Fl.of k1).trans (Fl.own k2 hm2 l1)⟩
  · obtain ⟨n1, g, f, k, i', l1, l2, r1, _⟩ := he1 _ _ _ _ _ _ _ _ _ I e1
    rw [f1] at f; cases f
    have J1 := I.block k1 i' l1 l2
    rcases h2 with ⟨hO2, he2⟩ | ⟨hO2, hm2, he2⟩
    · obtain ⟨d, g, f, k, i2, r2⟩ := he2 _ _ _ _ _ _ _ _ _ J1 e2
      rw [f2] at f; cases f
      have J2 := J1.keep k2 i2
      have K1 := J2.own' (i := i) hO1 (fun z => Nat.not_lt.mpr l1 (I.lt n1 z)) (Nat.lt_of_lt_of_le l2 k2.len) ((fr_eq r1).kp J1.mu' k2) I.mu
      have r2' : Rep μ (bl B0 (wset w i n1)) h2' y d2 := r2.mono (Stp.less fun o z => by
        rcases z with z | ⟨j', z⟩
        · exact .inl (.inl z)
        · unfold wset at z
          split at z
          · cases z; exact .inl (.inr rfl)
          · exact .inr ⟨j', z⟩)
      exact ⟨_, K1.plain hO2 r2', Fl.own (k1.trans k2) hm1 l1⟩
    · obtain ⟨n2, g, f, k, i2, l3, l4, r2, _⟩ := he2 _ _ _ _ _ _ _ _ _ J1 e2
      rw [f2] at f; cases f
      have J2 := J1.block k2 i2 l3 l4
      -- both kept apart
      have c1 : RepX μ (bl (fun a => (B0 a ∨ a = n2) ∨ a = n1) w) h2' x (.ref n1) := by
        have st : Stp (bl (fun a => B0 a ∨ a = n1) w) h1' (bl (fun a => (B0 a ∨ a = n2) ∨ a = n1) w) h2' := fun o u b e => by
          refine ⟨fun z => ?_, k2.kp o u e fun z => b (.inl (.inl (I.mu o z)))⟩
          rcases z with ((z | z) | z) | z
          · exact b (.inl (.inl z))
          · subst z; exact Nat.not_lt.mpr l3 (List.getElem?_eq_some_iff.mp e).1
          · exact b (.inl (.inr z))
          · exact b (.inr z)
        have r1' := fr_eq r1
        cases x with
        | lst ps => obtain ⟨n', ds, e2, b, g, q⟩ := r1'; exact ⟨n', ds, e2, b, k2.kp _ _ g b, q.mono st⟩
        | dK ks ps => obtain ⟨n', ds, e2, b, g, l, q⟩ := r1'; exact ⟨n', ds, e2, b, k2.kp _ _ g b, l, q.mono st⟩
        | dT ks ps => obtain ⟨n', ds, e2, b, g, l, q⟩ := r1'; exact ⟨n', ds, e2, b, k2.kp _ _ g b, l, q.mono st⟩
        | _ => exact Rep.mono st (p := _) r1'
      have sw : (fun a => (B0 a ∨ a = n1) ∨ a = n2) = (fun a => (B0 a ∨ a = n2) ∨ a = n1) := by
        funext o
        apply propext
        constructor
        · rintro ((z | z) | z)
          · exact .inl (.inl z)
          · exact .inr z
          · exact .inl (.inr z)
        · rintro ((z | z) | z)
          · exact .inl (.inl z)
          · exact .inr z
          · exact .inl (.inr z)
      rw [sw] at J2
      have n12 : n1 ≠ n2 := fun z => by subst z; exact Nat.not_lt.mpr l3 l2
      have K1 := J2.own' (B0 := fun a => B0 a ∨ a = n2) (i := i) hO1 (fun z => z.elim (fun z => Nat.not_lt.mpr l1 (I.lt n1 z)) n12) (Nat.lt_of_lt_of_le l2 k2.len) c1 (fun m z => .inl (I.mu m z))
      have r2' : RepX μ (bl (fun a => B0 a ∨ a = n2) (wset w i n1)) h2' y (.ref n2) := (fr_eq r2).less fun o z => by
        rcases z with (z | z) | ⟨j', z⟩
        · exact .inl (.inl (.inl z))
        · exact .inl (.inr z)
        · unfold wset at z
          split at z
          · cases z; exact .inl (.inl (.inr rfl))
          · exact .inr ⟨j', z⟩
      have K2 := K1.own' (i := j) hO2 (fun z => Nat.not_lt.mpr (Nat.le_trans k1.len l3) (I.lt n2 z)) l4 r2' I.mu
      refine ⟨_, K2, (k1.trans k2).len, fun m o e z _ => (k1.trans k2).kp m o e z, fun j' c m e => ?_, fun j' m => ?_⟩
      · unfold wset at e
        split at e
        · cases e; exact .inr (Nat.le_trans k1.len l3)
        · split at e
          · cases e; exact .inr l1
          · exact .inl ⟨j', m, e⟩
      · unfold wset
        rw [if_neg (fun z => by subst z; rw [hm2] at m; cases m), if_neg (fun z => by subst z; rw [hm1] at m; cases m)]
theorem ss_par3 {i j l : Nat} (h1 : SideOk O mw i m qm) (h2 : ES O m2 qm2) (h3 : ES O m3 qm3) (hj : O j = false := by rfl) (hl : O l = false := by rfl) : SS O mw (sPar3 i j l (mCons m (mCons m2 (mCons m3 mNil)))) (qPar3 i j l qm qm2 qm3) := fun μ B0 h env pe w s r I e => by
  unfold qPar3 at e
  obtain ⟨⟨x, s1⟩, e1, e⟩ := Option.bind_eq_some_iff.mp e
  obtain ⟨⟨y, s2⟩, e2, e⟩ := Option.bind_eq_some_iff.mp e
  obtain ⟨⟨z, s3⟩, e3, e⟩ := Option.bind_eq_some_iff.mp e
  cases e
  have nx : ∀ d1 h1' d2 h2' d3 h3', m env h = some (d1, h1') → m2 env h1' = some (d2, h2') → m3 env h2' = some (d3, h3') → sPar3 i j l (mCons m (mCons m2 (mCons m3 mNil))) env h = some (.nx (((env.set i (some d1)).set j (some d2)).set l (some d3)) h3') := fun d1 h1' d2 h2' d3 h3' f1 f2 f3 => by
    simp only [sPar3, mCons, mNil, f1, f2, f3, Option.bind_some]
  rcases h1 with ⟨hO1, he1⟩ | ⟨hO1, hm1, he1⟩
  · obtain ⟨d1, h1', f1, k1, i1, r1⟩ := he1 _ _ _ _ _ _ _ _ _ I e1
    have J1 := I.keep k1 i1
    obtain ⟨d2, h2', f2, k2, i2, r2⟩ := h2 _ _ _ _ _ _ _ _ _ J1 e2
    have J2 := J1.keep k2 i2
    obtain ⟨d3, h3', f3, k3, i3, r3⟩ := h3 _ _ _ _ _ _ _ _ _ J2 e3
    have J3 := J2.keep k3 i3
    have a2 := Stp.kp I.mu' k2
    have a3 := Stp.kp I.mu' k3
    exact ⟨_, nx _ _ _ _ _ _ f1 f2 f3, w, ((J3.plain hO1 (r1.mono (a2.trans a3))).plain hj (r2.mono a3)).plain hl r3, ((Fl.of k1).trans (Fl.of k2)).trans (Fl.of k3)⟩
  · obtain ⟨n1, h1', f1, k1, i1, l1, l2, r1, _⟩ := he1 _ _ _ _ _ _ _ _ _ I e1
    have J1 := I.block k1 i1 l1 l2
    obtain ⟨d2, h2', f2, k2, i2, r2⟩ := h2 _ _ _ _ _ _ _ _ _ J1 e2
    have J2 := J1.keep k2 i2
    obtain ⟨d3, h3', f3, k3, i3, r3⟩ := h3 _ _ _ _ _ _ _ _ _ J2 e3
    have J3 := J2.keep k3 i3
    have K1 := J3.own' (i := i) hO1 (fun z => Nat.not_lt.mpr l1 (I.lt n1 z)) (Nat.lt_of_lt_of_le l2 (Nat.le_trans k2.len k3.len)) (((fr_eq r1).kp J1.mu' k2).kp J1.mu' k3) I.mu
    have ls : ∀ o, bl B0 (wset w i n1) o → bl (fun a => B0 a ∨ a = n1) w o := fun o z => by
      rcases z with z | ⟨j', z⟩
      · exact .inl (.inl z)
      · unfold wset at z
        split at z
        · cases z; exact .inl (.inr rfl)
        · exact .inr ⟨j', z⟩
    exact ⟨_, nx _ _ _ _ _ _ f1 f2 f3, _, (K1.plain hj ((r2.mono (Stp.kp J1.mu' k3)).mono (Stp.less ls))).plain hl (r3.mono (Stp.less ls)), Fl.own ((k1.trans k2).trans k3) hm1 l1⟩

/-! ### what a loop walks -/
abbrev PIM := PEn → S → Option (List P × S)
def qiSeq (m : PM) : PIM := fun pe s => (m pe s).bind fun x => match itemsP x.1 with | some xs => some (xs, x.2) | none => none
def qiRng1 (a : PM) : PIM := fun pe s => (a pe s).bind fun x => match x.1 with | .int j => if small j = true then some (prng 0 j.toNat, x.2) else none | _ => none
def qiRng2 (a b : PM) : PIM := fun pe s => (a pe s).bind fun x => (b pe x.2).bind fun y => match x.1, y.1 with | .int i, .int j => if (small i && small j) = true then some (prng i (j - i).toNat, y.2) else none | _, _ => none
def enumQ : Nat → List P → List P
  | _, [] => []
  | k, x :: xs => .wt [.int (k : Int), x] :: enumQ (k + 1) xs
def qiEnum (a : PM) : PIM := fun pe s => (a pe s).bind fun x => match x.1 with
  | .tup xs => some (enumQ 0 xs, x.2)
  | .lst xs => some (enumQ 0 xs, x.2)
  | .rl xs => some (enumQ 0 xs, x.2)
  | _ => none
def zipQ : List P → List P → List P
  | x :: xs, y :: ys => .wt [x, y] :: zipQ xs ys
  | _, _ => []
def qiZipT (a b : PM) : PIM := fun pe s => (a pe s).bind fun x => (b pe x.2).bind fun y => match x.1, y.1 with | .tup xs, .tup ys => some (zipQ xs ys, y.2) | _, _ => none
/-- what stands still while it is walked -/
def Still (μ : Mu) (mw : Nat → Bool) (h : VH) (w : Nat → Option Nat) (cs : List (Nat × VO)) : Prop := ∀ c ∈ cs, ¬ μ.has c.1 ∧ h[c.1]? = some c.2 ∧ ∀ i, mw i = true → w i ≠ some c.1
def IS (O mw : Nat → Bool) (im : IM) (q : PIM) : Prop := ∀ μ B0 h env pe w s xs s', In μ B0 O h env pe w s → q pe s = some (xs, s') → ∃ ds cs h', im env h = some ((ds, cs), h') ∧ Kp μ h h' ∧ SI μ h' s' ∧ Reps μ (bl B0 w) h' xs ds ∧ Still μ mw h' w cs
theorem Still.chk {μ : Mu} {h : VH} {w : Nat → Option Nat} {cs : List (Nat × VO)} (s : Still μ mw h w cs) : chk cs h = true := by
  unfold Vm.chk
  rw [List.all_eq_true]
  exact fun c m => decide_eq_true (s c m).2.1
theorem Still.fl {μ : Mu} {h h' : VH} {w w' : Nat → Option Nat} {cs : List (Nat × VO)} (s : Still μ mw h w cs) (f : Fl μ mw h w h' w') : Still μ mw h' w' cs := fun c m => by
  obtain ⟨x1, x2, x3⟩ := s c m
  refine ⟨x1, f.kp _ _ x2 x1 x3, fun i mi e => ?_⟩
  rcases f.nw i _ mi e with ⟨j, mj, ej⟩ | g
  · exact x3 j mj ej
  · exact Nat.not_lt.mpr g (List.getElem?_eq_some_iff.mp x2).1
theorem Still.nil {μ : Mu} {h : VH} {w : Nat → Option Nat} : Still μ mw h w [] := fun c m => by cases m
theorem is_seq (hm : ES O m qm) : IS O mw (imSeq m) (qiSeq qm) := fun μ B0 h env pe w s xs s' I e => by
  unfold qiSeq at e
  obtain ⟨⟨x, s1⟩, e1, e⟩ := Option.bind_eq_some_iff.mp e
  obtain ⟨d1, h1, f1, k1, i1, r1⟩ := hm _ _ _ _ _ _ _ _ _ I e1
  cases x <;> try cases e
  · unfold Rep at r1; obtain ⟨ds, rfl, q⟩ := r1; exact ⟨ds, [], h1, by simp only [imSeq, f1, Option.bind_some], k1, i1, q, .nil⟩
  · unfold Rep at r1; obtain ⟨ds, rfl, q⟩ := r1; exact ⟨ds, [], h1, by simp only [imSeq, f1, Option.bind_some], k1, i1, q, .nil⟩
  · unfold Rep at r1; obtain ⟨n, ds, rfl, b, g, q⟩ := r1
    refine ⟨ds, [(n, .lst ds)], h1, by simp only [imSeq, f1, g, Option.bind_some], k1, i1, q, fun c m => ?_⟩
    rw [List.mem_singleton] at m; subst m
    exact ⟨fun z => b (.inl (I.mu _ z)), g, fun i _ e => b (.inr ⟨i, e⟩)⟩
  · unfold Rep at r1; obtain ⟨ds, rfl, q⟩ := r1; exact ⟨ds, [], h1, by simp only [imSeq, f1, Option.bind_some], k1, i1, q, .nil⟩
/-- a variable's own list, which the loop's body leaves alone -/
theorem is_own {i : Nat} (hO : O i = true := by rfl) (hm : mw i = false := by rfl) : IS O mw (imSeq (mVar i)) (qiSeq (qVar i)) := fun μ B0 h env pe w s xs s' I e => by
  unfold qiSeq at e
  obtain ⟨⟨x, s1⟩, e1, e⟩ := Option.bind_eq_some_iff.mp e
  unfold qVar at e1
  split at e1
  · rename_i x' hx
    cases e1
    obtain ⟨a, hw, he, r⟩ := I.ow i _ hO hx
    cases x <;> try cases e
    · unfold RepX Rep at r; obtain ⟨ds, z, _⟩ := r; cases z
    · unfold RepX Rep at r; obtain ⟨ds, z, _⟩ := r; cases z
    · obtain ⟨n, ds, z, b, g, q⟩ := r
      cases z
      refine ⟨ds, [(a, .lst ds)], h, by simp only [imSeq, mVar, he, g, Option.bind_some], .refl, I.si, q, fun c m => ?_⟩
      rw [List.mem_singleton] at m; subst m
      refine ⟨b, g, fun j mj ej => ?_⟩
      have := I.inj j i a ej hw
      subst this
      rw [hm] at mj; cases mj
    · unfold RepX Rep at r; obtain ⟨ds, z, _⟩ := r; cases z
  · cases e1
theorem is_rng1 (hm : ET O m qm) : IS O mw (imRng1 (mCons m mNil)) (qiRng1 qm) := fun μ B0 h env pe w s xs s' I e => by
  unfold qiRng1 at e
  obtain ⟨⟨x, s1⟩, e1, e⟩ := Option.bind_eq_some_iff.mp e
  obtain ⟨d1, h1, f1, k1, i1, r1⟩ := hm _ _ _ _ _ _ _ _ _ I e1
  cases x <;> try cases e
  simp only at e
  split at e
  · rename_i hz
    cases e
    unfold RepX Rep at r1; subst r1
    exact ⟨_, [], h1, by simp only [imRng1, mCons, mNil, f1, Option.bind_some, hz, if_true], k1, i1, prng_rep _ _, .nil⟩
  · cases e
theorem is_rng2 (hm : ET O m qm) (hm2 : ET O m2 qm2) : IS O mw (imRng2 (mCons m (mCons m2 mNil))) (qiRng2 qm qm2) := fun μ B0 h env pe w s xs s' I e => by
  unfold qiRng2 at e
  obtain ⟨⟨x, s1⟩, e1, e⟩ := Option.bind_eq_some_iff.mp e
  obtain ⟨⟨y, s2⟩, e2, e⟩ := Option.bind_eq_some_iff.mp e
  obtain ⟨d1, h1, f1, k1, i1, r1⟩ := hm _ _ _ _ _ _ _ _ _ I e1
  obtain ⟨d2, h2, f2, k2, i2, r2⟩ := hm2 _ _ _ _ _ _ _ _ _ (I.keep k1 i1) e2
  cases x <;> cases y <;> try cases e
  simp only at e
  split at e
  · rename_i hz
    cases e
    unfold RepX Rep at r1 r2; subst r1 r2
    exact ⟨_, [], h2, by simp only [imRng2, mCons, mNil, f1, f2, Option.bind_some, hz, if_true], k1.trans k2, i2, prng_rep _ _, .nil⟩
  · cases e
theorem enum_rep {μ : Mu} {B : Nat → Prop} {h : VH} : ∀ {ps : List P} {ds : List D} (k : Nat), Reps μ B h ps ds → Reps μ B h (enumQ k ps) (enumP k ds)
  | [], _, k, r => by unfold Reps at r; subst r; exact Reps.nil
  | p :: ps, _, k, r => by
    unfold Reps at r
    obtain ⟨d, t, rfl, a, b⟩ := r
    unfold enumQ enumP
    refine Reps.cons ?_ (enum_rep (k + 1) b)
    unfold Rep
    exact ⟨_, rfl, Reps.cons rfl (Reps.cons a Reps.nil)⟩
theorem is_enum (hm : ES O m qm) : IS O mw (imEnum (mCons m mNil)) (qiEnum qm) := fun μ B0 h env pe w s xs s' I e => by
  unfold qiEnum at e
  obtain ⟨⟨x, s1⟩, e1, e⟩ := Option.bind_eq_some_iff.mp e
  obtain ⟨d1, h1, f1, k1, i1, r1⟩ := hm _ _ _ _ _ _ _ _ _ I e1
  cases x <;> try cases e
  · unfold Rep at r1; obtain ⟨ds, rfl, q⟩ := r1; exact ⟨_, [], h1, by simp only [imEnum, mCons, mNil, f1, Option.bind_some], k1, i1, enum_rep 0 q, .nil⟩
  · unfold Rep at r1; obtain ⟨n, ds, rfl, b, g, q⟩ := r1
    refine ⟨_, [(n, .lst ds)], h1, by simp only [imEnum, mCons, mNil, f1, g, Option.bind_some], k1, i1, enum_rep 0 q, fun c m => ?_⟩
    rw [List.mem_singleton] at m; subst m
    exact ⟨fun z => b (.inl (I.mu _ z)), g, fun i _ e => b (.inr ⟨i, e⟩)⟩
  · unfold Rep at r1; obtain ⟨ds, rfl, q⟩ := r1; exact ⟨_, [], h1, by simp only [imEnum, mCons, mNil, f1, Option.bind_some], k1, i1, enum_rep 0 q, .nil⟩
theorem zip_rep {μ : Mu} {B : Nat → Prop} {h : VH} : ∀ {ps qs : List P} {ds es : List D}, Reps μ B h ps ds → Reps μ B h qs es → Reps μ B h (zipQ ps qs) (zipP ds es)
  | [], _, _, _, r, _ => by unfold Reps at r; subst r; simp [zipQ, zipP, Reps]
  | p :: ps, [], _, _, _, r => by unfold Reps at r; subst r; simp [zipQ, zipP, Reps]
  | p :: ps, q :: qs, _, _, r, r' => by
    unfold Reps at r r'
    obtain ⟨d, t, rfl, a, b⟩ := r
    obtain ⟨d', t', rfl, a', b'⟩ := r'
    unfold zipQ zipP
    refine Reps.cons ?_ (zip_rep b b')
    unfold Rep
    exact ⟨_, rfl, Reps.cons a (Reps.cons a' Reps.nil)⟩
theorem is_zipT (hm : ES O m qm) (hm2 : ES O m2 qm2) : IS O mw (imZipT (mCons m (mCons m2 mNil))) (qiZipT qm qm2) := fun μ B0 h env pe w s xs s' I e => by
  unfold qiZipT at e
  obtain ⟨⟨x, s1⟩, e1, e⟩ := Option.bind_eq_some_iff.mp e
  obtain ⟨⟨y, s2⟩, e2, e⟩ := Option.bind_eq_some_iff.mp e
  obtain ⟨d1, h1, f1, k1, i1, r1⟩ := hm _ _ _ _ _ _ _ _ _ I e1
  obtain ⟨d2, h2, f2, k2, i2, r2⟩ := hm2 _ _ _ _ _ _ _ _ _ (I.keep k1 i1) e2
  cases x <;> cases y <;> try cases e
  unfold Rep at r1 r2
  obtain ⟨ds, rfl, q⟩ := r1
  obtain ⟨es, rfl, q'⟩ := r2
  exact ⟨_, [], h2, by simp only [imZipT, mCons, mNil, f1, f2, Option.bind_some], k1.trans k2, i2, zip_rep (q.mono (Stp.kp I.mu' k2)) q', .nil⟩
/-! ### for -/
def forP (g : PGM) (b : PSM) : List P → PEn → S → Option PO
  | [], pe, s => some (.nx pe s)
  | x :: xs, pe, s => (g x pe s).bind fun y => match b y.1 y.2 with
      | some (.nx pe' s') => forP g b xs pe' s'
      | some (.ct pe' s') => forP g b xs pe' s'
      | some (.bk pe' s') => some (.nx pe' s')
      | some (.rt p s') => some (.rt p s')
      | none => none
def qFor (i : PIM) (g : PGM) (b : PSM) : PSM := fun pe s => (i pe s).bind fun x => forP g b x.1 pe x.2
theorem forP_ok {g : GM} {qg : PGM} {b : SM} {qb : PSM} (hg : GS O mw g qg) (hb : SS O mw b qb) {μ : Mu} {B0 : Nat → Prop} {cs : List (Nat × VO)} : ∀ {xs : List P} {ds : List D} {h : VH} {env : En} {pe : PEn} {w : Nat → Option Nat} {s : S} {r : PO},
    In μ B0 O h env pe w s → Reps μ (bl B0 w) h xs ds → Still μ mw h w cs → forP qg qb xs pe s = some r → ∃ so, forL cs g b ds env h = some so ∧ SRel μ B0 O mw h w r so
  | [], _, h, env, pe, w, s, r, I, q, st, e => by
    unfold Reps at q; subst q
    cases e
    exact ⟨.nx env h, by simp only [forL, st.chk, if_true], w, I, .refl⟩
  | x :: xs, _, h, env, pe, w, s, r, I, q, st, e => by
    unfold Reps at q
    obtain ⟨d, t, rfl, q1, q2⟩ := q
    unfold forP at e
    obtain ⟨⟨pe1, s1⟩, e1, e⟩ := Option.bind_eq_some_iff.mp e
    obtain ⟨env1, h1, w1, f1, I1, fl1⟩ := hg _ _ _ _ _ _ _ _ _ _ _ I q1 e1
    simp only at e
    cases e2 : qb pe1 s1 with
    | none => rw [e2] at e; cases e
    | some r1 =>
      rw [e2] at e
      obtain ⟨so, f2, x2⟩ := hb _ _ _ _ _ _ _ _ I1 e2
      cases r1 with
      | nx pe2 s2 =>
        cases so <;> try exact x2.elim
        rename_i env2 h2
        obtain ⟨w2, I2, fl2⟩ := x2
        have fl := fl1.trans fl2
        obtain ⟨so, f3, x3⟩ := forP_ok hg hb I2 (q2.mono (fl.stp I.mu)) (st.fl fl) e
        exact ⟨so, by simp only [forL, st.chk, if_true, f1, f2, f3, Option.bind_some], x3.step fl⟩
      | ct pe2 s2 =>
        cases so <;> try exact x2.elim
        rename_i env2 h2
        obtain ⟨w2, I2, fl2⟩ := x2
        have fl := fl1.trans fl2
        obtain ⟨so, f3, x3⟩ := forP_ok hg hb I2 (q2.mono (fl.stp I.mu)) (st.fl fl) e
        exact ⟨so, by simp only [forL, st.chk, if_true, f1, f2, f3, Option.bind_some], x3.step fl⟩
      | bk pe2 s2 =>
        cases so <;> try exact x2.elim
        rename_i env2 h2
        cases e
        obtain ⟨w2, I2, fl2⟩ := x2
        exact ⟨.nx env2 h2, by simp only [forL, st.chk, if_true, f1, f2, Option.bind_some], w2, I2, fl1.trans fl2⟩
      | rt p2 s2 =>
        cases so <;> try exact x2.elim
        rename_i d2 h2
        cases e
        exact ⟨.rt d2 h2, by simp only [forL, st.chk, if_true, f1, f2, Option.bind_some], SRel.step fl1 (r := .rt p2 s2) (so := .rt _ _) x2⟩
theorem ss_for {im : IM} {qi : PIM} {g : GM} {qg : PGM} {b : SM} {qb : PSM} (hi : IS O mw im qi) (hg : GS O mw g qg) (hb : SS O mw b qb) : SS O mw (sFor im g b) (qFor qi qg qb) := fun μ B0 h env pe w s r I e => by
  unfold qFor at e
  obtain ⟨⟨xs, s1⟩, e1, e⟩ := Option.bind_eq_some_iff.mp e
  obtain ⟨ds, cs, h1, f1, k1, i1, q, st⟩ := hi _ _ _ _ _ _ _ _ _ I e1
  obtain ⟨so, f2, x⟩ := forP_ok hg hb (I.keep k1 i1) q st e
  exact ⟨so, by simp only [sFor, f1, f2, Option.bind_some], x.step (.of k1)⟩
/-! ### while -/
def whileP (c : PBM) (b : PSM) : Nat → PEn → S → Option PO
  | 0, _, _ => none
  | n + 1, pe, s => (c pe s).bind fun x => if x.1 = true then match b pe x.2 with
      | some (.nx pe' s') => whileP c b n pe' s'
      | some (.ct pe' s') => whileP c b n pe' s'
      | some (.bk pe' s') => some (.nx pe' s')
      | some (.rt p s') => some (.rt p s')
      | none => none
    else some (.nx pe x.2)
def qWhile (c : PBM) (b : PSM) : PSM := fun pe s => whileP c b fuel pe s
theorem whileP_ok {c : BM} {qc : PBM} {b : SM} {qb : PSM} (hc : BS O c qc) (hb : SS O mw b qb) {μ : Mu} {B0 : Nat → Prop} : ∀ {n : Nat} {h : VH} {env : En} {pe : PEn} {w : Nat → Option Nat} {s : S} {r : PO},
    In μ B0 O h env pe w s → whileP qc qb n pe s = some r → ∃ so, whileN c b n env h = some so ∧ SRel μ B0 O mw h w r so
  | 0, _, _, _, _, _, _, _, e => by cases e
  | n + 1, h, env, pe, w, s, r, I, e => by
    unfold whileP at e
    obtain ⟨⟨k, s1⟩, e1, e⟩ := Option.bind_eq_some_iff.mp e
    obtain ⟨h1, f1, k1, i1⟩ := hc _ _ _ _ _ _ _ _ _ I e1
    have I1 := I.keep k1 i1
    cases k with
    | false =>
      simp only [Bool.false_eq_true, if_false] at e
      cases e
      exact ⟨.nx env h1, by simp only [whileN, f1, Option.bind_some, Bool.false_eq_true, if_false], w, I1, .of k1⟩
    | true =>
      simp only [if_true] at e
      cases e2 : qb pe s1 with
      | none => rw [e2] at e; cases e
      | some r1 =>
        rw [e2] at e
        obtain ⟨so, f2, x2⟩ := hb _ _ _ _ _ _ _ _ I1 e2
        have fl1 : Fl μ mw h w h1 w := .of k1
        cases r1 with
        | nx pe2 s2 =>
          cases so <;> try exact x2.elim
          obtain ⟨w2, I2, fl2⟩ := x2
          obtain ⟨so, f3, x3⟩ := whileP_ok hc hb I2 e
          exact ⟨so, by simp only [whileN, f1, f2, f3, Option.bind_some, if_true], x3.step (fl1.trans fl2)⟩
        | ct pe2 s2 =>
          cases so <;> try exact x2.elim
          obtain ⟨w2, I2, fl2⟩ := x2
          obtain ⟨so, f3, x3⟩ := whileP_ok hc hb I2 e
          exact ⟨so, by simp only [whileN, f1, f2, f3, Option.bind_some, if_true], x3.step (fl1.trans fl2)⟩
        | bk pe2 s2 =>
          cases so <;> try exact x2.elim
          rename_i env2 h2
          cases e
          obtain ⟨w2, I2, fl2⟩ := x2
          exact ⟨.nx env2 h2, by simp only [whileN, f1, f2, Option.bind_some, if_true], w2, I2, fl1.trans fl2⟩
        | rt p2 s2 =>
          cases so <;> try exact x2.elim
          rename_i d2 h2
          cases e
          exact ⟨.rt d2 h2, by simp only [whileN, f1, f2, Option.bind_some, if_true], SRel.step fl1 (r := .rt p2 s2) (so := .rt _ _) x2⟩
theorem ss_while {c : BM} {qc : PBM} {b : SM} {qb : PSM} (hc : BS O c qc) (hb : SS O mw b qb) : SS O mw (sWhile c b) (qWhile qc qb) := fun μ B0 h env pe w s r I e => whileP_ok hc hb I e
/-! ### comprehensions -/
def wipeP (pe : PEn) : List Nat → PEn
  | [] => pe
  | v :: vs => (wipeP pe vs).set v none
def lcP (own : List Nat) (g : PGM) (t : PBM) (e : PM) (pe0 : PEn) : List P → S → Option (List P × S)
  | [], s => some ([], s)
  | x :: xs, s => (g x (wipeP pe0 own) s).bind fun y => (t y.1 y.2).bind fun q =>
        if q.1 = true then (e y.1 q.2).bind fun v => (lcP own g t e pe0 xs v.2).bind fun z => some (v.1 :: z.1, z.2)
        else lcP own g t e pe0 xs q.2
def qbYes : PBM := fun _ s => some (true, s)
def qLc (i : PIM) (own : List Nat) (g : PGM) (t : PBM) (e : PM) : PM := fun pe s => (i pe s).bind fun x => (lcP own g t e pe x.1 x.2).bind fun q => if x.1.length ≤ lim then some (.lst q.1, q.2) else none
theorem bs_yes : BS O bYes qbYes := fun μ B0 h env pe w s b s' I e => by cases e; exact ⟨h, rfl, .refl, I.si⟩
theorem In.wipe {μ : Mu} {B0 : Nat → Prop} {h : VH} {env : En} {pe : PEn} {w : Nat → Option Nat} {s : S} (I : In μ B0 O h env pe w s) : ∀ {own : List Nat}, (own.all fun i => !O i) = true → In μ B0 O h (wipeE env own) (wipeP pe own) w s
  | [], _ => I
  | v :: vs, ho => by
    rw [List.all_cons, Bool.and_eq_true] at ho
    have J := In.wipe I ho.2
    have hv : O v = false := by simpa using ho.1
    unfold wipeE wipeP
    refine ⟨J.mu, J.lt, J.si, by simp [J.len], J.own, J.inj, fun i p o e => ?_, fun i p o e => ?_⟩
    · by_cases hi : v = i
      · subst hi
        exfalso
        by_cases hl : v < (wipeP pe vs).length
        · rw [List.getElem?_set_self hl] at e; cases e
        · rw [List.getElem?_eq_none (by simpa using hl)] at e; cases e
      · rw [List.getElem?_set_ne hi] at e ⊢
        exact J.pl i p o e
    · have hi : v ≠ i := fun z => by subst z; rw [hv] at o; cases o
      rw [List.getElem?_set_ne hi] at e ⊢
      exact J.ow i p o e
theorem lcP_ok {own : List Nat} {g : GM} {qg : PGM} {t : BM} {qt : PBM} {e : EM} {qe : PM} (ho : (own.all fun i => !O i) = true) (hg : TG' O g qg) (ht : BS O t qt) (he : ES O e qe) {μ : Mu} {B0 : Nat → Prop} {cs : List (Nat × VO)} {env : En} {pe : PEn} {w : Nat → Option Nat} : ∀ {xs : List P} {ds : List D} {h : VH} {s s' : S} {ys : List P},
    In μ B0 O h env pe w s → Reps μ (bl B0 w) h xs ds → Still μ (fun _ => false) h w cs → lcP own qg qt qe pe xs s = some (ys, s') → ∃ es h', lcL cs own g t e env ds h = some (es, h') ∧ Kp μ h h' ∧ SI μ h' s' ∧ Reps μ (bl B0 w) h' ys es
  | [], _, h, s, s', ys, I, q, st, ee => by
    unfold Reps at q; subst q
    cases ee
    exact ⟨[], h, by simp only [lcL, st.chk, if_true], .refl, I.si, Reps.nil⟩
  | x :: xs, _, h, s, s', ys, I, q, st, ee => by
    unfold Reps at q
    obtain ⟨d, r, rfl, q1, q2⟩ := q
    unfold lcP at ee
    obtain ⟨⟨pe1, s1⟩, e1, ee⟩ := Option.bind_eq_some_iff.mp ee
    obtain ⟨⟨k, s2⟩, e2, ee⟩ := Option.bind_eq_some_iff.mp ee
    obtain ⟨z1, env1, f1, I1⟩ := hg _ _ _ _ _ _ _ _ _ _ _ (I.wipe ho) q1 e1
    subst z1
    obtain ⟨h2, f2, k2, i2⟩ := ht _ _ _ _ _ _ _ _ _ I1 e2
    have I2 := I1.keep k2 i2
    cases k with
    | true =>
      simp only [if_true] at ee
      obtain ⟨⟨v, s3⟩, e3, ee⟩ := Option.bind_eq_some_iff.mp ee
      obtain ⟨⟨vs, s4⟩, e4, ee⟩ := Option.bind_eq_some_iff.mp ee
      cases ee
      obtain ⟨dv, h3, f3, k3, i3, r3⟩ := he _ _ _ _ _ _ _ _ _ I2 e3
      have k23 := k2.trans k3
      obtain ⟨es, h4, f4, k4, i4, r4⟩ := lcP_ok ho hg ht he (I.keep k23 i3) (q2.mono (Stp.kp I.mu' k23)) (st.fl (.of k23)) e4
      exact ⟨dv :: es, h4, by simp only [lcL, st.chk, if_true, f1, f2, f3, f4, Option.bind_some], k23.trans k4, i4, Reps.cons (r3.mono (Stp.kp I.mu' k4)) r4⟩
    | false =>
      simp only [Bool.false_eq_true, if_false] at ee
      obtain ⟨es, h4, f4, k4, i4, r4⟩ := lcP_ok ho hg ht he (I.keep k2 i2) (q2.mono (Stp.kp I.mu' k2)) (st.fl (.of k2)) ee
      exact ⟨es, h4, by simp only [lcL, st.chk, if_true, f1, f2, f4, Option.bind_some, Bool.false_eq_true, if_false], k2.trans k4, i4, r4⟩
theorem ef_lc {im : IM} {qi : PIM} {own : List Nat} {g : GM} {qg : PGM} {t : BM} {qt : PBM} {e : EM} {qe : PM} (hi : IS O (fun _ => false) im qi) (hg : TG' O g qg) (ht : BS O t qt) (he : ES O e qe) (ho : (own.all fun i => !O i) = true := by rfl) : EF O (mLc im own g t e) (qLc qi own qg qt qe) := fun μ B0 h env pe w s z s' I ee => by
  unfold qLc at ee
  obtain ⟨⟨xs, s1⟩, e1, ee⟩ := Option.bind_eq_some_iff.mp ee
  obtain ⟨⟨ys, s2⟩, e2, ee⟩ := Option.bind_eq_some_iff.mp ee
  split at ee
  · rename_i hz
    cases ee
    obtain ⟨ds, cs, h1, f1, k1, i1, q, st⟩ := hi _ _ _ _ _ _ _ _ _ I e1
    obtain ⟨es, h2, f2, k2, i2, r2⟩ := lcP_ok ho hg ht he (I.keep k1 i1) q st e2
    simp only at hz
    rw [q.length] at hz
    obtain ⟨x1, x2, x3, x4, x5, x6⟩ := newF I (k1.trans k2) i2 r2
    exact ⟨h2.length, _, by simp only [mLc, f1, f2, Option.bind_some, hz, if_true], x1, x2, x3, x4, x5, x6⟩
  · cases ee
/-! ### a def -/
def bodyP (np N : Nat) (b : PSM) : List P → S → Option (P × S) := fun ps s => if ps.length = np then match b (ps.map some ++ List.replicate (N - ps.length) none) s with
  | some (.nx _ s') => some (.non, s')
  | some (.rt p s') => some (p, s')
  | _ => none else none
theorem fn_body {np N : Nat} {b : SM} {q : PSM} (hb : SS O mw b q) (ho : ∀ i, i < np → O i = false) : FnP (bodyF N b) (bodyP np N q) := fun μ B0 h s ds ps p s' mu lt si r e => by
  unfold bodyP at e
  split at e
  · rename_i hn
    have get : ∀ {i : Nat} {x : P}, (ps.map some ++ List.replicate (N - ps.length) none)[i]? = some (some x) → ps[i]? = some x := fun {i x} e => by
      by_cases hi : i < ps.length
      · rw [List.getElem?_append_left (by simpa using hi), List.getElem?_map] at e
        rw [List.getElem?_eq_getElem hi] at e ⊢
        simpa using e
      · rw [List.getElem?_append_right (by simpa using hi)] at e
        rw [List.getElem?_replicate] at e
        split at e <;> cases e
    have I : In μ B0 O h (ds.map some ++ List.replicate (N - ds.length) none) (ps.map some ++ List.replicate (N - ps.length) none) (fun _ => none) s := by
      refine ⟨mu, lt, si, by simp [r.length], fun i a e => (by cases e), fun i j a e => (by cases e), fun i x o e => ?_, fun i x o e => ?_⟩
      · have g := get e
        obtain ⟨d, e1, q1⟩ := r.get g
        have hl := (List.getElem?_eq_some_iff.mp e1).1
        refine ⟨d, ?_, q1.mono (Stp.less fun n z => ?_)⟩
        · rw [List.getElem?_append_left (by simpa using hl), List.getElem?_map, e1]; rfl
        · rcases z with z | ⟨j, z⟩
          · exact z
          · cases z
      · have g := get e
        have hl := (List.getElem?_eq_some_iff.mp g).1
        rw [ho i (by omega)] at o; cases o
    cases eq : q (ps.map some ++ List.replicate (N - ps.length) none) s with
    | none => rw [eq] at e; cases e
    | some r1 =>
      rw [eq] at e
      obtain ⟨so, f1, x⟩ := hb _ _ _ _ _ _ _ _ I eq
      have kp : ∀ {h' w'}, Fl μ mw h (fun _ => none) h' w' → Kp μ h h' := fun fl => ⟨fl.len, fun n o e z => fl.kp n o e z fun i _ q => by cases q⟩
      cases r1 with
      | nx pe' s1 =>
        cases so <;> try exact x.elim
        cases e
        obtain ⟨w', I', fl⟩ := x
        exact ⟨.non, _, by simp only [bodyF, f1], kp fl, I'.si, rfl⟩
      | rt p' s1 =>
        cases so <;> try exact x.elim
        cases e
        obtain ⟨r', si', w', fl⟩ := x
        exact ⟨_, _, by simp only [bodyF, f1], kp fl, si', r'⟩
      | bk _ _ => cases e
      | ct _ _ => cases e
  · cases e
end
end Pu
namespace Pu
open PySem PySem.Spec PyProof.Rows L2 Vm
section
variable {O : Nat → Bool} {a b : EM} {p q : PM}
def pAddL : P → P → Option P
  | .lst a, .lst b => if okLen (a.length + b.length) = true then some (.lst (a ++ b)) else none
  | _, _ => none
theorem fresh_of {μ : Mu} {B : Nat → Prop} {h : VH} (lt : ∀ n, B n → n < h.length) (nm : ¬ μ.has h.length) {ps : List P} {ds : List D} (r : Reps μ B h ps ds) : RepX μ (fun a => B a ∨ a = h.length) (h ++ [.lst ds]) (.lst ps) (.ref h.length) ∧ Rep μ B (h ++ [.lst ds]) (.lst ps) (.ref h.length) := by
  refine ⟨⟨_, ds, rfl, nm, get_new', r.mono fun n o b e => ⟨fun z => z.elim b fun z => ?_, get_app e _⟩⟩, Rep.newL lt r⟩
  subst z; exact Nat.lt_irrefl _ (List.getElem?_eq_some_iff.mp e).1
theorem ef_add (ha : ET O a p) (hb : ET O b q) : EF O (mBin dAdd a b) (qBin pAddL p q) := fun μ B0 h env pe w s z s' I e => by
  unfold qBin at e
  obtain ⟨⟨x, s1⟩, e1, e⟩ := Option.bind_eq_some_iff.mp e
  obtain ⟨⟨y, s2⟩, e2, e⟩ := Option.bind_eq_some_iff.mp e
  obtain ⟨v, e3, e⟩ := Option.bind_eq_some_iff.mp e
  cases e
  obtain ⟨d1, h1, f1, k1, i1, r1⟩ := ha _ _ _ _ _ _ _ _ _ I e1
  have I1 := I.keep k1 i1
  obtain ⟨d2, h2, f2, k2, i2, r2⟩ := hb _ _ _ _ _ _ _ _ _ I1 e2
  have I2 := I1.keep k2 i2
  have r1' := r1.kp I.mu' k2
  cases x <;> cases y <;> try cases e3
  obtain ⟨m, ds, rfl, _, g, q⟩ := r1'
  obtain ⟨n, es, rfl, _, g', q'⟩ := r2
  simp only [pAddL] at e3
  split at e3
  · rename_i hz
    cases e3
    rw [q.length, q'.length] at hz
    obtain ⟨x1, x2, x3, x4, x5, x6⟩ := newF I (k1.trans k2) i2 (q.append q')
    exact ⟨h2.length, _, by simp only [mBin, f1, f2, Option.bind_some, dAdd, g, g', hz, if_true], x1, x2, x3, x4, x5, x6⟩
  · cases e3
theorem ef_list {ma : AM} {pa : PAM} (ha : AT O ma pa) : EF O (mFn dListOf ma) (qB pListOf pa) := fun μ B0 h env pe w s z s' I e => by
  unfold qB at e
  obtain ⟨⟨x, s1⟩, e1, e⟩ := Option.bind_eq_some_iff.mp e
  obtain ⟨v, e2, e⟩ := Option.bind_eq_some_iff.mp e
  cases e
  obtain ⟨d1, h1, f1, k1, i1, r1⟩ := ha _ _ _ _ _ _ _ _ _ I e1
  match x, r1, e2 with
  | [p], r1, e2 =>
    obtain ⟨d, rfl, a⟩ := repXs1 r1
    obtain ⟨xs, e3, e4⟩ := Option.bind_eq_some_iff.mp e2
    cases e4
    obtain ⟨es, e5, q⟩ := items_ok a e3
    obtain ⟨x1, x2, x3, x4, x5, x6⟩ := newF I k1 i1 q
    exact ⟨h1.length, _, by simp only [mFn, f1, Option.bind_some, dListOf, e5], x1, x2, x3, x4, x5, x6⟩
  | [], _, e2 => cases e2
  | _ :: _ :: _, _, e2 => cases e2
end
theorem tblP_nil : TblP (fun _ => none) (fun _ => none) := fun x n F h => by cases h
theorem tblP_cons {a : String} {n : Nat} {f : List D → VH → Option (D × VH)} {F : List P → S → Option (P × S)} {t : Tbl} {t' : PTbl} (h : FnP f F) (r : TblP t t') : TblP (fun x => if x = a then some (n, f) else t x) (fun x => if x = a then some (n, F) else t' x) := fun x m G e => by
  by_cases hx : x = a
  · subst hx
    simp only [if_true] at e ⊢
    cases e
    exact ⟨f, rfl, h⟩
  · simp only [if_neg hx] at e ⊢
    exact r x m G e
/-! ### the drawing, as numbers -/
def mixF (c n : Int) : Int := ((((c * (1 + 2 * n) * 48271).fmod 2147483647 + 7919 * n * n + 104729 * n) * 69621).fmod 2147483629).fdiv 7
def cellF (s : S) (L : Int) : Int := (mixF (mixF (s.cs.getD (s.spot % 64) 0 + 31 * (s.spot : Int).fdiv 64) s.spot) ((s.spot : Int) + 7)).fmod L
def drawV (s : S) (L : Int) : Int := if s.gs = [] then cellF s L else if 0 < s.gs.getD (s.spot % s.gs.length) 0 then (s.gs.getD (s.spot % s.gs.length) 0).fmod L else cellF s L
def drawS (s : S) (L : Int) : S := if s.gs = [] then { s with spot := s.spot + 1 } else
  if 0 < s.gs.getD (s.spot % s.gs.length) 0 then { s with spot := s.spot + 1, gs := s.gs.set (s.spot % s.gs.length) ((s.gs.getD (s.spot % s.gs.length) 0).fdiv L) } else { s with spot := s.spot + 1 }
def mostSpot : Nat := 100000
def pDraw : List P → S → Option (P × S)
  | [.gen, .int L], s => if 0 < L ∧ L ≤ 1000000 ∧ s.spot ≤ mostSpot then some (.int (drawV s L), drawS s L) else none
  | _, _ => none
theorem drawV_range (s : S) {L : Int} (h : 0 < L) : 0 ≤ drawV s L ∧ drawV s L < L := by
  have fm : ∀ x : Int, 0 ≤ x.fmod L ∧ x.fmod L < L := fun x => by
    rw [Int.fmod_eq_emod_of_nonneg x (by omega)]
    exact ⟨Int.emod_nonneg x (by omega), Int.emod_lt_of_pos x h⟩
  unfold drawV cellF
  split
  · exact fm _
  · split
    · exact fm _
    · exact fm _
theorem drawS_spot (s : S) (L : Int) : (drawS s L).spot = s.spot + 1 := by
  unfold drawS
  split
  · rfl
  · split <;> rfl
/-! ### working out -/
def gq (o : Option (Option P)) (s : S) : Option (P × S) := match o with | some (some d) => some (d, s) | _ => none
theorem gq_ok {p : P} {s : S} : gq (some (some p)) s = some (p, s) := rfl
theorem z_var {i pe s} : qVar i pe s = gq pe[i]? s := rfl
theorem z_c {p : P} {pe : PEn} {s : S} : qC p pe s = some (p, s) := rfl
def wr (x : Option P) (s : S) : Option (P × S) := x.bind fun z => some (z, s)
theorem wr_ok {z : P} {s : S} : wr (some z) s = some (z, s) := rfl
def bq1 (x : Option (P × S)) (g : P → P → Option P) (b : PM) (pe : PEn) : Option (P × S) := x.bind fun p => (b pe p.2).bind fun y => (g p.1 y.1).bind fun z => some (z, y.2)
def bq2 (d : P) (x : Option (P × S)) (g : P → P → Option P) : Option (P × S) := x.bind fun y => (g d y.1).bind fun z => some (z, y.2)
theorem bq1_ok {d s g b pe} : bq1 (some (d, s)) g b pe = bq2 d (b pe s) g := rfl
theorem bq2_ok {d e s g} : bq2 d (some (e, s)) g = wr (g d e) s := rfl
theorem z_bin {g a b pe s} : qBin g a b pe s = bq1 (a pe s) g b pe := rfl
def iq1 {α : Type} (x : Option (Bool × S)) (a b : PEn → S → Option α) (pe : PEn) : Option α := x.bind fun p => if p.1 = true then a pe p.2 else b pe p.2
theorem iq1_ok {α : Type} {k : Bool} {s : S} {a b : PEn → S → Option α} {pe : PEn} : iq1 (some (k, s)) a b pe = pick k (a pe s) (b pe s) := rfl
theorem z_if {c a b pe s} : qIf c a b pe s = iq1 (c pe s) a b pe := rfl
theorem z_ifS {c a b pe s} : qIfS c a b pe s = iq1 (c pe s) a b pe := rfl
theorem z_nil {pe : PEn} {s : S} : qNil pe s = some ([], s) := rfl
def cq1 (x : Option (P × S)) (r : PAM) (pe : PEn) : Option (List P × S) := x.bind fun p => (r pe p.2).bind fun q => some (p.1 :: q.1, q.2)
def cq2 (d : P) (x : Option (List P × S)) : Option (List P × S) := x.bind fun q => some (d :: q.1, q.2)
theorem cq1_ok {d s r pe} : cq1 (some (d, s)) r pe = cq2 d (r pe s) := rfl
theorem cq2_ok {d ds s} : cq2 d (some (ds, s)) = some (d :: ds, s) := rfl
theorem z_cons {a : PM} {r : PAM} {pe : PEn} {s : S} : qCons a r pe s = cq1 (a pe s) r pe := rfl
def fq1 (x : Option (List P × S)) (f : List P → S → Option (P × S)) : Option (P × S) := x.bind fun p => f p.1 p.2
theorem fq1_ok {ds s f} : fq1 (some (ds, s)) f = f ds s := rfl
theorem z_fn {f a pe s} : qFn f a pe s = fq1 (a pe s) f := rfl
def tupQ (ds : List P) (s : S) : Option (P × S) := if ds.length ≤ lim then some (.tup ds, s) else none
def lstQ (ds : List P) (s : S) : Option (P × S) := if ds.length ≤ lim then some (.lst ds, s) else none
theorem z_tup {a : PAM} {pe : PEn} {s : S} : qTup a pe s = fq1 (a pe s) tupQ := rfl
theorem z_lst {a : PAM} {pe : PEn} {s : S} : qLst a pe s = fq1 (a pe s) lstQ := rfl
theorem tupQ_ok {ds : List P} {s : S} (h : decide (ds.length ≤ 1000000) = true := by rfl) : tupQ ds s = some (.tup ds, s) := if_pos (of_decide_eq_true h)
theorem tupQ_0 {s} : tupQ [] s = some (.tup [], s) := rfl
theorem tupQ_1 {a s} : tupQ [a] s = some (.tup [a], s) := rfl
theorem tupQ_2 {a b s} : tupQ [a, b] s = some (.tup [a, b], s) := rfl
theorem tupQ_3 {a b c s} : tupQ [a, b, c] s = some (.tup [a, b, c], s) := rfl
theorem lstQ_0 {s} : lstQ [] s = some (.lst [], s) := rfl
theorem lstQ_1 {a s} : lstQ [a] s = some (.lst [a], s) := rfl
theorem lstQ_2 {a b s} : lstQ [a, b] s = some (.lst [a, b], s) := rfl
theorem lstQ_3 {a b c s} : lstQ [a, b, c] s = some (.lst [a, b, c], s) := rfl
theorem lstQ_4 {a b c d s} : lstQ [a, b, c, d] s = some (.lst [a, b, c, d], s) := rfl
theorem lstQ_5 {a b c d e s} : lstQ [a, b, c, d, e] s = some (.lst [a, b, c, d, e], s) := rfl
theorem lstQ_6 {a b c d e f s} : lstQ [a, b, c, d, e, f] s = some (.lst [a, b, c, d, e, f], s) := rfl
def bq (x : Option (List P × S)) (g : List P → Option P) : Option (P × S) := x.bind fun p => (g p.1).bind fun z => some (z, p.2)
theorem bq_ok {ds s g} : bq (some (ds, s)) g = wr (g ds) s := rfl
theorem z_b {g a pe s} : qB g a pe s = bq (a pe s) g := rfl
def blQ (p : P × S) : Option (Bool × S) := match p.1 with | .bl b => some (b, p.2) | _ => none
theorem blQ_ok {b : Bool} {s : S} : blQ (.bl b, s) = some (b, s) := rfl
theorem z_bV {a pe s} : qbV a pe s = (a pe s).bind blQ := rfl
def tq1 (x : Option (P × S)) : Option (Bool × S) := x.bind fun p => (pTru p.1).bind fun b => some (b, p.2)
def tq2 (x : Option Bool) (s : S) : Option (Bool × S) := x.bind fun b => some (b, s)
theorem tq1_ok {d s} : tq1 (some (d, s)) = tq2 (pTru d) s := rfl
theorem tq2_ok {b s} : tq2 (some b) s = some (b, s) := rfl
theorem z_bT {a : PM} {pe : PEn} {s : S} : qbT a pe s = tq1 (a pe s) := rfl
def aq1 (x : Option (Bool × S)) (b : PBM) (pe : PEn) : Option (Bool × S) := x.bind fun p => if p.1 = true then b pe p.2 else some (false, p.2)
theorem aq1_ok {k s b pe} : aq1 (some (k, s)) b pe = pick k (b pe s) (some (false, s)) := rfl
theorem z_bAnd {a b pe s} : qbAnd a b pe s = aq1 (a pe s) b pe := rfl
def oq1 (x : Option (Bool × S)) (b : PBM) (pe : PEn) : Option (Bool × S) := x.bind fun p => if p.1 = true then some (true, p.2) else b pe p.2
theorem oq1_ok {k s b pe} : oq1 (some (k, s)) b pe = pick k (some (true, s)) (b pe s) := rfl
theorem z_bOr {a b pe s} : qbOr a b pe s = oq1 (a pe s) b pe := rfl
def nq1 (x : Option (Bool × S)) : Option (Bool × S) := x.bind fun p => some (!p.1, p.2)
theorem nq1_ok {b s} : nq1 (some (b, s)) = some (!b, s) := rfl
theorem z_bNot {a pe s} : qbNot a pe s = nq1 (a pe s) := rfl
theorem z_yes {pe : PEn} {s : S} : qbYes pe s = some (true, s) := rfl
def vq1 (x : Option (P × S)) (b : PM) (pe : PEn) : Option (P × S) := x.bind fun p => (pTru p.1).bind fun k => if k = true then b pe p.2 else some p
def vq2 (x : Option Bool) (d : P) (s : S) (b : PM) (pe : PEn) : Option (P × S) := x.bind fun k => if k = true then b pe s else some (d, s)
theorem vq1_ok {d s b pe} : vq1 (some (d, s)) b pe = vq2 (pTru d) d s b pe := rfl
theorem vq2_ok {k d s b pe} : vq2 (some k) d s b pe = pick k (b pe s) (some (d, s)) := rfl
theorem z_and {a b : PM} {pe : PEn} {s : S} : qAnd a b pe s = vq1 (a pe s) b pe := rfl
def uq1 (x : Option (P × S)) (b : PM) (pe : PEn) : Option (P × S) := x.bind fun p => (pTru p.1).bind fun k => if k = true then some p else b pe p.2
def uq2 (x : Option Bool) (d : P) (s : S) (b : PM) (pe : PEn) : Option (P × S) := x.bind fun k => if k = true then some (d, s) else b pe s
theorem uq1_ok {d s b pe} : uq1 (some (d, s)) b pe = uq2 (pTru d) d s b pe := rfl
theorem uq2_ok {k d s b pe} : uq2 (some k) d s b pe = pick k (some (d, s)) (b pe s) := rfl
theorem z_or {a b : PM} {pe : PEn} {s : S} : qOr a b pe s = uq1 (a pe s) b pe := rfl
def xq1 (x : Option (P × S)) : Option (P × S) := x.bind fun p => (pTru p.1).bind fun k => some (.bl (!k), p.2)
def xq2 (x : Option Bool) (s : S) : Option (P × S) := x.bind fun k => some (.bl (!k), s)
theorem xq1_ok {d s} : xq1 (some (d, s)) = xq2 (pTru d) s := rfl
theorem xq2_ok {k s} : xq2 (some k) s = some (.bl (!k), s) := rfl
theorem z_not {a : PM} {pe : PEn} {s : S} : qNot a pe s = xq1 (a pe s) := rfl
def ngQ (p : P × S) : Option (P × S) := match p.1 with | .int i => some (.int (-i), p.2) | _ => none
theorem ngQ_ok {i s} : ngQ (.int i, s) = some (.int (-i), s) := rfl
theorem z_neg {a pe s} : qNeg a pe s = (a pe s).bind ngQ := rfl
def kq3 (e : P) (x : Option P) (s : S) (g : P → P → Option P) (c : PM) (pe : PEn) : Option (P × S) := match x with | some (.bl true) => bq2 e (c pe s) g | some (.bl false) => some (.bl false, s) | _ => none
theorem kq3_ok {e b s g c pe} : kq3 e (some (.bl b)) s g c pe = pick b (bq2 e (c pe s) g) (some (.bl false, s)) := by cases b <;> rfl
def kq2 (d : P) (x : Option (P × S)) (f g : P → P → Option P) (c : PM) (pe : PEn) : Option (P × S) := x.bind fun q => kq3 q.1 (f d q.1) q.2 g c pe
theorem kq2_ok {d e s f g c pe} : kq2 d (some (e, s)) f g c pe = kq3 e (f d e) s g c pe := rfl
def kq1 (x : Option (P × S)) (f g : P → P → Option P) (b c : PM) (pe : PEn) : Option (P × S) := x.bind fun p => kq2 p.1 (b pe p.2) f g c pe
theorem kq1_ok {d s f g b c pe} : kq1 (some (d, s)) f g b c pe = kq2 d (b pe s) f g c pe := rfl
theorem z_chain {f g a b c pe s} : qChain f g a b c pe s = kq1 (a pe s) f g b c pe := by
  unfold qChain kq1 kq2
  cases a pe s with
  | none => rfl
  | some x =>
    rw [bind_some', bind_some']
    cases b pe x.2 with
    | none => rfl
    | some y =>
      rw [bind_some', bind_some']
      cases f x.1 y.1 with
      | none => rfl
      | some r =>
        rw [bind_some']
        cases r <;> first | rfl | (rename_i k; cases k <;> rfl)
theorem z_oNone {pe s} : qoNone pe s = some (none, s) := rfl
def osQ (p : P × S) : Option (Option Int × S) := match p.1 with | .int i => some (some i, p.2) | _ => none
theorem osQ_ok {i s} : osQ (.int i, s) = some (some i, s) := rfl
theorem z_oSome {m pe s} : qoSome m pe s = (m pe s).bind osQ := rfl
def sq1 (x : Option (P × S)) (lo hi : POM) (pe : PEn) : Option (P × S) := x.bind fun p => (lo pe p.2).bind fun l => (hi pe l.2).bind fun u => (pSlice p.1 l.1 u.1).bind fun z => some (z, u.2)
def sq2 (d : P) (x : Option (Option Int × S)) (hi : POM) (pe : PEn) : Option (P × S) := x.bind fun l => (hi pe l.2).bind fun u => (pSlice d l.1 u.1).bind fun z => some (z, u.2)
def sq3 (d : P) (l : Option Int) (x : Option (Option Int × S)) : Option (P × S) := x.bind fun u => (pSlice d l u.1).bind fun z => some (z, u.2)
theorem sq1_ok {d s lo hi pe} : sq1 (some (d, s)) lo hi pe = sq2 d (lo pe s) hi pe := rfl
theorem sq2_ok {d l s hi pe} : sq2 d (some (l, s)) hi pe = sq3 d l (hi pe s) := rfl
theorem sq3_ok {d l u s} : sq3 d l (some (u, s)) = wr (pSlice d l u) s := rfl
theorem z_slice {m lo hi pe s} : qSlice m lo hi pe s = sq1 (m pe s) lo hi pe := rfl
theorem z_slT {xs lo hi} : pSlice (.tup xs) lo hi = some (.tup (cutP xs lo hi)) := rfl
theorem z_slL {xs lo hi} : pSlice (.lst xs) lo hi = some (.lst (cutP xs lo hi)) := rfl
def rvQ (p : P × S) : Option (P × S) := match p.1 with | .tup xs => some (.tup xs.reverse, p.2) | _ => none
theorem rvQ_ok {xs s} : rvQ (.tup xs, s) = some (.tup xs.reverse, s) := rfl
theorem z_revT {m pe s} : qRevT m pe s = (m pe s).bind rvQ := rfl
def r1Q (p : P × S) : Option ((Int × Int) × S) := match p.1 with | .int j => some ((0, j), p.2) | _ => none
theorem r1Q_ok {j s} : r1Q (.int j, s) = some ((0, j), s) := rfl
theorem z_rg1 {a pe s} : qRg1 a pe s = (a pe s).bind r1Q := rfl
def trQ (p : (Int × Int) × S) : Option (P × S) := if rgSm p.1.1 p.1.2 = true then some (.tup (prng p.1.1 (p.1.2 - p.1.1).toNat), p.2) else none
def lrQ (p : (Int × Int) × S) : Option (P × S) := if rgSm p.1.1 p.1.2 = true then some (.lst (prng p.1.1 (p.1.2 - p.1.1).toNat), p.2) else none
theorem z_tupR {m pe s} : qTupR m pe s = (m pe s).bind trQ := rfl
theorem z_lstR {m pe s} : qLstR m pe s = (m pe s).bind lrQ := rfl
theorem trQ_n {n : Nat} {s : S} (h : n ≤ 1000) : trQ ((0, (n : Int)), s) = some (.tup (prng 0 n), s) := by
  unfold trQ
  rw [if_pos (rgSm_n h)]
  simp
theorem lrQ_n {n : Nat} {s : S} (h : n ≤ 1000) : lrQ ((0, (n : Int)), s) = some (.lst (prng 0 n), s) := by
  unfold lrQ
  rw [if_pos (rgSm_n h)]
  simp
def lq1 (o : Option (Option P)) (t : PTbl) (a : PAM) (pe : PEn) (s : S) : Option (P × S) := match o with | some (some (.fn x)) => (t x).bind fun f => (a pe s).bind fun y => if y.1.length = f.1 then f.2 y.1 y.2 else none | _ => none
def lq2 (o : Option (Nat × (List P → S → Option (P × S)))) (a : PAM) (pe : PEn) (s : S) : Option (P × S) := o.bind fun f => (a pe s).bind fun y => if y.1.length = f.1 then f.2 y.1 y.2 else none
def lq3 (n : Nat) (F : List P → S → Option (P × S)) (x : Option (List P × S)) : Option (P × S) := x.bind fun y => if y.1.length = n then F y.1 y.2 else none
theorem lq1_ok {x t a pe s} : lq1 (some (some (.fn x))) t a pe s = lq2 (t x) a pe s := rfl
theorem lq2_ok {n F a pe s} : lq2 (some (n, F)) a pe s = lq3 n F (a pe s) := rfl
theorem lq3_ok {n F ds s} : lq3 n F (some (ds, s)) = pick (decide (ds.length = n)) (F ds s) none := by
  unfold lq3 pick
  rw [bind_some']
  simp only [decide_eq_true_eq]
theorem z_callL {i t a pe s} : qCallL i t a pe s = lq1 pe[i]? t a pe s := rfl
def nq (n : Nat) (pm : List Nat) (F : List P → S → Option (P × S)) (x : Option (List P × S)) : Option (P × S) := x.bind fun y => if (perm pm y.1).length = n then F (perm pm y.1) y.2 else none
theorem nq_ok {n pm F ds s} : nq n pm F (some (ds, s)) = pick (decide ((perm pm ds).length = n)) (F (perm pm ds) s) none := by
  unfold nq pick
  rw [bind_some']
  simp only [decide_eq_true_eq]
theorem z_fnK {n pm F m pe s} : qFnK n pm F m pe s = nq n pm F (m pe s) := rfl
/-! statements -/
def qs (r : Option PO) (b : PSM) : Option PO := match r with | some (.nx pe s) => b pe s | r => r
theorem qs_nx {pe s b} : qs (some (.nx pe s)) b = b pe s := rfl
theorem qs_rt {d s b} : qs (some (.rt d s)) b = some (.rt d s) := rfl
theorem qs_bk {d s b} : qs (some (.bk d s)) b = some (.bk d s) := rfl
theorem qs_ct {d s b} : qs (some (.ct d s)) b = some (.ct d s) := rfl
theorem qs_pick {k : Bool} {x y : Option PO} {b : PSM} : qs (pick k x y) b = pick k (qs x b) (qs y b) := by cases k <;> rfl
theorem z_seq {a b pe s} : qSeq a b pe s = qs (a pe s) b := by
  unfold qSeq qs
  cases a pe s with
  | none => rfl
  | some r => cases r <;> rfl
theorem z_next {pe s} : qNext pe s = some (.nx pe s) := rfl
theorem z_bk {pe s} : qBrk pe s = some (.bk pe s) := rfl
theorem z_ct {pe s} : qCt pe s = some (.ct pe s) := rfl
def eq1 (x : Option (P × S)) (pe : PEn) : Option PO := x.bind fun p => some (.nx pe p.2)
theorem eq1_ok {d s pe} : eq1 (some (d, s)) pe = some (.nx pe s) := rfl
theorem z_expr {m pe s} : qExpr m pe s = eq1 (m pe s) pe := rfl
def rq1 (x : Option (P × S)) : Option PO := x.bind fun p => some (.rt p.1 p.2)
theorem rq1_ok {d s} : rq1 (some (d, s)) = some (.rt d s) := rfl
theorem z_ret {m pe s} : qRet m pe s = rq1 (m pe s) := rfl
theorem z_retN {pe s} : qRetN pe s = some (.rt .non s) := rfl
def gq1 (x : Option (P × S)) (g : PGM) (pe : PEn) : Option PO := x.bind fun p => (g p.1 pe p.2).bind fun q => some (.nx q.1 q.2)
def gq2 (x : Option (PEn × S)) : Option PO := x.bind fun q => some (.nx q.1 q.2)
theorem gq1_ok {d s g pe} : gq1 (some (d, s)) g pe = gq2 (g d pe s) := rfl
theorem gq2_ok {pe s} : gq2 (some (pe, s)) = some (.nx pe s) := rfl
theorem z_asg {m g pe s} : qAsg m g pe s = gq1 (m pe s) g pe := rfl
theorem z_nm {i d pe s} : qNm i d pe s = some (pe.set i (some d), s) := rfl
theorem z_gt {r ds pe s} : qGT r (.tup ds) pe s = r ds pe s := rfl
theorem z_gw {r ds pe s} : qGT r (.wt ds) pe s = r ds pe s := rfl
theorem z_gn {pe : PEn} {s : S} : qGN [] pe s = some (pe, s) := rfl
def gcq (x : Option (PEn × S)) (r : PGMs) (ds : List P) : Option (PEn × S) := x.bind fun p => r ds p.1 p.2
theorem gcq_ok {pe s r ds} : gcq (some (pe, s)) r ds = r ds pe s := rfl
theorem z_gc {g r d ds pe s} : qGC g r (d :: ds) pe s = gcq (g d pe s) r ds := rfl
def sbI (x : Nat) (pe : PEn) (xs : List P) (v : P) (o : Option (P × S)) : Option (PEn × S) := o.bind fun y => (pStoreL xs y.1 v).bind fun xs' => some (pe.set x (some (.lst xs')), y.2)
def sbJ (x : Nat) (pe : PEn) (s : S) (o : Option (List P)) : Option (PEn × S) := o.bind fun xs' => some (pe.set x (some (.lst xs')), s)
theorem sbI_ok {x pe xs v d s} : sbI x pe xs v (some (d, s)) = sbJ x pe s (pStoreL xs d v) := rfl
theorem sbJ_ok {x pe s xs} : sbJ x pe s (some xs) = some (pe.set x (some (.lst xs)), s) := rfl
def sbO (x : Nat) (qi : PM) (v : P) (pe : PEn) (s : S) (o : Option (Option P)) : Option (PEn × S) := match o with | some (some (.lst xs)) => sbI x pe xs v (qi pe s) | _ => none
theorem sbO_ok {x qi v pe s xs} : sbO x qi v pe s (some (some (.lst xs))) = sbI x pe xs v (qi pe s) := rfl
theorem z_sub {x qi v pe s} : qGSub x qi v pe s = sbO x qi v pe s pe[x]? := by
  unfold qGSub sbO
  cases pe[x]? with
  | none => rfl
  | some o =>
    cases o with
    | none => rfl
    | some p => cases p <;> rfl
def puI (x : Nat) (qi : PM) (pe : PEn) (o : Option (P × S)) : Option PO := o.bind fun v => (sbO x qi v.1 pe v.2 pe[x]?).bind fun q => some (.nx q.1 q.2)
theorem puI_ok {x qi pe d s} : puI x qi pe (some (d, s)) = gq2 (sbO x qi d pe s pe[x]?) := rfl
theorem z_put {x qi qv pe s} : qPut x qi qv pe s = puI x qi pe (qv pe s) := by
  unfold qPut puI
  cases qv pe s with
  | none => rfl
  | some v =>
    rw [bind_some', bind_some']
    unfold sbO
    cases h : pe[x]? with
    | none => rfl
    | some o =>
      cases o with
      | none => rfl
      | some p =>
        cases p <;> try rfl
        simp only [sbI]
        cases qi pe v.2 with
        | none => rfl
        | some y =>
          simp only [bind_some']
          cases pStoreL _ y.1 v.1 <;> rfl
def apO (x : Nat) (d : P) (pe : PEn) (s : S) (o : Option (Option P)) : Option PO := match o with | some (some (.lst xs)) => if okLen (xs.length + 1) = true then some (.nx (pe.set x (some (.lst (xs ++ [d])))) s) else none | _ => none
theorem apO_ok {x d pe s} {xs : List P} (h : xs.length < 1000000) : apO x d pe s (some (some (.lst xs))) = some (.nx (pe.set x (some (.lst (xs ++ [d])))) s) := if_pos (decide_eq_true (show xs.length + 1 ≤ lim from h))
def apI (x : Nat) (pe : PEn) (o : Option (P × S)) : Option PO := o.bind fun v => apO x v.1 pe v.2 pe[x]?
theorem apI_ok {x pe d s} : apI x pe (some (d, s)) = apO x d pe s pe[x]? := rfl
theorem z_append {x q pe s} : qAppend x q pe s = apI x pe (q pe s) := by
  unfold qAppend apI apO
  cases q pe s with
  | none => rfl
  | some v =>
    first
    | rfl
    | (rw [bind_some', bind_some']
       cases h : pe[x]? with
       | none => rfl
       | some o =>
         cases o with
         | none => rfl
         | some p => cases p <;> rfl)
def pq1 (i j : Nat) (x : Option (P × S)) (b : PM) (pe : PEn) : Option PO := x.bind fun x => (b pe x.2).bind fun y => some (.nx ((pe.set i (some x.1)).set j (some y.1)) y.2)
def pq2 (i j : Nat) (d : P) (y : Option (P × S)) (pe : PEn) : Option PO := y.bind fun y => some (.nx ((pe.set i (some d)).set j (some y.1)) y.2)
theorem pq1_ok {i j d s b pe} : pq1 i j (some (d, s)) b pe = pq2 i j d (b pe s) pe := rfl
theorem pq2_ok {i j d e s pe} : pq2 i j d (some (e, s)) pe = some (.nx ((pe.set i (some d)).set j (some e)) s) := rfl
theorem z_par {i j a b pe s} : qPar i j a b pe s = pq1 i j (a pe s) b pe := rfl
def p3q1 (i j l : Nat) (x : Option (P × S)) (b c : PM) (pe : PEn) : Option PO := x.bind fun x => (b pe x.2).bind fun y => (c pe y.2).bind fun z => some (.nx (((pe.set i (some x.1)).set j (some y.1)).set l (some z.1)) z.2)
def p3q2 (i j l : Nat) (d : P) (y : Option (P × S)) (c : PM) (pe : PEn) : Option PO := y.bind fun y => (c pe y.2).bind fun z => some (.nx (((pe.set i (some d)).set j (some y.1)).set l (some z.1)) z.2)
def p3q3 (i j l : Nat) (d e : P) (z : Option (P × S)) (pe : PEn) : Option PO := z.bind fun z => some (.nx (((pe.set i (some d)).set j (some e)).set l (some z.1)) z.2)
theorem p3q1_ok {i j l d s b c pe} : p3q1 i j l (some (d, s)) b c pe = p3q2 i j l d (b pe s) c pe := rfl
theorem p3q2_ok {i j l d e s c pe} : p3q2 i j l d (some (e, s)) c pe = p3q3 i j l d e (c pe s) pe := rfl
theorem p3q3_ok {i j l d e f s pe} : p3q3 i j l d e (some (f, s)) pe = some (.nx (((pe.set i (some d)).set j (some e)).set l (some f)) s) := rfl
theorem z_par3 {i j l a b c pe s} : qPar3 i j l a b c pe s = p3q1 i j l (a pe s) b c pe := rfl
/-! walks -/
def wq (x : Option (List P)) (s : S) : Option (List P × S) := x.bind fun z => some (z, s)
theorem wq_ok {z s} : wq (some z) s = some (z, s) := rfl
def iqS (x : Option (P × S)) : Option (List P × S) := x.bind fun p => wq (itemsP p.1) p.2
theorem iqS_ok {d s} : iqS (some (d, s)) = wq (itemsP d) s := rfl
theorem it_tup {xs} : itemsP (.tup xs) = some xs := rfl
theorem it_lst {xs} : itemsP (.lst xs) = some xs := rfl
theorem it_rl {xs} : itemsP (.rl xs) = some xs := rfl
theorem z_iSeq {m pe s} : qiSeq m pe s = iqS (m pe s) := by
  unfold qiSeq iqS wq
  cases m pe s with
  | none => rfl
  | some x =>
    rw [bind_some', bind_some']
    cases itemsP x.1 <;> rfl
def rgQ (p : P × S) : Option (List P × S) := match p.1 with | .int j => if small j = true then some (prng 0 j.toNat, p.2) else none | _ => none
theorem rgQ_n {n : Nat} {s : S} (h : n ≤ 1000) : rgQ (.int (n : Int), s) = some (prng 0 n, s) := by
  unfold rgQ small
  simp; omega
theorem z_iRng1 {m pe s} : qiRng1 m pe s = (m pe s).bind rgQ := rfl
def enQ (p : P × S) : Option (List P × S) := match p.1 with
  | .tup xs => some (enumQ 0 xs, p.2)
  | .lst xs => some (enumQ 0 xs, p.2)
  | .rl xs => some (enumQ 0 xs, p.2)
  | _ => none
theorem enQ_tup {xs s} : enQ (.tup xs, s) = some (enumQ 0 xs, s) := rfl
theorem enQ_lst {xs s} : enQ (.lst xs, s) = some (enumQ 0 xs, s) := rfl
theorem z_iEnum {m pe s} : qiEnum m pe s = (m pe s).bind enQ := rfl
def zq1 (x : Option (P × S)) (b : PM) (pe : PEn) : Option (List P × S) := x.bind fun x => (b pe x.2).bind fun y => match x.1, y.1 with | .tup xs, .tup ys => some (zipQ xs ys, y.2) | _, _ => none
def zq2 (d : P) (y : Option (P × S)) : Option (List P × S) := y.bind fun y => match d, y.1 with | .tup xs, .tup ys => some (zipQ xs ys, y.2) | _, _ => none
theorem zq1_ok {d s b pe} : zq1 (some (d, s)) b pe = zq2 d (b pe s) := rfl
theorem zq2_ok {xs ys s} : zq2 (.tup xs) (some (.tup ys, s)) = some (zipQ xs ys, s) := rfl
theorem z_iZip {a b pe s} : qiZipT a b pe s = zq1 (a pe s) b pe := rfl
def foq (x : Option (List P × S)) (g : PGM) (b : PSM) (pe : PEn) : Option PO := x.bind fun x => forP g b x.1 pe x.2
theorem foq_ok {xs s g b pe} : foq (some (xs, s)) g b pe = forP g b xs pe s := rfl
theorem z_for {i g b pe s} : qFor i g b pe s = foq (i pe s) g b pe := rfl
theorem for_nil {g b pe s} : forP g b [] pe s = some (.nx pe s) := rfl
def toq (r : Option PO) (k : PEn → S → Option PO) : Option PO := match r with
  | some (.nx pe s) => k pe s
  | some (.ct pe s) => k pe s
  | some (.bk pe s) => some (.nx pe s)
  | some (.rt p s) => some (.rt p s)
  | none => none
theorem toq_nx {pe s k} : toq (some (.nx pe s)) k = k pe s := rfl
theorem toq_ct {pe s k} : toq (some (.ct pe s)) k = k pe s := rfl
theorem toq_bk {pe s k} : toq (some (.bk pe s)) k = some (.nx pe s) := rfl
theorem toq_rt {p s k} : toq (some (.rt p s)) k = some (.rt p s) := rfl
theorem toq_pick {c : Bool} {x y : Option PO} {k : PEn → S → Option PO} : toq (pick c x y) k = pick c (toq x k) (toq y k) := by cases c <;> rfl
def tgq (x : Option (PEn × S)) (b : PSM) : Option PO := x.bind fun y => b y.1 y.2
theorem tgq_ok {pe s b} : tgq (some (pe, s)) b = b pe s := rfl
theorem for_cons {g b x xs pe s} : forP g b (x :: xs) pe s = toq (tgq (g x pe s) b) (forP g b xs) := by
  unfold forP tgq toq
  cases g x pe s with
  | none => rfl
  | some y =>
    first
    | rfl
    | (rw [bind_some', bind_some']
       cases b y.1 y.2 with
       | none => rfl
       | some r => cases r <;> rfl)
    | (cases b y.1 y.2 with
       | none => rfl
       | some r => cases r <;> rfl)
/-- a loop whose turns go on, each from what is told to what is told -/
theorem for_fold {α σ : Type} {g : PGM} {b : PSM} {f : α → P} {E : σ → PEn} {Sf : σ → S} {st : σ → α → σ} : ∀ (xs : List α) (a : σ), (∀ a x, x ∈ xs → tgq (g (f x) (E a) (Sf a)) b = some (.nx (E (st a x)) (Sf (st a x)))) → forP g b (xs.map f) (E a) (Sf a) = some (.nx (E (xs.foldl st a)) (Sf (xs.foldl st a)))
  | [], a, _ => rfl
  | x :: xs, a, h => by
    rw [List.map_cons, for_cons, List.foldl_cons, h a x (by simp)]
    exact for_fold (b := b) (g := g) (f := f) (E := E) (Sf := Sf) (st := st) xs (st a x) fun a' y hy => h a' y (by simp [hy])
def lcq (x : Option (List P × S)) (own : List Nat) (g : PGM) (t : PBM) (e : PM) (pe : PEn) : Option (P × S) := x.bind fun x => (lcP own g t e pe x.1 x.2).bind fun q => if x.1.length ≤ lim then some (.lst q.1, q.2) else none
def lcJ (n : Nat) (q : List P × S) : Option (P × S) := if n ≤ lim then some (.lst q.1, q.2) else none
theorem lcq_ok {xs s own g t e pe} : lcq (some (xs, s)) own g t e pe = (lcP own g t e pe xs s).bind (lcJ xs.length) := rfl
theorem lcJ_ok {n : Nat} {xs : List P} {s : S} (h : n ≤ 1000000) : lcJ n (xs, s) = some (.lst xs, s) := if_pos h
theorem z_lc {i own g t e pe s} : qLc i own g t e pe s = lcq (i pe s) own g t e pe := rfl
theorem lc_nil {own g t e pe s} : lcP own g t e pe [] s = some ([], s) := rfl
/-- a comprehension that keeps all -/
theorem lc_all {α : Type} {own : List Nat} {g : PGM} {e : PM} {pe : PEn} {s : S} {f F : α → P} : ∀ (xs : List α), (∀ x ∈ xs, ∃ pe', g (f x) (wipeP pe own) s = some (pe', s) ∧ e pe' s = some (F x, s)) → lcP own g qbYes e pe (xs.map f) s = some (xs.map F, s)
  | [], _ => rfl
  | x :: xs, h => by
    obtain ⟨pe', e1, e2⟩ := h x (by simp)
    have ih := lc_all (own := own) (g := g) (e := e) (pe := pe) (s := s) (f := f) (F := F) xs fun y hy => h y (by simp [hy])
    rw [List.map_cons, List.map_cons]
    unfold lcP
    rw [e1, bind_some', z_yes, bind_some', if_pos rfl, e2, bind_some', ih]
    rfl
/-- .. that keeps some -/
theorem lc_some {α : Type} {own : List Nat} {g : PGM} {t : PBM} {e : PM} {pe : PEn} {s : S} {f F : α → P} {k : α → Bool} : ∀ (xs : List α), (∀ x ∈ xs, ∃ pe', g (f x) (wipeP pe own) s = some (pe', s) ∧ t pe' s = some (k x, s) ∧ (k x = true → e pe' s = some (F x, s))) → lcP own g t e pe (xs.map f) s = some ((xs.filter k).map F, s)
  | [], _ => rfl
  | x :: xs, h => by
    obtain ⟨pe', e1, e2, e3⟩ := h x (by simp)
    have ih := lc_some (own := own) (g := g) (t := t) (e := e) (pe := pe) (s := s) (f := f) (F := F) (k := k) xs fun y hy => h y (by simp [hy])
    rw [List.map_cons, List.filter_cons]
    unfold lcP
    rw [e1, bind_some', e2, bind_some']
    cases hk : k x with
    | true => rw [if_pos rfl, if_pos rfl, e3 hk, bind_some', ih]; rfl
    | false => rw [if_neg (by simp), if_neg (by simp), ih]
theorem wp_nil' {pe} : wipeP pe [] = pe := rfl
theorem wp_cons' {pe v vs} : wipeP pe (v :: vs) = (wipeP pe vs).set v none := rfl
def finP (r : Option PO) : Option (P × S) := match r with | some (.nx _ s) => some (.non, s) | some (.rt p s) => some (p, s) | _ => none
theorem finP_nx {pe s} : finP (some (.nx pe s)) = some (.non, s) := rfl
theorem finP_rt {p s} : finP (some (.rt p s)) = some (p, s) := rfl
theorem finP_pick {k : Bool} {x y : Option PO} : finP (pick k x y) = pick k (finP x) (finP y) := by cases k <;> rfl
theorem z_body {np N : Nat} {b : PSM} {ps : List P} {s : S} (h : ps.length = np) : bodyP np N b ps s = finP (b (ps.map some ++ List.replicate (N - np) none) s) := by
  subst h
  unfold bodyP
  rw [if_pos rfl]
  unfold finP
  cases b (ps.map some ++ List.replicate (N - ps.length) none) s with
  | none => rfl
  | some r => cases r <;> rfl
theorem z_body' {np N : Nat} {b : PSM} {ps : List P} {s : S} : bodyP np N b ps s = pick (decide (ps.length = np)) (finP (b (ps.map some ++ List.replicate (N - ps.length) none) s)) none := by
  unfold bodyP pick
  simp only [decide_eq_true_eq]
  split
  · unfold finP
    cases b (ps.map some ++ List.replicate (N - ps.length) none) s with
    | none => rfl
    | some r => cases r <;> rfl
  · rfl
/-! values -/
theorem y_add {i j} : pAdd (.int i) (.int j) = some (.int (i + j)) := rfl
theorem y_addT {a b : List P} (h : a.length + b.length ≤ 1000000) : pAdd (.tup a) (.tup b) = some (.tup (a ++ b)) := if_pos (decide_eq_true h)
theorem y_addL {a b : List P} (h : a.length + b.length ≤ 1000000) : pAdd (.lst a) (.lst b) = some (.lst (a ++ b)) := if_pos (decide_eq_true h)
theorem y_addL' {a b : List P} (h : a.length + b.length ≤ 1000000) : pAddL (.lst a) (.lst b) = some (.lst (a ++ b)) := if_pos (decide_eq_true h)
theorem y_sub {i j} : pSub (.int i) (.int j) = some (.int (i - j)) := rfl
theorem y_mod {i j : Int} (h : j ≠ 0) : pMod (.int i) (.int j) = some (.int (i.fmod j)) := if_pos (decide_eq_true h)
theorem y_fdiv {i j : Int} (h : j ≠ 0) (h2 : j.natAbs < 1073741824) : pFdiv (.int i) (.int j) = some (.int (i.fdiv j)) := if_pos (by rw [Bool.and_eq_true, decide_eq_true_eq, decide_eq_true_eq]; exact ⟨h, h2⟩)
theorem y_mul {i j : Int} (h : in64 i = true ∨ in64 j = true) : pMulT (.int i) (.int j) = some (.int (i * j)) := if_pos (by rw [Bool.or_eq_true]; exact h)
theorem y_lt {i j} : pLt (.int i) (.int j) = some (.bl (decide (i < j))) := rfl
theorem y_le {i j} : pLe (.int i) (.int j) = some (.bl (decide (i ≤ j))) := rfl
theorem y_gt {i j} : pGt (.int i) (.int j) = some (.bl (decide (j < i))) := rfl
theorem y_ge {i j} : pGe (.int i) (.int j) = some (.bl (decide (j ≤ i))) := rfl
theorem y_eqI {i j} : pEq (.int i) (.int j) = some (.bl (decide (i = j))) := rfl
theorem y_eqS {i j} : pEq (.str i) (.str j) = some (.bl (decide (i = j))) := rfl
theorem y_neI {i j} : pNe (.int i) (.int j) = some (.bl (!decide (i = j))) := rfl
theorem y_neS {i j} : pNe (.str i) (.str j) = some (.bl (!decide (i = j))) := rfl
theorem y_lenT {xs : List P} : pLen [.tup xs] = some (.int xs.length) := rfl
theorem y_lenL {xs : List P} : pLen [.lst xs] = some (.int xs.length) := rfl
theorem y_lenR {xs : List P} : pLen [.rl xs] = some (.int xs.length) := rfl
theorem y_int {i} : pInt [.int i] = some (.int i) := rfl
theorem y_intB {b} : pInt [.bl b] = some (.int (if b then 1 else 0)) := rfl
theorem y_tupT {xs} : pTupleOf [.tup xs] = some (.tup xs) := rfl
theorem y_tupL {xs} : pTupleOf [.lst xs] = some (.tup xs) := rfl
theorem y_lstT {xs} : pListOf [.tup xs] = some (.lst xs) := rfl
theorem y_lstL {xs} : pListOf [.lst xs] = some (.lst xs) := rfl
theorem y_isii {i} : pIsI [.int i, .ty "int"] = some (.bl true) := by simp [pIsI, tagP, tagT]
theorem y_isib {i} : pIsI [.int i, .ty "bool"] = some (.bl false) := by simp [pIsI, tagP, tagT]
theorem y_isss {i} : pIsI [.str i, .ty "str"] = some (.bl true) := by simp [pIsI, tagP, tagT]
theorem y_istt {i} : pIsI [.tup i, .ty "tuple"] = some (.bl true) := by simp [pIsI, tagP, tagT]
theorem y_ixT {xs : List P} {i : Int} : pIx (.tup xs) (.int i) = atI xs i := rfl
theorem y_ixW {xs : List P} {i : Int} : pIx (.wt xs) (.int i) = atI xs i := rfl
theorem y_ixL {xs : List P} {i : Int} : pIx (.lst xs) (.int i) = atI xs i := rfl
theorem at_ok {xs : List P} {i : Int} {j : Nat} {d : P} (e : ixN xs.length i = some j) (e2 : xs[j]? = some d) : atI xs i = some d := by simp [atI, e, e2]
theorem at_nat {xs : List P} {i : Nat} {d : P} (e2 : xs[i]? = some d) : atI xs (i : Int) = some d := at_ok (ixN_nat (List.getElem?_eq_some_iff.mp e2).1) e2
theorem at_0 {a : P} {xs : List P} : atI (a :: xs) 0 = some a := at_ok (j := 0) (by unfold ixN; simp) rfl
theorem at_1 {a b : P} {xs : List P} : atI (a :: b :: xs) 1 = some b := at_ok (j := 1) (by unfold ixN; simp; omega) rfl
theorem at_2 {a b c : P} {xs : List P} : atI (a :: b :: c :: xs) 2 = some c := at_ok (j := 2) (by unfold ixN; simp; omega) rfl
theorem tp_non : pTru .non = some false := rfl
theorem tp_bl {b} : pTru (.bl b) = some b := rfl
theorem tp_int {i} : pTru (.int i) = some (i != 0) := rfl
theorem tp_tup {xs} : pTru (.tup xs) = some (!xs.isEmpty) := rfl
theorem tp_lst {xs} : pTru (.lst xs) = some (!xs.isEmpty) := rfl
end Pu
namespace Pu
open PySem PySem.Spec PyProof.Rows L2 Vm
end Pu
namespace Rw
open PySem PySem.Spec PyProof.Rows L2 Vm
def sd (b : Bool) : Str := if b then "left" else "right"
def swp {α : Type} : List α → Nat → List α
  | a :: b :: xs, 0 => b :: a :: xs
  | a :: xs, p + 1 => a :: swp xs p
  | xs, _ => xs
theorem swp_len {α : Type} : ∀ (xs : List α) (p : Nat), (swp xs p).length = xs.length
  | [], p => by cases p <;> rfl
  | [a], 0 => rfl
  | a :: b :: xs, 0 => rfl
  | a :: xs, p + 1 => by simp [swp, swp_len xs p]
theorem swp_map {α β : Type} (f : α → β) : ∀ (xs : List α) (p : Nat), swp (xs.map f) p = (swp xs p).map f
  | [], p => by cases p <;> rfl
  | [a], 0 => rfl
  | a :: b :: xs, 0 => rfl
  | a :: xs, p + 1 => by
    have := swp_map f xs p
    simp [swp, this]
theorem swp_eq {α : Type} : ∀ (xs : List α) (p : Nat) (a b : α), xs[p]? = some a → xs[p + 1]? = some b → xs.take p ++ [b, a] ++ xs.drop (p + 2) = swp xs p
  | [], _, _, _, h, _ => by simp at h
  | x :: xs, 0, a, b, h1, h2 => by
    cases xs with
    | nil => simp at h2
    | cons y ys => simp at h1 h2; subst h1 h2; rfl
  | x :: xs, p + 1, a, b, h1, h2 => by
    have := swp_eq xs p a b (by simpa using h1) (by simpa using h2)
    simp [swp, ← this]
theorem sd_left (b : Bool) : decide (sd b = ("left" : Str)) = b := by cases b <;> decide
theorem sd_right (b : Bool) : decide (sd b = ("right" : Str)) = !b := by cases b <;> decide
theorem str_lr : decide (("left" : Str) = "right") = false := by decide
theorem str_rl : decide (("right" : Str) = "left") = false := by decide
def Ok (n : Nat) (r : List (Bool × Nat)) : Prop := r.length ≤ 60 ∧ ∀ c ∈ r, c.2 + 1 < n
def way {α : Type} : List α → List (Bool × Nat) → List (List α)
  | xs, [] => [xs]
  | xs, c :: r => xs :: way (swp xs c.2) r
def back_ {α : Type} : List α → List (Bool × Nat) → List α
  | xs, [] => xs
  | xs, c :: r => back_ (swp xs c.2) r
theorem back_len {α : Type} : ∀ (r : List (Bool × Nat)) (xs : List α), (back_ xs r).length = xs.length
  | [], _ => rfl
  | c :: r, xs => by rw [back_, back_len r, swp_len]
theorem back_map {α β : Type} (f : α → β) : ∀ (r : List (Bool × Nat)) (xs : List α), back_ (xs.map f) r = (back_ xs r).map f
  | [], _ => rfl
  | c :: r, xs => by rw [back_, back_, swp_map, back_map f r]
theorem way_map {α β : Type} (f : α → β) : ∀ (r : List (Bool × Nat)) (xs : List α), way (xs.map f) r = (way xs r).map (List.map f)
  | [], _ => rfl
  | c :: r, xs => by rw [way, way, swp_map, way_map f r, List.map_cons]
theorem way_len {α : Type} : ∀ (r : List (Bool × Nat)) (xs : List α), (way xs r).length = r.length + 1
  | [], _ => rfl
  | c :: r, xs => by simp [way, way_len r]
theorem way_last {α : Type} : ∀ (r : List (Bool × Nat)) (xs : List α), ∃ w, way xs r = w ++ [back_ xs r]
  | [], xs => ⟨[], rfl⟩
  | c :: r, xs => by
    obtain ⟨w, e⟩ := way_last r (swp xs c.2)
    exact ⟨xs :: w, by rw [way, e]; rfl⟩
def mt (l : List Nat) (c : Bool × Nat) : Nat × Nat × Bool := if c.1 = true then (l.getD c.2 0, l.getD (c.2 + 1) 0, true) else (l.getD (c.2 + 1) 0, l.getD c.2 0, false)
def mts : List Nat → List (Bool × Nat) → List (Nat × Nat × Bool)
  | _, [] => []
  | l, c :: r => mt l c :: mts (swp l c.2) r
theorem mts_len : ∀ (r : List (Bool × Nat)) (l : List Nat), (mts l r).length = r.length
  | [], _ => rfl
  | c :: r, l => by simp [mts, mts_len r]
def turned (r : List (Bool × Nat)) : List (Bool × Nat) := r.map fun c => (!c.1, c.2)
def mirr (n : Nat) (r : List (Bool × Nat)) : List (Bool × Nat) := r.map fun c => (!c.1, n - 2 - c.2)
def backR (r : List (Bool × Nat)) : List (Bool × Nat) := turned r.reverse
theorem idx_cast (k : Nat) : ∀ l : List Nat, (l.map fun (i : Nat) => (i : Int)).idxOf (k : Int) = l.idxOf k
  | [] => rfl
  | a :: l => by
    have := idx_cast k l
    simp only [List.map_cons, List.idxOf_cons, this]
    by_cases h : a = k
    · subst h; simp
    · have h2 : ¬ ((a : Int) = (k : Int)) := by omega
      rw [beq_eq_false_iff_ne.mpr h2, beq_eq_false_iff_ne.mpr h]
theorem mem_swp {α : Type} {a : α} : ∀ {l : List α} {p : Nat}, a ∈ swp l p ↔ a ∈ l
  | [], p => by cases p <;> simp [swp]
  | [b], 0 => by simp [swp]
  | b :: c :: l, 0 => by simp only [swp, List.mem_cons]; constructor <;> (rintro (h | h | h) <;> simp [h])
  | b :: l, p + 1 => by simp only [swp, List.mem_cons, mem_swp (l := l)]
theorem mem_way {k : Nat} : ∀ {r : List (Bool × Nat)} {l m : List Nat}, m ∈ way l r → (k ∈ m ↔ k ∈ l)
  | [], l, m, h => by simp [way] at h; subst h; rfl
  | c :: r, l, m, h => by
    simp only [way, List.mem_cons] at h
    rcases h with h | h
    · subst h; rfl
    · rw [mem_way h, mem_swp]
theorem len_way : ∀ {r : List (Bool × Nat)} {l m : List Nat}, m ∈ way l r → m.length = l.length
  | [], l, m, h => by simp [way] at h; subst h; rfl
  | c :: r, l, m, h => by
    simp only [way, List.mem_cons] at h
    rcases h with h | h
    · subst h; rfl
    · rw [len_way h, swp_len]
def wayOf (n : Nat) (r : List (Bool × Nat)) (k : Nat) : List Nat := (way (List.range n) r).map fun l => l.idxOf k
def among (a b : Nat) (m : Nat × Nat × Bool) : Bool := (m.1 == a && m.2.1 == b) || (m.1 == b && m.2.1 == a)
theorem beq_cast (a b : Nat) : ((a : Int) == (b : Int)) = (b == a) := by
  by_cases h : a = b
  · subst h; simp
  · have h2 : ¬ ((a : Int) = (b : Int)) := by omega
    have h3 : ¬ (b = a) := fun e => h e.symm
    rw [beq_eq_false_iff_ne.mpr h2, beq_eq_false_iff_ne.mpr h3]
def cnt (n : Nat) (r : List (Bool × Nat)) (a b : Nat) : Nat := ((mts (List.range n) r).filter (among a b)).length
theorem back_mem {k : Nat} {r : List (Bool × Nat)} {l : List Nat} : k ∈ back_ l r ↔ k ∈ l := by
  induction r generalizing l with
  | nil => rfl
  | cons c r ih => rw [back_, ih, mem_swp]
theorem getD_le {l : List Nat} {N : Nat} (hl : ∀ a ∈ l, a ≤ N) (p : Nat) : l.getD p 0 ≤ N := by
  by_cases hp : p < l.length
  · have e : l.getD p 0 = l[p] := by simp [List.getD, List.getElem?_eq_getElem hp]
    rw [e]; exact hl _ (List.getElem_mem hp)
  · have e : l.getD p 0 = 0 := by simp [List.getD, List.getElem?_eq_none (show l.length ≤ p by omega)]
    rw [e]; exact Nat.zero_le _
theorem mts_le {N : Nat} : ∀ {r : List (Bool × Nat)} {l : List Nat}, (∀ a ∈ l, a ≤ N) → ∀ m ∈ mts l r, m.1 ≤ N ∧ m.2.1 ≤ N
  | [], l, _, m, h => by simp [mts] at h
  | c :: r, l, hl, m, h => by
    simp only [mts, List.mem_cons] at h
    rcases h with h | h
    · subst h
      unfold mt
      split
      · exact ⟨getD_le hl _, getD_le hl _⟩
      · exact ⟨getD_le hl _, getD_le hl _⟩
    · exact mts_le (fun a z => hl a (mem_swp.mp z)) m h
theorem range_le (h2 : n ≤ 5) : ∀ a ∈ List.range n, a ≤ 5 := fun a m => by have := List.mem_range.mp m; omega
theorem wayOf_len {k : Nat} : (wayOf n r k).length = r.length + 1 := by simp [wayOf, way_len]
theorem back_append {α : Type} : ∀ (r s : List (Bool × Nat)) (l : List α), back_ l (r ++ s) = back_ (back_ l r) s
  | [], _, _ => rfl
  | c :: r, s, l => by rw [List.cons_append, back_, back_, back_append r s]
theorem back_turned {α : Type} : ∀ (r : List (Bool × Nat)) (l : List α), back_ l (turned r) = back_ l r
  | [], _ => rfl
  | c :: r, l => by
    have := back_turned r (swp l c.2)
    simp only [turned, List.map_cons, back_] at this ⊢
    exact this
theorem swp_swp {α : Type} : ∀ (l : List α) (p : Nat), swp (swp l p) p = l
  | [], p => by cases p <;> rfl
  | [a], 0 => rfl
  | a :: b :: l, 0 => rfl
  | a :: l, p + 1 => by
    have := swp_swp l p
    simp [swp, this]
theorem back_rev {α : Type} : ∀ (r : List (Bool × Nat)) (l : List α), back_ (back_ l r) r.reverse = l
  | [], _ => rfl
  | c :: r, l => by
    rw [List.reverse_cons, back_append]
    show back_ (back_ (back_ (swp l c.2) r) r.reverse) [c] = l
    rw [back_rev r]
    exact swp_swp l c.2
theorem back_backR {α : Type} (r : List (Bool × Nat)) (l : List α) : back_ l (backR r) = back_ l r.reverse := back_turned _ _
theorem back_undo {α : Type} (r : List (Bool × Nat)) (l : List α) : back_ l (r ++ backR r) = l := by
  rw [back_append, back_backR, back_rev]
theorem swp_rev {α : Type} (l : List α) (p : Nat) (hp : p + 1 < l.length) : swp l.reverse (l.length - 2 - p) = (swp l p).reverse := by
  apply List.ext_getElem?
  intro i
  have key : ∀ (l : List α) (p : Nat), p + 1 < l.length → ∀ i, (swp l p)[i]? = if i = p then l[p + 1]? else if i = p + 1 then l[p]? else l[i]? := by
    intro l
    induction l with
    | nil => intro p hp; simp at hp
    | cons a l ih =>
      intro p hp i
      cases p with
      | zero =>
        cases l with
        | nil => simp at hp
        | cons b l =>
          match i with
          | 0 => simp [swp]
          | 1 => simp [swp]
          | i + 2 => simp [swp]
      | succ p =>
        have := ih p (by simpa using hp)
        cases i with
        | zero => simp [swp]
        | succ i => simp [swp, this i]
  have hp' : l.length - 2 - p + 1 < l.reverse.length := by rw [List.length_reverse]; omega
  rw [key _ _ hp']
  by_cases hi : i < l.length
  · have r1 : (swp l p).reverse[i]? = (swp l p)[l.length - 1 - i]? := by rw [List.getElem?_reverse (by rw [swp_len]; exact hi), swp_len]
    rw [r1, key _ _ hp, List.getElem?_reverse (show l.length - 2 - p + 1 < l.length by omega), List.getElem?_reverse (show l.length - 2 - p < l.length by omega), List.getElem?_reverse hi]
    by_cases h1 : i = l.length - 2 - p
    · rw [if_pos h1, if_neg (by omega), if_pos (by omega)]
      congr 1; omega
    · rw [if_neg h1]
      by_cases h2 : i = l.length - 2 - p + 1
      · rw [if_pos h2, if_pos (by omega)]
        congr 1; omega
      · rw [if_neg h2, if_neg (by omega), if_neg (by omega)]
  · rw [if_neg (by omega), if_neg (by omega)]
    rw [List.getElem?_eq_none (by simpa using hi), List.getElem?_eq_none (by rw [List.length_reverse, swp_len]; omega)]
theorem back_mirr {α : Type} {n : Nat} : ∀ (r : List (Bool × Nat)) (l : List α), l.length = n → (∀ c ∈ r, c.2 + 1 < n) → back_ l.reverse (mirr n r) = (back_ l r).reverse
  | [], _, _, _ => rfl
  | c :: r, l, hl, hc => by
    have hp := hc c (by simp)
    have e := swp_rev l c.2 (by omega)
    rw [hl] at e
    have ih := back_mirr (n := n) r (swp l c.2) (by rw [swp_len]; exact hl) fun d m => hc d (by simp [m])
    simp only [mirr, List.map_cons, back_] at ih ⊢
    rw [e]
    exact ih
theorem range_rev (n : Nat) : (List.range n).reverse = (List.range n).map fun k => n - 1 - k := (PySem.W.krv_range n).symm
theorem back_mirr_eq {n : Nat} {r : List (Bool × Nat)} (hc : ∀ c ∈ r, c.2 + 1 < n) : back_ (List.range n) (mirr n r) = (back_ (List.range n) r).reverse.map fun k => n - 1 - k := by
  have e := back_mirr (n := n) r (List.range n) (List.length_range) hc
  rw [range_rev, back_map] at e
  rw [← e, List.map_map]
  symm
  calc (back_ (List.range n) (mirr n r)).map ((fun k => n - 1 - k) ∘ fun k => n - 1 - k)
      = (back_ (List.range n) (mirr n r)).map id := by
        apply List.map_congr_left
        intro k hk
        have := List.mem_range.mp (back_mem.mp hk)
        show n - 1 - (n - 1 - k) = k
        omega
    _ = _ := List.map_id _
theorem nodup_swp {l : List Nat} {p : Nat} (h : l.Nodup) : (swp l p).Nodup := by
  have gen : ∀ (l : List Nat) (p : Nat), l.Nodup → (swp l p).Nodup := by
    intro l
    induction l with
    | nil => intro p h; cases p <;> exact h
    | cons a l ih =>
      intro p h
      cases p with
      | zero =>
        cases l with
        | nil => exact h
        | cons b l =>
          simp only [swp, List.nodup_cons, List.mem_cons, not_or] at h ⊢
          exact ⟨⟨fun e => h.1.1 e.symm, h.2.1⟩, h.1.2, h.2.2⟩
      | succ p =>
        simp only [swp, List.nodup_cons] at h ⊢
        exact ⟨fun m => h.1 (mem_swp.mp m), ih p h.2⟩
  exact gen l p h
theorem nodup_back : ∀ {r : List (Bool × Nat)} {l : List Nat}, l.Nodup → (back_ l r).Nodup
  | [], _, h => h
  | c :: r, l, h => nodup_back (r := r) (nodup_swp h)
theorem back_inv {n : Nat} {r : List (Bool × Nat)} : back_ (List.range n) (backR r) = (List.range n).map fun k => (back_ (List.range n) r).idxOf k := by
  have hx : back_ (back_ (List.range n) (backR r)) r = List.range n := by
    rw [back_backR]
    have := back_rev r.reverse (List.range n)
    rwa [List.reverse_reverse] at this
  generalize hX : back_ (List.range n) (backR r) = X at hx
  have lX : X.length = n := by rw [← hX, back_len, List.length_range]
  have eX : X = (List.range n).map fun i => X.getD i 0 := by
    apply List.ext_getElem
    · simp [lX]
    · intro i h1 h2
      simp [List.getD, List.getElem?_eq_getElem h1]
  rw [eX, back_map] at hx
  have nd := nodup_back (r := r) (List.nodup_range (n := n))
  have lm : (back_ (List.range n) r).length = n := by rw [back_len, List.length_range]
  have mem0 : ∀ i, i < n → i ∈ back_ (List.range n) r := fun i z => back_mem.mpr (List.mem_range.mpr z)
  generalize back_ (List.range n) r = m at hx nd lm mem0
  apply List.ext_getElem
  · simp [lX]
  · intro i h1 h2
    have hi : i < n := by omega
    rw [List.getElem_map, List.getElem_range]
    -- every place j: X at m[j] is j
    have at_ : ∀ j (hj : j < n), X.getD (m[j]'(by omega)) 0 = j := by
      intro j hj
      have := congrArg (fun l => l[j]?) hx
      simp [hj, lm] at this
      simpa [List.getElem?_eq_getElem (show j < m.length by omega)] using this
    have mem := mem0 i hi
    have hj := List.idxOf_lt_length_iff.mpr mem
    have e := at_ (m.idxOf i) (by omega)
    rw [List.getElem_idxOf hj] at e
    have : X.getD i 0 = X[i] := by simp [List.getD, List.getElem?_eq_getElem h1]
    rw [← this]; exact e
def mflip (f : Nat → Nat) (m : Nat × Nat × Bool) : Nat × Nat × Bool := (f m.1, f m.2.1, !m.2.2)
def mturn (m : Nat × Nat × Bool) : Nat × Nat × Bool := (m.2.1, m.1, !m.2.2)
theorem mts_turned : ∀ (r : List (Bool × Nat)) (l : List Nat), mts l (turned r) = (mts l r).map mturn
  | [], _ => rfl
  | c :: r, l => by
    have ih := mts_turned r (swp l c.2)
    obtain ⟨b, p⟩ := c
    simp only [turned, List.map_cons, mts] at ih ⊢
    rw [ih]
    cases b <;> simp [mt, mturn]
theorem mts_mirr {n : Nat} {f : Nat → Nat} : ∀ (r : List (Bool × Nat)) (l : List Nat), l.length = n → (∀ c ∈ r, c.2 + 1 < n) → mts (l.reverse.map f) (mirr n r) = (mts l r).map (mflip f)
  | [], _, _, _ => rfl
  | c :: r, l, hl, hc => by
    have hp := hc c (by simp)
    have ih := mts_mirr (n := n) (f := f) r (swp l c.2) (by rw [swp_len]; exact hl) fun d m => hc d (by simp [m])
    obtain ⟨b, p⟩ := c
    simp only at hp
    have e := swp_rev l p (by omega)
    rw [hl] at e
    simp only [mirr, List.map_cons, mts] at ih ⊢
    rw [swp_map, e, ih]
    have gg : ∀ i j, j < l.length → l.length - 1 - i = j → i < l.length → (l.reverse.map f).getD i 0 = f (l.getD j 0) := by
      intro i j hj e hi
      rw [List.getD_eq_getElem?_getD, List.getElem?_map, List.getElem?_reverse hi, e, List.getD_eq_getElem?_getD, List.getElem?_eq_getElem hj]; rfl
    have g1 := gg (n - 2 - p) (p + 1) (by omega) (by omega) (by omega)
    have g2 := gg (n - 2 - p + 1) p (by omega) (by omega) (by omega)
    cases b <;> simp only [mt, mflip, g1, g2, Bool.not_true, Bool.not_false, if_true, if_false, Bool.false_eq_true]
theorem range_rev_map (n : Nat) : ((List.range n).reverse.map fun k => n - 1 - k) = List.range n := by
  rw [range_rev, List.map_map]
  calc (List.range n).map ((fun k => n - 1 - k) ∘ fun k => n - 1 - k) = (List.range n).map id := by
        apply List.map_congr_left
        intro k hk
        have := List.mem_range.mp hk
        show n - 1 - (n - 1 - k) = k
        omega
    _ = _ := List.map_id _
theorem met_mirr {n : Nat} {r : List (Bool × Nat)} (hr : Ok n r) : mts (List.range n) (mirr n r) = (mts (List.range n) r).map (mflip fun k => n - 1 - k) := by
  have := mts_mirr (n := n) (f := fun k => n - 1 - k) r (List.range n) List.length_range hr.2
  rwa [range_rev_map] at this
theorem turned_len : (turned r).length = r.length := by simp [turned]
theorem mirr_len : (mirr n r).length = r.length := by simp [mirr]
theorem backR_len : (backR r).length = r.length := by simp [backR, turned]
theorem Ok.turned (hr : Ok n r) : Ok n (Rw.turned r) := ⟨by rw [turned_len]; exact hr.1, fun c m => by
  obtain ⟨d, hd, rfl⟩ := List.mem_map.mp m
  exact hr.2 d hd⟩
theorem Ok.mirr (hr : Ok n r) : Ok n (Rw.mirr n r) := ⟨by rw [mirr_len]; exact hr.1, fun c m => by
  obtain ⟨d, hd, rfl⟩ := List.mem_map.mp m
  have := hr.2 d hd
  show n - 2 - d.2 + 1 < n
  omega⟩
theorem Ok.rev (hr : Ok n r) : Ok n r.reverse := ⟨by rw [List.length_reverse]; exact hr.1, fun c m => hr.2 c (by simpa using m)⟩
theorem Ok.back (hr : Ok n r) : Ok n (backR r) := hr.rev.turned
theorem tt : turned (turned r) = r := by
  unfold turned
  rw [List.map_map]
  have : ((fun c : Bool × Nat => (!c.1, c.2)) ∘ fun c => (!c.1, c.2)) = id := by funext c; obtain ⟨b, p⟩ := c; cases b <;> rfl
  rw [this, List.map_id]
theorem mm (hr : Ok n r) : mirr n (mirr n r) = r := by
  unfold mirr
  rw [List.map_map]
  calc r.map ((fun c : Bool × Nat => (!c.1, n - 2 - c.2)) ∘ fun c => (!c.1, n - 2 - c.2)) = r.map id := by
        apply List.map_congr_left
        intro c hc
        have := hr.2 c hc
        obtain ⟨b, p⟩ := c
        simp only at this
        have e : n - 2 - (n - 2 - p) = p := by omega
        cases b <;> simp [e]
    _ = r := List.map_id _
theorem turned_rev : turned r.reverse = (turned r).reverse := by simp [turned]
theorem bb : backR (backR r) = r := by
  unfold backR
  rw [← turned_rev, List.reverse_reverse, tt]
theorem tm : turned (mirr n r) = mirr n (turned r) := by
  simp only [turned, mirr, List.map_map]
  rfl
theorem bt : backR (turned r) = turned (backR r) := by
  unfold backR
  rw [← turned_rev]
theorem bm : backR (mirr n r) = mirr n (backR r) := by
  unfold backR
  rw [← tm]
  congr 1
  simp [mirr]
end Rw
namespace Pu
open PySem PySem.Spec PyProof.Rows L2 Vm
/-! ### data that is shown -/
structure Sm (w k : Nat) (p : PyData) : Prop where
  sh : p.showable = true
  lf : p.leavesShort 13 = true
  nd : p.hasDict = false
  dp : p.depth ≤ k
  wt : p.weight ≤ w
structure SmAll (w k : Nat) (ps : List PyData) : Prop where
  sh : PyData.showableAll ps = true
  lf : PyData.leavesShortAll 13 ps = true
  nd : PyData.hasDictAll ps = false
  dp : PyData.depthAll ps ≤ k
  wt : PyData.weightAll ps ≤ ps.length * (w + 1)
theorem SmAll.nil {w k : Nat} : SmAll w k [] := ⟨rfl, rfl, rfl, Nat.zero_le _, Nat.zero_le _⟩
theorem SmAll.cons {w k : Nat} {p : PyData} {ps : List PyData} (h : Sm w k p) (r : SmAll w k ps) : SmAll w k (p :: ps) := by
  refine ⟨by simp [PyData.showableAll, h.sh, r.sh], by simp [PyData.leavesShortAll, h.lf, r.lf], by simp [PyData.hasDictAll, h.nd, r.nd], ?_, ?_⟩
  · have h1 := h.dp
    have h2 := r.dp
    simp only [PyData.depthAll]
    omega
  · have h1 := h.wt
    have h2 := r.wt
    simp only [PyData.weightAll, List.length_cons]
    rw [Nat.add_mul]
    omega
theorem SmAll.tup {w k : Nat} {ps : List PyData} (h : SmAll w k ps) : Sm (ps.length * (w + 1)) (k + 1) (.tuple ps) := by
  refine ⟨by simp [PyData.showable, h.sh], by simp [PyData.leavesShort, h.lf], by simp [PyData.hasDict, h.nd], ?_, ?_⟩
  · simp only [PyData.depth]; have := h.dp; omega
  · simp only [PyData.weight]; exact h.wt
theorem SmAll.lst {w k : Nat} {ps : List PyData} (h : SmAll w k ps) : Sm (ps.length * (w + 1)) (k + 1) (.list ps) := by
  refine ⟨by simp [PyData.showable, h.sh], by simp [PyData.leavesShort, h.lf], by simp [PyData.hasDict, h.nd], ?_, ?_⟩
  · simp only [PyData.depth]; have := h.dp; omega
  · simp only [PyData.weight]; exact h.wt
theorem Sm.mono {w w' k k' : Nat} {p : PyData} (h : Sm w k p) (hw : w ≤ w') (hk : k ≤ k') : Sm w' k' p := ⟨h.sh, h.lf, h.nd, Nat.le_trans h.dp hk, Nat.le_trans h.wt hw⟩
theorem sm_bits {i : Int} {b : Nat} (h : i.natAbs < 2 ^ b) (hb : b ≤ 36) : Sm (b + 1) 0 (.int i) := by
  have h2 : i.natAbs < 10 ^ 12 := Nat.lt_of_lt_of_le h (Nat.le_trans (Nat.pow_le_pow_right (by decide) hb) (by decide))
  have lg : i.natAbs.log2 ≤ b := by
    by_cases z : i.natAbs = 0
    · rw [z]; simp
    · exact Nat.le_of_lt ((Nat.log2_lt z).mpr h)
  refine ⟨by simp [PyData.showable]; omega, ?_, by simp [PyData.hasDict], Nat.le_refl _, ?_⟩
  · simp only [PyData.leavesShort, decide_eq_true_eq]
    exact PyData.shown_int_le h2
  · simp only [PyData.weight]
    split <;> omega
theorem sm_sd {b : Bool} : Sm 10 0 (.str (Rw.sd b)) := by
  refine ⟨by simp [PyData.showable], ?_, by simp [PyData.hasDict], Nat.le_refl _, ?_⟩
  · cases b <;> decide +kernel
  · cases b <;> decide +kernel
/-- a value that can be shown: w bounds how much, k how deep -/
def Gd (w k : Nat) (p : P) : Prop := ∃ x, (∀ m, k ≤ m → pyP m p = some x) ∧ Sm w k x
def GdL (w k : Nat) (ps : List P) : Prop := ∀ p ∈ ps, Gd w k p
theorem gd_bits {i : Int} {b : Nat} (h : i.natAbs < 2 ^ b) (hb : b ≤ 36) : Gd (b + 1) 0 (.int i) := ⟨.int i, fun m _ => by cases m <;> rfl, sm_bits h hb⟩
theorem gd_nat {i : Nat} (h : i < 512) : Gd 10 0 (.int (i : Int)) := gd_bits (b := 9) (by omega) (by decide)
theorem gd_int {i : Int} (h : i.natAbs < 512) : Gd 10 0 (.int i) := gd_bits (b := 9) h (by decide)
theorem gd_sd {b : Bool} : Gd 10 0 (.str (Rw.sd b)) := ⟨_, fun m _ => by cases m <;> rfl, sm_sd⟩
theorem gd_bl {b : Bool} : Gd 10 0 (.bl b) := ⟨.bool b, fun m _ => by cases m <;> rfl, by cases b <;> exact ⟨rfl, by decide +kernel, rfl, Nat.le_refl _, by decide⟩⟩
theorem gd_non : Gd 10 0 .non := ⟨.none, fun m _ => by cases m <;> rfl, ⟨rfl, by decide +kernel, rfl, Nat.le_refl _, by decide⟩⟩
theorem Gd.mono {w k w' k' : Nat} {p : P} (g : Gd w k p) (hw : w ≤ w') (hk : k ≤ k') : Gd w' k' p := let ⟨x, a, b⟩ := g; ⟨x, fun m z => a m (Nat.le_trans hk z), b.mono hw hk⟩
theorem GdL.nil {w k : Nat} : GdL w k [] := fun p m => by cases m
theorem GdL.cons {w k : Nat} {p : P} {ps : List P} (g : Gd w k p) (r : GdL w k ps) : GdL w k (p :: ps) := fun q m => by
  rcases List.mem_cons.mp m with e | m
  · subst e; exact g
  · exact r q m
theorem GdL.map {w k : Nat} {α : Type} {f : α → P} {l : List α} (H : ∀ a ∈ l, Gd w k (f a)) : GdL w k (l.map f) := fun p m => by
  obtain ⟨a, ha, rfl⟩ := List.mem_map.mp m
  exact H a ha
theorem GdL.append {w k : Nat} {ps qs : List P} (l : GdL w k ps) (r : GdL w k qs) : GdL w k (ps ++ qs) := fun p m => (List.mem_append.mp m).elim (l p) (r p)
theorem GdL.ex {w k : Nat} : ∀ {ps : List P}, GdL w k ps → ∃ xs, (∀ m, k ≤ m → ps.mapM (pyP m) = some xs) ∧ SmAll w k xs ∧ ps.length = xs.length
  | [], _ => ⟨[], fun m _ => by simp, .nil, rfl⟩
  | p :: ps, g => by
    obtain ⟨x, a, b⟩ := g p (by simp)
    obtain ⟨xs, a', b', c'⟩ := GdL.ex (ps := ps) fun q m => g q (by simp [m])
    refine ⟨x :: xs, fun m z => ?_, .cons b b', by simp [c']⟩
    rw [List.mapM_cons, a m z, a' m z]
    rfl
theorem GdL.tup {w k : Nat} {ps : List P} (g : GdL w k ps) : Gd (ps.length * (w + 1)) (k + 1) (.tup ps) := by
  obtain ⟨xs, a, b, c⟩ := g.ex
  refine ⟨.tuple xs, fun m z => ?_, by rw [c]; exact b.tup⟩
  obtain ⟨m', rfl⟩ : ∃ m', m = m' + 1 := ⟨m - 1, by omega⟩
  simp only [pyP, a m' (by omega), Option.map_some]
theorem GdL.lst {w k : Nat} {ps : List P} (g : GdL w k ps) : Gd (ps.length * (w + 1)) (k + 1) (.lst ps) := by
  obtain ⟨xs, a, b, c⟩ := g.ex
  refine ⟨.list xs, fun m z => ?_, by rw [c]; exact b.lst⟩
  obtain ⟨m', rfl⟩ : ∃ m', m = m' + 1 := ⟨m - 1, by omega⟩
  simp only [pyP, a m' (by omega), Option.map_some]
theorem GdL.tupN {w k n : Nat} {ps : List P} (g : GdL w k ps) (hn : ps.length ≤ n) : Gd (n * (w + 1)) (k + 1) (.tup ps) := g.tup.mono (Nat.mul_le_mul hn (Nat.le_refl _)) (Nat.le_refl _)
theorem GdL.lstN {w k n : Nat} {ps : List P} (g : GdL w k ps) (hn : ps.length ≤ n) : Gd (n * (w + 1)) (k + 1) (.lst ps) := g.lst.mono (Nat.mul_le_mul hn (Nat.le_refl _)) (Nat.le_refl _)
theorem gd_repr {w k : Nat} {p : P} (g : Gd w k p) (hk : k ≤ 12) (hw : w ≤ 60000) : ∃ x, pRepr [p] = some (.str x) := by
  obtain ⟨x, a, b⟩ := g
  have len := PyData.shown_le 13 (by decide) x b.lf
  have lw := b.wt
  have ok : okLen x.shown.length = true := by
    unfold okLen
    rw [decide_eq_true_eq]
    show x.shown.length ≤ 1000000
    omega
  have dp : decide (x.depth ≤ 60) = true := by have := b.dp; rw [decide_eq_true_eq]; omega
  have all : (x.showable && okLen x.shown.length && !x.hasDict && decide (x.depth ≤ 60)) = true := by rw [b.sh, ok, b.nd, dp]; rfl
  refine ⟨x.shown, ?_⟩
  show (pyP deep p).bind _ = _
  rw [a deep (by show k ≤ 12; exact hk)]
  show (if _ = true then _ else _) = _
  rw [if_pos all]
/-! ### rows as values -/
open Rw
def crV (c : Bool × Nat) : P := .tup [.str (sd c.1), .int (c.2 : Int)]
def rowV (r : List (Bool × Nat)) : P := .tup (r.map crV)
def nv (l : List Nat) : List P := l.map fun (i : Nat) => .int (i : Int)
def mtV (m : Nat × Nat × Bool) : P := .tup [.int (m.1 : Int), .int (m.2.1 : Int), .str (sd m.2.2)]
theorem nv_len (l : List Nat) : (nv l).length = l.length := by simp [nv]
theorem nv_get {l : List Nat} {p : Nat} (h : p < l.length) : (nv l)[p]? = some (.int (l[p] : Nat)) := by simp [nv, List.getElem?_eq_getElem h]
theorem prng_nv (n : Nat) : prng 0 n = nv (List.range n) := by
  unfold prng nv
  simp
theorem at_nv {l : List Nat} {p : Nat} (h : p < l.length) : atI (nv l) (p : Int) = some (.int (l[p] : Nat)) := at_nat (nv_get h)
theorem at_nv1 {l : List Nat} {p : Nat} (h : p + 1 < l.length) : atI (nv l) ((p : Int) + 1) = some (.int (l[p + 1] : Nat)) := by
  have := at_nv h
  simpa using this
theorem gd_nv {l : List Nat} {k : Nat} (hk : l.length ≤ k) (hl : ∀ a ∈ l, a < 512) : Gd (k * 11) 1 (.tup (nv l)) := (GdL.map fun a m => gd_nat (hl a m)).tupN (by simpa using hk)
theorem gd_cr {c : Bool × Nat} (h : c.2 < 512) : Gd 22 1 (crV c) := (GdL.cons gd_sd (.cons (gd_nat h) .nil)).tup
theorem gd_row {n : Nat} {r : List (Bool × Nat)} (h2 : n ≤ 5) (hr : Ok n r) : Gd 1380 2 (rowV r) := (GdL.map fun c m => gd_cr (by have := hr.2 c m; omega)).tupN (n := 60) (by simpa using hr.1)
theorem gd_mt {m : Nat × Nat × Bool} (h1 : m.1 < 512) (h2 : m.2.1 < 512) : Gd 33 1 (mtV m) := (GdL.cons (gd_nat h1) (.cons (gd_nat h2) (.cons gd_sd .nil))).tup
theorem gd_mts {n : Nat} {r : List (Bool × Nat)} (h2 : n ≤ 5) (hr : Ok n r) : Gd 2040 2 (.tup ((mts (List.range n) r).map mtV)) :=
  (GdL.map (f := mtV) (l := mts (List.range n) r) fun m z => by
    have := mts_le (N := 5) (range_le h2) m z
    exact gd_mt (by omega) (by omega)).tupN (n := 60) (by rw [List.length_map, mts_len]; exact hr.1)
/-! cuts -/
theorem cutP_take {xs : List P} {p : Nat} (h : p ≤ xs.length) : cutP xs none (some (p : Int)) = xs.take p := by
  unfold cutP
  rw [HT.sIx_none, HT.sIx_nat, Nat.min_eq_left h]
  simp
theorem cutP_drop {xs : List P} {p : Nat} (h : p ≤ xs.length) : cutP xs (some (p : Int)) none = xs.drop p := by
  unfold cutP
  rw [HT.sIx_none, HT.sIx_nat, Nat.min_eq_left h]
  exact List.take_of_length_le (by simp)
theorem cutP_take' {xs : List P} {p : Nat} : cutP xs none (some (p : Int)) = xs.take p := by
  unfold cutP
  rw [HT.sIx_none, HT.sIx_nat]
  by_cases h : p ≤ xs.length
  · rw [Nat.min_eq_left h]; simp
  · rw [Nat.min_eq_right (by omega)]
    simp
    rw [List.take_of_length_le (by omega)]
theorem intsP_nv : ∀ l : List Nat, intsP (nv l) = some (l.map fun (i : Nat) => (i : Int))
  | [] => rfl
  | a :: l => by
    have := intsP_nv l
    unfold nv at this ⊢
    simp [intsP, this]
theorem y_index {l : List Nat} {k : Nat} (hk : k ∈ l) : pIndex (.tup (nv l)) (.int k) = some (.int (l.idxOf k : Nat)) := by
  show ((intsP (nv l)).bind fun ns => if (k : Int) ∈ ns then some (P.int (ns.idxOf (k : Int) : Nat)) else none) = _
  rw [intsP_nv]
  have : (k : Int) ∈ l.map (fun (i : Nat) => (i : Int)) := List.mem_map.mpr ⟨k, hk, rfl⟩
  rw [bind_some', if_pos this, idx_cast]
end Pu
namespace K01
open PySem PySem.Spec PyProof.Rows L2 Vm
def top (i : Nat) : Stmt := PySem.Challenge.pw_cordrules_k01_whole_rows_one_after_anoth.main.body.getD i (.Pass ⟨0, 0, 0, 0⟩)
abbrev s_is_whole : Stmt := top 9
abbrev s_is_below : Stmt := top 10
abbrev s_is_within : Stmt := top 11
abbrev s_is_one_of : Stmt := top 12
abbrev s_is_tuple_of : Stmt := top 13
abbrev s_is_crossing : Stmt := top 14
abbrev s_need_cords : Stmt := top 15
abbrev s_need_row : Stmt := top 16
abbrev s_need_cords_and_row : Stmt := top 17
abbrev s_need_cord : Stmt := top 18
abbrev s_other_side : Stmt := top 20
abbrev s_back_of : Stmt := top 21
abbrev s_keep_under : Stmt := top 22
abbrev s_work_crossing : Stmt := top 23
abbrev s_work_way : Stmt := top 24
abbrev s_work_row : Stmt := top 25
abbrev s_order_behind : Stmt := top 26
abbrev s_meetings : Stmt := top 27
abbrev s_order_of : Stmt := top 29
abbrev s_order_on_way : Stmt := top 30
abbrev s_way_of : Stmt := top 31
abbrev s_back_row : Stmt := top 32
abbrev s_mirrored : Stmt := top 33
abbrev s_turned_over : Stmt := top 34
abbrev s_met : Stmt := top 36
abbrev s_crossed : Stmt := top 37
abbrev s__law_mixed : Stmt := top 39
abbrev s__law_folded : Stmt := top 40
abbrev s__law_draw : Stmt := top 41
abbrev s__law_begun : Stmt := top 42
abbrev s__law_of : Stmt := top 43
abbrev s__law_like : Stmt := top 44
abbrev s__law_row : Stmt := top 45
abbrev s__law_back : Stmt := top 46
abbrev s__law_walk : Stmt := top 47
abbrev s__law_ways : Stmt := top 48
abbrev s__law_crossed_right : Stmt := top 49
abbrev s__law_is_row_right : Stmt := top 50
abbrev s__law_mirror : Stmt := top 51
abbrev s__law_over : Stmt := top 52
abbrev s__law_other_sides : Stmt := top 53
abbrev s__law_made_right : Stmt := top 54
abbrev s__law_twice_right : Stmt := top 55
abbrev s__law_back_right : Stmt := top 56
abbrev s__law_names_right : Stmt := top 57
abbrev s_law : Stmt := top 58
structure Txt (K : PySem.W.Frag) (mg : Str → Option Value) : Prop where
  f_is_whole : FunAt K mg "is_whole" s_is_whole
  f_is_below : FunAt K mg "is_below" s_is_below
  f_is_within : FunAt K mg "is_within" s_is_within
  f_is_one_of : FunAt K mg "is_one_of" s_is_one_of
  f_is_tuple_of : FunAt K mg "is_tuple_of" s_is_tuple_of
  f_is_crossing : FunAt K mg "is_crossing" s_is_crossing
  f_need_cords : FunAt K mg "need_cords" s_need_cords
  f_need_row : FunAt K mg "need_row" s_need_row
  f_need_cords_and_row : FunAt K mg "need_cords_and_row" s_need_cords_and_row
  f_need_cord : FunAt K mg "need_cord" s_need_cord
  f_other_side : FunAt K mg "other_side" s_other_side
  f_back_of : FunAt K mg "back_of" s_back_of
  f_keep_under : FunAt K mg "keep_under" s_keep_under
  f_work_crossing : FunAt K mg "work_crossing" s_work_crossing
  f_work_way : FunAt K mg "work_way" s_work_way
  f_work_row : FunAt K mg "work_row" s_work_row
  f_order_behind : FunAt K mg "order_behind" s_order_behind
  f_meetings : FunAt K mg "meetings" s_meetings
  f_order_of : FunAt K mg "order_of" s_order_of
  f_order_on_way : FunAt K mg "order_on_way" s_order_on_way
  f_way_of : FunAt K mg "way_of" s_way_of
  f_back_row : FunAt K mg "back_row" s_back_row
  f_mirrored : FunAt K mg "mirrored" s_mirrored
  f_turned_over : FunAt K mg "turned_over" s_turned_over
  f_met : FunAt K mg "met" s_met
  f_crossed : FunAt K mg "crossed" s_crossed
  f__law_mixed : FunAt K mg "_law_mixed" s__law_mixed
  f__law_folded : FunAt K mg "_law_folded" s__law_folded
  f__law_draw : FunAt K mg "_law_draw" s__law_draw
  f__law_begun : FunAt K mg "_law_begun" s__law_begun
  f__law_of : FunAt K mg "_law_of" s__law_of
  f__law_like : FunAt K mg "_law_like" s__law_like
  f__law_row : FunAt K mg "_law_row" s__law_row
  f__law_back : FunAt K mg "_law_back" s__law_back
  f__law_walk : FunAt K mg "_law_walk" s__law_walk
  f__law_ways : FunAt K mg "_law_ways" s__law_ways
  f__law_crossed_right : FunAt K mg "_law_crossed_right" s__law_crossed_right
  f__law_is_row_right : FunAt K mg "_law_is_row_right" s__law_is_row_right
  f__law_mirror : FunAt K mg "_law_mirror" s__law_mirror
  f__law_over : FunAt K mg "_law_over" s__law_over
  f__law_other_sides : FunAt K mg "_law_other_sides" s__law_other_sides
  f__law_made_right : FunAt K mg "_law_made_right" s__law_made_right
  f__law_twice_right : FunAt K mg "_law_twice_right" s__law_twice_right
  f__law_back_right : FunAt K mg "_law_back_right" s__law_back_right
  f__law_names_right : FunAt K mg "_law_names_right" s__law_names_right
  f_law : FunAt K mg "law" s_law
  n_bool : mg "bool" = none
  n_enumerate : mg "enumerate" = none
  n_int : mg "int" = none
  n_isinstance : mg "isinstance" = none
  n_len : mg "len" = none
  n_list : mg "list" = none
  n_range : mg "range" = none
  n_repr : mg "repr" = none
  n_str : mg "str" = none
  n_tuple : mg "tuple" = none
  n_zip : mg "zip" = none
  c_MOST_CORDS : ConstAt K mg "MOST_CORDS" (D.int 5)
  c_MOST_CROSSINGS : ConstAt K mg "MOST_CROSSINGS" (D.int 60)
  c_SIDES : ConstAt K mg "SIDES" (D.tup [D.str "left", D.str "right"])
abbrev N_is_whole : List Str := ["value"]
def m_is_whole : SM := sSeq (sRet (mAnd dTru (mFn dIsI (mCons (mVar 0) (mCons (mC (.ty "int")) mNil))) (mNot dTru (mFn dIsI (mCons (mVar 0) (mCons (mC (.ty "bool")) mNil)))))) sNext
def f_is_whole : List D → VH → Option (D × VH) := bodyF 1 m_is_whole
abbrev N_is_below : List Str := ["value", "many"]
def m_is_below : SM := sSeq (sRet (mAnd dTru (mFn f_is_whole (mCons (mVar 0) mNil)) (mChain dLe dLt (mC (.int 0)) (mVar 0) (mVar 1)))) sNext
def f_is_below : List D → VH → Option (D × VH) := bodyF 2 m_is_below
abbrev N_is_within : List Str := ["value", "low", "high"]
def m_is_within : SM := sSeq (sRet (mAnd dTru (mFn f_is_whole (mCons (mVar 0) mNil)) (mChain dLe dLe (mVar 1) (mVar 0) (mVar 2)))) sNext
def f_is_within : List D → VH → Option (D × VH) := bodyF 3 m_is_within
abbrev N_is_one_of : List Str := ["value", "words"]
def m_is_one_of : SM := sSeq (sRet (mAnd dTru (mFn dIsI (mCons (mVar 0) (mCons (mC (.ty "str")) mNil))) (mBin dIn (mVar 0) (mVar 1)))) sNext
def f_is_one_of : List D → VH → Option (D × VH) := bodyF 2 m_is_one_of
abbrev N_is_tuple_of : List Str := ["value", "many"]
def m_is_tuple_of : SM := sSeq (sRet (mAnd dTru (mFn dIsI (mCons (mVar 0) (mCons (mC (.ty "tuple")) mNil))) (mBin dEq (mFn dLen (mCons (mVar 0) mNil)) (mVar 1)))) sNext
def f_is_tuple_of : List D → VH → Option (D × VH) := bodyF 2 m_is_tuple_of
abbrev N_is_crossing : List Str := ["cords", "value"]
def m_is_crossing : SM := sSeq (sRet (mAnd dTru (mFn f_is_tuple_of (mCons (mVar 1) (mCons (mC (.int 2)) mNil))) (mAnd dTru (mFn f_is_one_of (mCons (mBin dIx (mVar 1) (mC (.int 0))) (mCons (mC (D.tup [D.str "left", D.str "right"])) mNil))) (mFn f_is_below (mCons (mBin dIx (mVar 1) (mC (.int 1))) (mCons (mBin dSub (mVar 0) (mC (.int 1))) mNil)))))) sNext
def f_is_crossing : List D → VH → Option (D × VH) := bodyF 2 m_is_crossing
abbrev N_need_cords : List Str := ["cords"]
def m_need_cords : SM := sSeq (sIf (bNot (bT dTru (mFn f_is_within (mCons (mVar 0) (mCons (mC (.int 2)) (mCons (mC (D.int 5)) mNil)))))) (sSeq sNever sNext) sNext) (sSeq (sRet (mVar 0)) sNext)
def f_need_cords : List D → VH → Option (D × VH) := bodyF 1 m_need_cords
abbrev N_need_row : List Str := ["cords", "row", "number", "crossing"]
def m_need_row : SM := sSeq (sIf (bOr (bNot (bT dTru (mFn dIsI (mCons (mVar 1) (mCons (mC (.ty "tuple")) mNil))))) (bV (mBin dGt (mFn dLen (mCons (mVar 1) mNil)) (mC (D.int 60))))) (sSeq sNever sNext) sNext) (sSeq (sFor (imEnum (mCons (mVar 1) mNil)) (gT (gC (gNm 2) (gC (gNm 3) gN))) (sSeq (sIf (bNot (bT dTru (mFn f_is_crossing (mCons (mVar 0) (mCons (mVar 3) mNil))))) (sSeq sNever sNext) sNext) sNext)) (sSeq (sRet (mVar 1)) sNext))
def f_need_row : List D → VH → Option (D × VH) := bodyF 4 m_need_row
abbrev N_need_cords_and_row : List Str := ["cords", "row"]
def m_need_cords_and_row : SM := sSeq (sExpr (mFn f_need_cords (mCons (mVar 0) mNil))) (sSeq (sExpr (mFn f_need_row (mCons (mVar 0) (mCons (mVar 1) mNil)))) sNext)
def f_need_cords_and_row : List D → VH → Option (D × VH) := bodyF 2 m_need_cords_and_row
abbrev N_need_cord : List Str := ["cords", "cord"]
def m_need_cord : SM := sSeq (sIf (bNot (bT dTru (mFn f_is_below (mCons (mVar 1) (mCons (mVar 0) mNil))))) (sSeq sNever sNext) sNext) (sSeq (sRet (mVar 1)) sNext)
def f_need_cord : List D → VH → Option (D × VH) := bodyF 2 m_need_cord
abbrev N_other_side : List Str := ["side"]
def m_other_side : SM := sSeq (sIf (bV (mBin dEq (mVar 0) (mC (.str "left")))) (sSeq (sRet (mC (.str "right"))) sNext) sNext) (sSeq (sRet (mC (.str "left"))) sNext)
def f_other_side : List D → VH → Option (D × VH) := bodyF 1 m_other_side
abbrev N_back_of : List Str := ["row", "side", "place"]
def m_back_of : SM := sSeq (sRet (mFn dTupleOf (mCons (mLc (imSeq (mRevT (mVar 0))) [1, 2] (gT (gC (gNm 1) (gC (gNm 2) gN))) bYes (mTup (mCons (mFn f_other_side (mCons (mVar 1) mNil)) (mCons (mVar 2) mNil)))) mNil))) sNext
def f_back_of : List D → VH → Option (D × VH) := bodyF 3 m_back_of
abbrev N_keep_under : List Str := ["_side", "_over", "under"]
def m_keep_under : SM := sSeq (sRet (mVar 2)) sNext
def f_keep_under : List D → VH → Option (D × VH) := bodyF 3 m_keep_under
abbrev N_work_crossing : List Str := ["things", "crossing", "change", "side", "place", "low", "high"]
def t_work_crossing : Tbl := fun x => if x = "keep_under" then some (3, f_keep_under) else (fun _ => none) x
def m_work_crossing : SM := sSeq (sAsg (mVar 1) (gT (gC (gNm 3) (gC (gNm 4) gN)))) (sSeq (sPar 5 6 (mCons (mBin dIx (mVar 0) (mVar 4)) (mCons (mBin dIx (mVar 0) (mBin dAdd (mVar 4) (mC (.int 1)))) mNil))) (sSeq (sIf (bV (mBin dEq (mVar 3) (mC (.str "left")))) (sSeq (sAsg (mCallL 2 t_work_crossing (mCons (mVar 3) (mCons (mVar 5) (mCons (mVar 6) mNil)))) (gNm 6)) sNext) (sSeq (sAsg (mCallL 2 t_work_crossing (mCons (mVar 3) (mCons (mVar 6) (mCons (mVar 5) mNil)))) (gNm 5)) sNext)) (sSeq (sRet (mBin dAdd (mBin dAdd (mSlice (mVar 0) oNone (oSome (mVar 4))) (mTup (mCons (mVar 6) (mCons (mVar 5) mNil)))) (mSlice (mVar 0) (oSome (mBin dAdd (mVar 4) (mC (.int 2)))) oNone))) sNext)))
def f_work_crossing : List D → VH → Option (D × VH) := bodyF 7 m_work_crossing
abbrev N_work_way : List Str := ["things", "row", "change", "way", "crossing"]
def m_work_way : SM := sSeq (sAsg (mLst (mCons (mVar 0) mNil)) (gNm 3)) (sSeq (sFor (imSeq (mVar 1)) (gNm 4) (sSeq (sExpr (mAppend (mVar 3) (mFn f_work_crossing (mCons (mBin dIx (mVar 3) (mUn dNeg (mC (.int 1)))) (mCons (mVar 4) (mCons (mVar 2) mNil)))))) sNext)) (sSeq (sRet (mFn dTupleOf (mCons (mVar 3) mNil))) sNext))
def f_work_way : List D → VH → Option (D × VH) := bodyF 5 m_work_way
abbrev N_work_row : List Str := ["things", "row", "change", "crossing"]
def m_work_row : SM := sSeq (sFor (imSeq (mVar 1)) (gNm 3) (sSeq (sAsg (mFn f_work_crossing (mCons (mVar 0) (mCons (mVar 3) (mCons (mVar 2) mNil)))) (gNm 0)) sNext)) (sSeq (sRet (mVar 0)) sNext)
def f_work_row : List D → VH → Option (D × VH) := bodyF 4 m_work_row
abbrev N_order_behind : List Str := ["cords", "row"]
def m_order_behind : SM := sSeq (sRet (mFn f_work_row (mCons (mTupR (mRg1 (mVar 0))) (mCons (mVar 1) (mCons (mC (.fn "keep_under")) mNil))))) sNext
def f_order_behind : List D → VH → Option (D × VH) := bodyF 2 m_order_behind
abbrev N_meetings : List Str := ["cords", "row", "found", "order", "crossing", "side", "place", "low", "high"]
def m_meetings : SM := sSeq (sAsg (mLst mNil) (gNm 2)) (sSeq (sFor (imZipT (mCons (mFn f_work_way (mCons (mTupR (mRg1 (mVar 0))) (mCons (mVar 1) (mCons (mC (.fn "keep_under")) mNil)))) (mCons (mVar 1) mNil))) (gT (gC (gNm 3) (gC (gNm 4) gN))) (sSeq (sAsg (mVar 4) (gT (gC (gNm 5) (gC (gNm 6) gN)))) (sSeq (sPar 7 8 (mCons (mBin dIx (mVar 3) (mVar 6)) (mCons (mBin dIx (mVar 3) (mBin dAdd (mVar 6) (mC (.int 1)))) mNil))) (sSeq (sIf (bV (mBin dEq (mVar 5) (mC (.str "left")))) (sSeq (sExpr (mAppend (mVar 2) (mTup (mCons (mVar 7) (mCons (mVar 8) (mCons (mVar 5) mNil)))))) sNext) (sSeq (sExpr (mAppend (mVar 2) (mTup (mCons (mVar 8) (mCons (mVar 7) (mCons (mVar 5) mNil)))))) sNext)) sNext)))) (sSeq (sRet (mFn dTupleOf (mCons (mVar 2) mNil))) sNext))
def f_meetings : List D → VH → Option (D × VH) := bodyF 9 m_meetings
abbrev N_order_of : List Str := ["cords", "row"]
def m_order_of : SM := sSeq (sExpr (mFn f_need_cords_and_row (mCons (mVar 0) (mCons (mVar 1) mNil)))) (sSeq (sRet (mFn f_order_behind (mCons (mVar 0) (mCons (mVar 1) mNil)))) sNext)
def f_order_of : List D → VH → Option (D × VH) := bodyF 2 m_order_of
abbrev N_order_on_way : List Str := ["cords", "row"]
def m_order_on_way : SM := sSeq (sExpr (mFn f_need_cords_and_row (mCons (mVar 0) (mCons (mVar 1) mNil)))) (sSeq (sRet (mFn f_work_way (mCons (mTupR (mRg1 (mVar 0))) (mCons (mVar 1) (mCons (mC (.fn "keep_under")) mNil))))) sNext)
def f_order_on_way : List D → VH → Option (D × VH) := bodyF 2 m_order_on_way
abbrev N_way_of : List Str := ["cords", "row", "cord", "order"]
def m_way_of : SM := sSeq (sExpr (mFn f_need_cords_and_row (mCons (mVar 0) (mCons (mVar 1) mNil)))) (sSeq (sExpr (mFn f_need_cord (mCons (mVar 0) (mCons (mVar 2) mNil)))) (sSeq (sRet (mFn dTupleOf (mCons (mLc (imSeq (mFn f_work_way (mCons (mTupR (mRg1 (mVar 0))) (mCons (mVar 1) (mCons (mC (.fn "keep_under")) mNil))))) [3] (gNm 3) bYes (mBin dIndex (mVar 3) (mVar 2))) mNil))) sNext))
def f_way_of : List D → VH → Option (D × VH) := bodyF 4 m_way_of
abbrev N_back_row : List Str := ["cords", "row"]
def m_back_row : SM := sSeq (sExpr (mFn f_need_cords_and_row (mCons (mVar 0) (mCons (mVar 1) mNil)))) (sSeq (sRet (mFn f_back_of (mCons (mVar 1) mNil))) sNext)
def f_back_row : List D → VH → Option (D × VH) := bodyF 2 m_back_row
abbrev N_mirrored : List Str := ["cords", "row", "side", "place"]
def m_mirrored : SM := sSeq (sExpr (mFn f_need_cords_and_row (mCons (mVar 0) (mCons (mVar 1) mNil)))) (sSeq (sRet (mFn dTupleOf (mCons (mLc (imSeq (mVar 1)) [2, 3] (gT (gC (gNm 2) (gC (gNm 3) gN))) bYes (mTup (mCons (mFn f_other_side (mCons (mVar 2) mNil)) (mCons (mBin dSub (mBin dSub (mVar 0) (mC (.int 2))) (mVar 3)) mNil)))) mNil))) sNext)
def f_mirrored : List D → VH → Option (D × VH) := bodyF 4 m_mirrored
abbrev N_turned_over : List Str := ["cords", "row", "side", "place"]
def m_turned_over : SM := sSeq (sExpr (mFn f_need_cords_and_row (mCons (mVar 0) (mCons (mVar 1) mNil)))) (sSeq (sRet (mFn dTupleOf (mCons (mLc (imSeq (mVar 1)) [2, 3] (gT (gC (gNm 2) (gC (gNm 3) gN))) bYes (mTup (mCons (mFn f_other_side (mCons (mVar 2) mNil)) (mCons (mVar 3) mNil)))) mNil))) sNext)
def f_turned_over : List D → VH → Option (D × VH) := bodyF 4 m_turned_over
abbrev N_met : List Str := ["cords", "row"]
def m_met : SM := sSeq (sExpr (mFn f_need_cords_and_row (mCons (mVar 0) (mCons (mVar 1) mNil)))) (sSeq (sRet (mFn f_meetings (mCons (mVar 0) (mCons (mVar 1) mNil)))) sNext)
def f_met : List D → VH → Option (D × VH) := bodyF 2 m_met
abbrev N_crossed : List Str := ["cords", "row", "cord", "far_cord", "both", "over", "under", "_"]
def m_crossed : SM := sSeq (sExpr (mFn f_need_cords_and_row (mCons (mVar 0) (mCons (mVar 1) mNil)))) (sSeq (sExpr (mFn f_need_cord (mCons (mVar 0) (mCons (mVar 2) mNil)))) (sSeq (sExpr (mFn f_need_cord (mCons (mVar 0) (mCons (mVar 3) mNil)))) (sSeq (sIf (bV (mBin dEq (mVar 3) (mVar 2))) (sSeq sNever sNext) sNext) (sSeq (sAsg (mTup (mCons (mTup (mCons (mVar 2) (mCons (mVar 3) mNil))) (mCons (mTup (mCons (mVar 3) (mCons (mVar 2) mNil))) mNil))) (gNm 4)) (sSeq (sRet (mFn dLen (mCons (mLc (imSeq (mFn f_meetings (mCons (mVar 0) (mCons (mVar 1) mNil)))) [5, 6, 7] (gT (gC (gNm 5) (gC (gNm 6) (gC (gNm 7) gN)))) (bV (mBin dIn (mTup (mCons (mVar 5) (mCons (mVar 6) mNil))) (mVar 4))) (mVar 5)) mNil))) sNext)))))
def f_crossed : List D → VH → Option (D × VH) := bodyF 8 m_crossed
abbrev N__law_mixed : List Str := ["cell", "n", "blend"]
def m__law_mixed : SM := sSeq (sAsg (mBin dAdd (mBin dAdd (mBin dMod (mFn dInt (mCons (mBin dMulT (mBin dMulT (mVar 0) (mBin dAdd (mC (.int 1)) (mBin dMulT (mC (.int 2)) (mVar 1)))) (mC (.int 48271))) mNil)) (mC (.int 2147483647))) (mBin dMulT (mBin dMulT (mC (.int 7919)) (mVar 1)) (mVar 1))) (mBin dMulT (mC (.int 104729)) (mVar 1))) (gNm 2)) (sSeq (sRet (mBin dFdiv (mBin dMod (mFn dInt (mCons (mBin dMulT (mVar 2) (mC (.int 69621))) mNil)) (mC (.int 2147483629))) (mC (.int 7)))) sNext)
def f__law_mixed : List D → VH → Option (D × VH) := bodyF 3 m__law_mixed
abbrev N__law_folded : List Str := ["script", "found", "n", "cell"]
def m__law_folded : SM := sSeq (sAsg (mLc (imRng1 (mCons (mC (.int 64)) mNil)) [2] (gNm 2) bYes (mBin dAdd (mC (.int 17)) (mVar 2))) (gNm 1)) (sSeq (sFor (imEnum (mCons (mVar 0) mNil)) (gT (gC (gNm 2) (gC (gNm 3) gN))) (sSeq (sPut (mVar 1) (mBin dMod (mFn dInt (mCons (mVar 2) mNil)) (mC (.int 64))) (mBin dMod (mFn dInt (mCons (mBin dAdd (mBin dMulT (mBin dIx (mVar 1) (mBin dMod (mFn dInt (mCons (mVar 2) mNil)) (mC (.int 64)))) (mC (.int 48271))) (mVar 3)) mNil)) (mC (.int 2147483647)))) sNext)) (sSeq (sFor (imRng2 (mCons (mC (.int 1)) (mCons (mC (.int 64)) mNil))) (gNm 2) (sSeq (sPut (mVar 1) (mVar 2) (mBin dMod (mFn dInt (mCons (mBin dAdd (mBin dIx (mVar 1) (mVar 2)) (mBin dMulT (mBin dIx (mVar 1) (mBin dSub (mVar 2) (mC (.int 1)))) (mC (.int 16807)))) mNil)) (mC (.int 2147483647)))) sNext)) (sSeq (sRet (mVar 1)) sNext)))
def f__law_folded : List D → VH → Option (D × VH) := bodyF 4 m__law_folded
abbrev N__law_draw : List Str := ["m", "limit", "n", "lot", "here", "cell"]
def m__law_draw : SM := sSeq (sAsg (mBin dIx (mVar 0) (mC (.str "spot"))) (gNm 2)) (sSeq (sPut (mVar 0) (mC (.str "spot")) (mBin dAdd (mVar 2) (mC (.int 1)))) (sSeq (sIf (bV (mBin dNe (mBin dIx (mVar 0) (mC (.str "great"))) (mLst mNil))) (sSeq (sAsg (mBin dIx (mVar 0) (mC (.str "great"))) (gNm 3)) (sSeq (sAsg (mBin dMod (mFn dInt (mCons (mVar 2) mNil)) (mFn dLen (mCons (mVar 3) mNil))) (gNm 4)) (sSeq (sAsg (mBin dIx (mVar 3) (mVar 4)) (gNm 5)) (sSeq (sIf (bV (mBin dGt (mVar 5) (mC (.int 0)))) (sSeq (sPut (mVar 3) (mVar 4) (mBin dFdiv (mVar 5) (mVar 1))) (sSeq (sRet (mBin dMod (mFn dInt (mCons (mVar 5) mNil)) (mVar 1))) sNext)) sNext) sNext)))) sNext) (sSeq (sAsg (mBin dIx (mVar 0) (mC (.str "cells"))) (gNm 3)) (sSeq (sRet (mBin dMod (mFn dInt (mCons (mFn f__law_mixed (mCons (mFn f__law_mixed (mCons (mBin dAdd (mBin dIx (mVar 3) (mBin dMod (mFn dInt (mCons (mVar 2) mNil)) (mC (.int 64)))) (mBin dMulT (mC (.int 31)) (mBin dFdiv (mVar 2) (mC (.int 64))))) (mCons (mVar 2) mNil))) (mCons (mBin dAdd (mVar 2) (mC (.int 7))) mNil))) mNil)) (mVar 1))) sNext))))
def f__law_draw : List D → VH → Option (D × VH) := bodyF 6 m__law_draw
abbrev N__law_begun : List Str := ["script", "m", "cell"]
def m__law_begun : SM := sSeq (sAsg (mDict ["cells", "great", "spot"] (mCons (mFn f__law_folded (mCons (mVar 0) mNil)) (mCons (mLst mNil) (mCons (mC (.int 0)) mNil)))) (gNm 1)) (sSeq (sPut (mVar 1) (mC (.str "great")) (mLc (imSeq (mVar 0)) [2] (gNm 2) bYes (mIf (bV (mBin dGe (mVar 2) (mBin dPow (mC (.int 10)) (mC (.int 18))))) (mVar 2) (mC (.int 0))))) (sSeq (sRet (mVar 1)) sNext))
def f__law_begun : List D → VH → Option (D × VH) := bodyF 3 m__law_begun
abbrev N__law_of : List Str := ["m", "some"]
def m__law_of : SM := sSeq (sRet (mBin dIx (mVar 1) (mFn f__law_draw (mCons (mVar 0) (mCons (mFn dLen (mCons (mVar 1) mNil)) mNil))))) sNext
def f__law_of : List D → VH → Option (D × VH) := bodyF 2 m__law_of
abbrev N__law_like : List Str := ["got", "due"]
def m__law_like : SM := sSeq (sRet (mBin dEq (mFn dRepr (mCons (mVar 0) mNil)) (mFn dRepr (mCons (mVar 1) mNil)))) sNext
def f__law_like : List D → VH → Option (D × VH) := bodyF 2 m__law_like
abbrev N__law_row : List Str := ["m", "cords_so", "most", "found", "turn", "side", "place"]
def m__law_row : SM := sSeq (sAsg (mLst mNil) (gNm 3)) (sSeq (sFor (imRng1 (mCons (mFn f__law_draw (mCons (mVar 0) (mCons (mBin dAdd (mVar 2) (mC (.int 1))) mNil))) mNil)) (gNm 4) (sSeq (sPar 5 6 (mCons (mFn f__law_of (mCons (mVar 0) (mCons (mLst (mCons (mC (.str "left")) (mCons (mC (.str "right")) mNil))) mNil))) (mCons (mFn f__law_draw (mCons (mVar 0) (mCons (mBin dSub (mVar 1) (mC (.int 1))) mNil))) mNil))) (sSeq (sIf (bAnd (bV (mBin dNe (mVar 3) (mLst mNil))) (bV (mBin dEq (mFn f__law_draw (mCons (mVar 0) (mCons (mC (.int 5)) mNil))) (mC (.int 0))))) (sSeq (sPar 5 6 (mCons (mIf (bV (mBin dEq (mBin dIx (mBin dIx (mVar 3) (mUn dNeg (mC (.int 1)))) (mC (.int 0))) (mC (.str "right")))) (mC (.str "left")) (mC (.str "right"))) (mCons (mBin dIx (mBin dIx (mVar 3) (mUn dNeg (mC (.int 1)))) (mC (.int 1))) mNil))) sNext) sNext) (sSeq (sExpr (mAppend (mVar 3) (mTup (mCons (mVar 5) (mCons (mVar 6) mNil))))) sNext)))) (sSeq (sRet (mFn dTupleOf (mCons (mVar 3) mNil))) sNext))
def f__law_row : List D → VH → Option (D × VH) := bodyF 7 m__law_row
abbrev N__law_back : List Str := ["row_so", "side", "place"]
def m__law_back : SM := sSeq (sRet (mFn dTupleOf (mCons (mLc (imSeq (mRevT (mVar 0))) [1, 2] (gT (gC (gNm 1) (gC (gNm 2) gN))) bYes (mTup (mCons (mIf (bV (mBin dEq (mVar 1) (mC (.str "right")))) (mC (.str "left")) (mC (.str "right"))) (mCons (mVar 2) mNil)))) mNil))) sNext
def f__law_back : List D → VH → Option (D × VH) := bodyF 3 m__law_back
abbrev N__law_walk : List Str := ["cords_so", "row_so", "held", "met_so", "side", "place", "near", "far"]
def m__law_walk : SM := sSeq (sPar 2 3 (mCons (mLstR (mRg1 (mVar 0))) (mCons (mLst mNil) mNil))) (sSeq (sFor (imSeq (mVar 1)) (gT (gC (gNm 4) (gC (gNm 5) gN))) (sSeq (sPar 6 7 (mCons (mBin dIx (mVar 2) (mVar 5)) (mCons (mBin dIx (mVar 2) (mBin dAdd (mVar 5) (mC (.int 1)))) mNil))) (sSeq (sExpr (mAppend (mVar 3) (mIf (bV (mBin dEq (mVar 4) (mC (.str "left")))) (mTup (mCons (mVar 6) (mCons (mVar 7) (mCons (mC (.int 1)) mNil)))) (mTup (mCons (mVar 7) (mCons (mVar 6) (mCons (mUn dNeg (mC (.int 1))) mNil))))))) (sSeq (sAsg (mTup (mCons (mVar 7) (mCons (mVar 6) mNil))) (gT (gC (gSub (mVar 2) (mVar 5)) (gC (gSub (mVar 2) (mBin dAdd (mVar 5) (mC (.int 1)))) gN)))) sNext)))) (sSeq (sRet (mTup (mCons (mVar 3) (mCons (mFn dTupleOf (mCons (mVar 2) mNil)) mNil)))) sNext))
def f__law_walk : List D → VH → Option (D × VH) := bodyF 8 m__law_walk
abbrev N__law_ways : List Str := ["cords_so", "row_so", "held", "found", "side", "place"]
def m__law_ways : SM := sSeq (sAsg (mLstR (mRg1 (mVar 0))) (gNm 2)) (sSeq (sAsg (mLst (mCons (mFn dTupleOf (mCons (mVar 2) mNil)) mNil)) (gNm 3)) (sSeq (sFor (imSeq (mVar 1)) (gT (gC (gNm 4) (gC (gNm 5) gN))) (sSeq (sAsg (mBin dAdd (mBin dAdd (mSlice (mVar 2) oNone (oSome (mVar 5))) (mLst (mCons (mBin dIx (mVar 2) (mBin dAdd (mVar 5) (mC (.int 1)))) (mCons (mBin dIx (mVar 2) (mVar 5)) mNil)))) (mSlice (mVar 2) (oSome (mBin dAdd (mVar 5) (mC (.int 2)))) oNone)) (gNm 2)) (sSeq (sExpr (mAppend (mVar 3) (mFn dTupleOf (mCons (mVar 2) mNil)))) sNext))) (sSeq (sRet (mVar 3)) sNext)))
def f__law_ways : List D → VH → Option (D × VH) := bodyF 6 m__law_ways
abbrev N__law_crossed_right : List Str := ["cords_so", "row_so", "meets", "near", "far", "due", "one"]
def m__law_crossed_right : SM := sSeq (sFor (imRng1 (mCons (mVar 0) mNil)) (gNm 3) (sSeq (sFor (imRng1 (mCons (mVar 0) mNil)) (gNm 4) (sSeq (sIf (bV (mBin dNe (mVar 3) (mVar 4))) (sSeq (sAsg (mFn dLen (mCons (mLc (imSeq (mVar 2)) [6] (gNm 6) (bV (mBin dIn (mTup (mCons (mBin dIx (mVar 6) (mC (.int 0))) (mCons (mBin dIx (mVar 6) (mC (.int 1))) mNil))) (mTup (mCons (mTup (mCons (mVar 3) (mCons (mVar 4) mNil))) (mCons (mTup (mCons (mVar 4) (mCons (mVar 3) mNil))) mNil))))) (mVar 6)) mNil)) (gNm 5)) (sSeq (sIf (bNot (bT dTru (mFn f__law_like (mCons (mFn f_crossed (mCons (mVar 0) (mCons (mVar 1) (mCons (mVar 3) (mCons (mVar 4) mNil))))) (mCons (mVar 5) mNil))))) (sSeq (sRet (mC (.bl false))) sNext) sNext) sNext)) sNext) sNext)) sNext)) (sSeq (sRet (mC (.bl true))) sNext)
def f__law_crossed_right : List D → VH → Option (D × VH) := bodyF 7 m__law_crossed_right
abbrev N__law_is_row_right : List Str := ["cords_so", "row_so", "lines", "meets", "near", "due", "line", "over", "under", "sign"]
def m__law_is_row_right : SM := sSeq (sPar 2 3 (mCons (mFn f__law_ways (mCons (mVar 0) (mCons (mVar 1) mNil))) (mCons (mBin dIx (mFn f__law_walk (mCons (mVar 0) (mCons (mVar 1) mNil))) (mC (.int 0))) mNil))) (sSeq (sIf (bNot (bT dTru (mFn f__law_like (mCons (mFn f_order_on_way (mCons (mVar 0) (mCons (mVar 1) mNil))) (mCons (mFn dTupleOf (mCons (mVar 2) mNil)) mNil))))) (sSeq (sRet (mC (.bl false))) sNext) sNext) (sSeq (sIf (bNot (bT dTru (mFn f__law_like (mCons (mFn f_order_of (mCons (mVar 0) (mCons (mVar 1) mNil))) (mCons (mBin dIx (mVar 2) (mUn dNeg (mC (.int 1)))) mNil))))) (sSeq (sRet (mC (.bl false))) sNext) sNext) (sSeq (sFor (imRng1 (mCons (mVar 0) mNil)) (gNm 4) (sSeq (sAsg (mFn dTupleOf (mCons (mLc (imSeq (mVar 2)) [6] (gNm 6) bYes (mBin dIndex (mVar 6) (mVar 4))) mNil)) (gNm 5)) (sSeq (sIf (bNot (bT dTru (mFn f__law_like (mCons (mFn f_way_of (mCons (mVar 0) (mCons (mVar 1) (mCons (mVar 4) mNil)))) (mCons (mVar 5) mNil))))) (sSeq (sRet (mC (.bl false))) sNext) sNext) sNext))) (sSeq (sAsg (mFn dTupleOf (mCons (mLc (imSeq (mVar 3)) [7, 8, 9] (gT (gC (gNm 7) (gC (gNm 8) (gC (gNm 9) gN)))) bYes (mTup (mCons (mVar 7) (mCons (mVar 8) (mCons (mIf (bV (mBin dEq (mVar 9) (mC (.int 1)))) (mC (.str "left")) (mC (.str "right"))) mNil))))) mNil)) (gNm 5)) (sSeq (sRet (mAnd dTru (mFn f__law_like (mCons (mFn f_met (mCons (mVar 0) (mCons (mVar 1) mNil))) (mCons (mVar 5) mNil))) (mFn f__law_crossed_right (mCons (mVar 0) (mCons (mVar 1) (mCons (mVar 3) mNil)))))) sNext)))))
def f__law_is_row_right : List D → VH → Option (D × VH) := bodyF 10 m__law_is_row_right
abbrev N__law_mirror : List Str := ["cords_so", "row_so", "side", "place"]
def m__law_mirror : SM := sSeq (sRet (mFn dTupleOf (mCons (mLc (imSeq (mVar 1)) [2, 3] (gT (gC (gNm 2) (gC (gNm 3) gN))) bYes (mTup (mCons (mIf (bV (mBin dEq (mVar 2) (mC (.str "right")))) (mC (.str "left")) (mC (.str "right"))) (mCons (mBin dSub (mBin dSub (mVar 0) (mC (.int 2))) (mVar 3)) mNil)))) mNil))) sNext
def f__law_mirror : List D → VH → Option (D × VH) := bodyF 4 m__law_mirror
abbrev N__law_over : List Str := ["row_so", "side", "place"]
def m__law_over : SM := sSeq (sRet (mFn dTupleOf (mCons (mLc (imSeq (mVar 0)) [1, 2] (gT (gC (gNm 1) (gC (gNm 2) gN))) bYes (mTup (mCons (mIf (bV (mBin dEq (mVar 1) (mC (.str "right")))) (mC (.str "left")) (mC (.str "right"))) (mCons (mVar 2) mNil)))) mNil))) sNext
def f__law_over : List D → VH → Option (D × VH) := bodyF 3 m__law_over
abbrev N__law_other_sides : List Str := ["side"]
def m__law_other_sides : SM := sSeq (sRet (mIf (bV (mBin dEq (mVar 0) (mC (.str "right")))) (mC (.str "left")) (mC (.str "right")))) sNext
def f__law_other_sides : List D → VH → Option (D × VH) := bodyF 1 m__law_other_sides
abbrev N__law_made_right : List Str := ["cords_so", "row_so", "back", "glass", "over_so", "got", "last", "back_due", "near", "glass_due", "one", "meets", "wide", "glass_met", "over_met"]
def m__law_made_right : SM := sSeq (sPar3 2 3 4 (mCons (mFn f__law_back (mCons (mVar 1) mNil)) (mCons (mFn f__law_mirror (mCons (mVar 0) (mCons (mVar 1) mNil))) (mCons (mFn f__law_over (mCons (mVar 1) mNil)) mNil)))) (sSeq (sAsg (mLst (mCons (mFn f_back_row (mCons (mVar 0) (mCons (mVar 1) mNil))) (mCons (mFn f_mirrored (mCons (mVar 0) (mCons (mVar 1) mNil))) (mCons (mFn f_turned_over (mCons (mVar 0) (mCons (mVar 1) mNil))) mNil)))) (gNm 5)) (sSeq (sIf (bNot (bT dTru (mFn f__law_like (mCons (mVar 5) (mCons (mLst (mCons (mVar 2) (mCons (mVar 3) (mCons (mVar 4) mNil)))) mNil))))) (sSeq (sRet (mC (.bl false))) sNext) sNext) (sSeq (sAsg (mBin dIx (mFn f__law_ways (mCons (mVar 0) (mCons (mVar 1) mNil))) (mUn dNeg (mC (.int 1)))) (gNm 6)) (sSeq (sAsg (mFn dTupleOf (mCons (mLc (imRng1 (mCons (mVar 0) mNil)) [8] (gNm 8) bYes (mBin dIndex (mVar 6) (mVar 8))) mNil)) (gNm 7)) (sSeq (sAsg (mFn dTupleOf (mCons (mLc (imRng1 (mCons (mVar 0) mNil)) [8] (gNm 8) bYes (mBin dSub (mBin dSub (mVar 0) (mC (.int 1))) (mBin dIx (mVar 6) (mBin dSub (mBin dSub (mVar 0) (mC (.int 1))) (mVar 8))))) mNil)) (gNm 9)) (sSeq (sIf (bNot (bT dTru (mFn f__law_like (mCons (mLc (imSeq (mVar 5)) [10] (gNm 10) bYes (mFn f_order_of (mCons (mVar 0) (mCons (mVar 10) mNil)))) (mCons (mLst (mCons (mVar 7) (mCons (mVar 9) (mCons (mVar 6) mNil)))) mNil))))) (sSeq (sRet (mC (.bl false))) sNext) sNext) (sSeq (sAsg (mFn f_met (mCons (mVar 0) (mCons (mVar 1) mNil))) (gNm 11)) (sSeq (sAsg (mBin dSub (mVar 0) (mC (.int 1))) (gNm 12)) (sSeq (sAsg (mFn dTupleOf (mCons (mLc (imSeq (mVar 11)) [10] (gNm 10) bYes (mTup (mCons (mBin dSub (mVar 12) (mBin dIx (mVar 10) (mC (.int 0)))) (mCons (mBin dSub (mVar 12) (mBin dIx (mVar 10) (mC (.int 1)))) (mCons (mFn f__law_other_sides (mCons (mBin dIx (mVar 10) (mC (.int 2))) mNil)) mNil))))) mNil)) (gNm 13)) (sSeq (sAsg (mFn dTupleOf (mCons (mLc (imSeq (mVar 11)) [10] (gNm 10) bYes (mTup (mCons (mBin dIx (mVar 10) (mC (.int 1))) (mCons (mBin dIx (mVar 10) (mC (.int 0))) (mCons (mFn f__law_other_sides (mCons (mBin dIx (mVar 10) (mC (.int 2))) mNil)) mNil))))) mNil)) (gNm 14)) (sSeq (sRet (mFn f__law_like (mCons (mLst (mCons (mFn f_met (mCons (mVar 0) (mCons (mBin dIx (mVar 5) (mC (.int 1))) mNil))) (mCons (mFn f_met (mCons (mVar 0) (mCons (mBin dIx (mVar 5) (mC (.int 2))) mNil))) mNil))) (mCons (mLst (mCons (mVar 13) (mCons (mVar 14) mNil))) mNil)))) sNext)))))))))))
def f__law_made_right : List D → VH → Option (D × VH) := bodyF 15 m__law_made_right
abbrev N__law_twice_right : List Str := ["cords_so", "row_so", "makers", "near", "far"]
def t__law_twice_right : Tbl := fun x => if x = "back_row" then some (2, f_back_row) else (fun x => if x = "mirrored" then some (2, f_mirrored) else (fun x => if x = "turned_over" then some (2, f_turned_over) else (fun _ => none) x) x) x
def m__law_twice_right : SM := sSeq (sAsg (mLst (mCons (mC (.fn "back_row")) (mCons (mC (.fn "mirrored")) (mCons (mC (.fn "turned_over")) mNil)))) (gNm 2)) (sSeq (sFor (imSeq (mVar 2)) (gNm 3) (sSeq (sIf (bNot (bT dTru (mFn f__law_like (mCons (mCallL 3 t__law_twice_right (mCons (mVar 0) (mCons (mCallL 3 t__law_twice_right (mCons (mVar 0) (mCons (mVar 1) mNil))) mNil))) (mCons (mVar 1) mNil))))) (sSeq (sRet (mC (.bl false))) sNext) sNext) (sSeq (sFor (imSeq (mVar 2)) (gNm 4) (sSeq (sIf (bNot (bT dTru (mFn f__law_like (mCons (mCallL 3 t__law_twice_right (mCons (mVar 0) (mCons (mCallL 4 t__law_twice_right (mCons (mVar 0) (mCons (mVar 1) mNil))) mNil))) (mCons (mCallL 4 t__law_twice_right (mCons (mVar 0) (mCons (mCallL 3 t__law_twice_right (mCons (mVar 0) (mCons (mVar 1) mNil))) mNil))) mNil))))) (sSeq (sRet (mC (.bl false))) sNext) sNext) sNext)) sNext))) (sSeq (sRet (mC (.bl true))) sNext))
def f__law_twice_right : List D → VH → Option (D × VH) := bodyF 5 m__law_twice_right
abbrev N__law_back_right : List Str := ["cords_so", "row_so"]
def m__law_back_right : SM := sSeq (sIf (bV (mBin dGt (mFn dLen (mCons (mVar 1) mNil)) (mC (.int 30)))) (sSeq (sRet (mC (.bl true))) sNext) sNext) (sSeq (sRet (mFn f__law_like (mCons (mFn f_order_of (mCons (mVar 0) (mCons (mBin dAdd (mVar 1) (mFn f_back_row (mCons (mVar 0) (mCons (mVar 1) mNil)))) mNil))) (mCons (mTupR (mRg1 (mVar 0))) mNil)))) sNext)
def f__law_back_right : List D → VH → Option (D × VH) := bodyF 2 m__law_back_right
abbrev N__law_names_right : List Str := ["cords_so", "row_so", "got", "due"]
def m__law_names_right : SM := sSeq (sAsg (mLst (mCons (mFnK 2 [1, 0] f_order_of (mCons (mVar 1) (mCons (mVar 0) mNil))) (mCons (mFnK 2 [1, 0] f_order_on_way (mCons (mVar 1) (mCons (mVar 0) mNil))) mNil))) (gNm 2)) (sSeq (sAsg (mBin dAdd (mVar 2) (mLst (mCons (mFnK 3 [2, 1, 0] f_way_of (mCons (mC (.int 1)) (mCons (mVar 1) (mCons (mVar 0) mNil)))) (mCons (mFnK 2 [1, 0] f_met (mCons (mVar 1) (mCons (mVar 0) mNil))) mNil)))) (gNm 2)) (sSeq (sAsg (mBin dAdd (mVar 2) (mLst (mCons (mFnK 2 [1, 0] f_back_row (mCons (mVar 1) (mCons (mVar 0) mNil))) (mCons (mFnK 2 [1, 0] f_mirrored (mCons (mVar 1) (mCons (mVar 0) mNil))) mNil)))) (gNm 2)) (sSeq (sAsg (mBin dAdd (mVar 2) (mLst (mCons (mFnK 2 [1, 0] f_turned_over (mCons (mVar 1) (mCons (mVar 0) mNil))) (mCons (mFnK 4 [3, 2, 1, 0] f_crossed (mCons (mC (.int 0)) (mCons (mC (.int 1)) (mCons (mVar 1) (mCons (mVar 0) mNil))))) mNil)))) (gNm 2)) (sSeq (sAsg (mLst (mCons (mFn f_order_of (mCons (mVar 0) (mCons (mVar 1) mNil))) (mCons (mFn f_order_on_way (mCons (mVar 0) (mCons (mVar 1) mNil))) (mCons (mFn f_way_of (mCons (mVar 0) (mCons (mVar 1) (mCons (mC (.int 1)) mNil)))) mNil)))) (gNm 3)) (sSeq (sAsg (mBin dAdd (mVar 3) (mLst (mCons (mFn f_met (mCons (mVar 0) (mCons (mVar 1) mNil))) (mCons (mFn f_back_row (mCons (mVar 0) (mCons (mVar 1) mNil))) (mCons (mFn f_mirrored (mCons (mVar 0) (mCons (mVar 1) mNil))) mNil))))) (gNm 3)) (sSeq (sRet (mFn f__law_like (mCons (mVar 2) (mCons (mBin dAdd (mVar 3) (mLst (mCons (mFn f_turned_over (mCons (mVar 0) (mCons (mVar 1) mNil))) (mCons (mFn f_crossed (mCons (mVar 0) (mCons (mVar 1) (mCons (mC (.int 1)) (mCons (mC (.int 0)) mNil))))) mNil)))) mNil)))) sNext))))))
def f__law_names_right : List D → VH → Option (D × VH) := bodyF 4 m__law_names_right
abbrev N_law : List Str := ["script", "m", "kept", "turn", "cords_so", "row_so"]
def m_law : SM := sSeq (sAsg (mFn f__law_begun (mCons (mVar 0) mNil)) (gNm 1)) (sSeq (sAsg (mLst mNil) (gNm 2)) (sSeq (sFor (imRng1 (mCons (mC (.int 2)) mNil)) (gNm 3) (sSeq (sAsg (mBin dAdd (mC (.int 2)) (mFn f__law_draw (mCons (mVar 1) (mCons (mC (.int 4)) mNil)))) (gNm 4)) (sSeq (sAsg (mFn f__law_row (mCons (mVar 1) (mCons (mVar 4) (mCons (mC (.int 8)) mNil)))) (gNm 5)) (sSeq (sIf (bV (mBin dEq (mFn f__law_draw (mCons (mVar 1) (mCons (mC (.int 6)) mNil))) (mC (.int 0)))) (sSeq (sAsg (mSlice (mBin dMulT (mVar 5) (mC (.int 60))) oNone (oSome (mC (.int 60)))) (gNm 5)) sNext) sNext) (sSeq (sExpr (mAppend (mVar 2) (mTup (mCons (mVar 4) (mCons (mVar 5) mNil))))) sNext))))) (sSeq (sFor (imSeq (mBin dAdd (mVar 2) (mSlice (mVar 2) oNone (oSome (mC (.int 1)))))) (gT (gC (gNm 4) (gC (gNm 5) gN))) (sSeq (sIf (bOr (bNot (bT dTru (mFn f__law_is_row_right (mCons (mVar 4) (mCons (mVar 5) mNil))))) (bNot (bT dTru (mFn f__law_made_right (mCons (mVar 4) (mCons (mVar 5) mNil)))))) (sSeq (sRet (mC (.bl false))) sNext) sNext) (sSeq (sIf (bOr (bNot (bT dTru (mFn f__law_twice_right (mCons (mVar 4) (mCons (mVar 5) mNil))))) (bNot (bT dTru (mFn f__law_back_right (mCons (mVar 4) (mCons (mVar 5) mNil)))))) (sSeq (sRet (mC (.bl false))) sNext) sNext) sNext))) (sSeq (sRet (mFn f__law_names_right (mCons (mBin dIx (mBin dIx (mVar 2) (mC (.int 0))) (mC (.int 0))) (mCons (mBin dIx (mBin dIx (mVar 2) (mC (.int 0))) (mC (.int 1))) mNil)))) sNext))))
def f_law : List D → VH → Option (D × VH) := bodyF 6 m_law
section
variable {P : Program} {w : World} {K : PySem.W.Frag} {mg : Str → Option Value} {base : Heap}
theorem sc_is_whole : FnScope N_is_whole ["value"] (defScope s_is_whole) := ⟨rfl, rfl, rfl, by decide +kernel, rfl, by decide +kernel, by decide +kernel⟩
theorem d_is_whole (T : Txt K mg) : DefS P w K mg base "is_whole" s_is_whole 1 ["value"] f_is_whole :=
  defs (N := N_is_whole) (b := m_is_whole) T.f_is_whole sc_is_whole fun f cdv A outer s H E hg hr =>
    ss_cons (sv_ret (ev_and (ev_callB call_isiV rfl T.n_isinstance rfl (av_cons (ev_var 0) (av_cons (ev_tyN T.n_int rfl) av_nil))) (ev_one (ev_not (ev_callB call_isiV rfl T.n_isinstance rfl (av_cons (ev_var 0) (av_cons (ev_tyN T.n_bool rfl) av_nil))))))) ss_nil
theorem v_is_whole (T : Txt K mg) : DefV P w K mg base "is_whole" 1 ["value"] f_is_whole := (d_is_whole T).v fun _ _ _ _ _ _ us hl => match us, hl with | [_], _ => rfl
theorem sc_is_below : FnScope N_is_below ["value", "many"] (defScope s_is_below) := ⟨rfl, rfl, rfl, by decide +kernel, rfl, by decide +kernel, by decide +kernel⟩
theorem d_is_below (T : Txt K mg) : DefS P w K mg base "is_below" s_is_below 2 ["value", "many"] f_is_below :=
  defs (N := N_is_below) (b := m_is_below) T.f_is_below sc_is_below fun f cdv A outer s H E hg hr =>
    ss_cons (sv_ret (ev_and (ev_call (v_is_whole T) hg (hr.mono (by decide)) rfl (av_cons (ev_var 0) av_nil) (len_cons (fun _ _ _ _ => len_nil))) (ev_one (ev_chain op_leV op_ltV ev_int (ev_var 0) (ev_var 1))))) ss_nil
theorem v_is_below (T : Txt K mg) : DefV P w K mg base "is_below" 2 ["value", "many"] f_is_below := (d_is_below T).v fun _ _ _ _ _ _ us hl => match us, hl with | [_, _], _ => rfl
theorem sc_is_within : FnScope N_is_within ["value", "low", "high"] (defScope s_is_within) := ⟨rfl, rfl, rfl, by decide +kernel, rfl, by decide +kernel, by decide +kernel⟩
theorem d_is_within (T : Txt K mg) : DefS P w K mg base "is_within" s_is_within 2 ["value", "low", "high"] f_is_within :=
  defs (N := N_is_within) (b := m_is_within) T.f_is_within sc_is_within fun f cdv A outer s H E hg hr =>
    ss_cons (sv_ret (ev_and (ev_call (v_is_whole T) hg (hr.mono (by decide)) rfl (av_cons (ev_var 0) av_nil) (len_cons (fun _ _ _ _ => len_nil))) (ev_one (ev_chain op_leV op_leV (ev_var 1) (ev_var 0) (ev_var 2))))) ss_nil
theorem v_is_within (T : Txt K mg) : DefV P w K mg base "is_within" 2 ["value", "low", "high"] f_is_within := (d_is_within T).v fun _ _ _ _ _ _ us hl => match us, hl with | [_, _, _], _ => rfl
theorem sc_is_one_of : FnScope N_is_one_of ["value", "words"] (defScope s_is_one_of) := ⟨rfl, rfl, rfl, by decide +kernel, rfl, by decide +kernel, by decide +kernel⟩
theorem d_is_one_of (T : Txt K mg) : DefS P w K mg base "is_one_of" s_is_one_of 1 ["value", "words"] f_is_one_of :=
  defs (N := N_is_one_of) (b := m_is_one_of) T.f_is_one_of sc_is_one_of fun f cdv A outer s H E hg hr =>
    ss_cons (sv_ret (ev_and (ev_callB call_isiV rfl T.n_isinstance rfl (av_cons (ev_var 0) (av_cons (ev_tyN T.n_str rfl) av_nil))) (ev_one (ev_cmp (op_inV (u65 hr)) (ev_var 0) (ev_var 1) (by rfl))))) ss_nil
theorem v_is_one_of (T : Txt K mg) : DefV P w K mg base "is_one_of" 1 ["value", "words"] f_is_one_of := (d_is_one_of T).v fun _ _ _ _ _ _ us hl => match us, hl with | [_, _], _ => rfl
theorem sc_is_tuple_of : FnScope N_is_tuple_of ["value", "many"] (defScope s_is_tuple_of) := ⟨rfl, rfl, rfl, by decide +kernel, rfl, by decide +kernel, by decide +kernel⟩
theorem d_is_tuple_of (T : Txt K mg) : DefS P w K mg base "is_tuple_of" s_is_tuple_of 1 ["value", "many"] f_is_tuple_of :=
  defs (N := N_is_tuple_of) (b := m_is_tuple_of) T.f_is_tuple_of sc_is_tuple_of fun f cdv A outer s H E hg hr =>
    ss_cons (sv_ret (ev_and (ev_callB call_isiV rfl T.n_isinstance rfl (av_cons (ev_var 0) (av_cons (ev_tyN T.n_tuple rfl) av_nil))) (ev_one (ev_cmp (op_eqV (u64 hr)) (ev_callB call_lenV rfl T.n_len rfl (av_cons (ev_var 0) av_nil)) (ev_var 1) (nomark _))))) ss_nil
theorem v_is_tuple_of (T : Txt K mg) : DefV P w K mg base "is_tuple_of" 1 ["value", "many"] f_is_tuple_of := (d_is_tuple_of T).v fun _ _ _ _ _ _ us hl => match us, hl with | [_, _], _ => rfl
theorem sc_is_crossing : FnScope N_is_crossing ["cords", "value"] (defScope s_is_crossing) := ⟨rfl, rfl, rfl, by decide +kernel, rfl, by decide +kernel, by decide +kernel⟩
theorem d_is_crossing (T : Txt K mg) : DefS P w K mg base "is_crossing" s_is_crossing 3 ["cords", "value"] f_is_crossing :=
  defs (N := N_is_crossing) (b := m_is_crossing) T.f_is_crossing sc_is_crossing fun f cdv A outer s H E hg hr =>
    ss_cons (sv_ret (ev_and (ev_call (v_is_tuple_of T) hg (hr.mono (by decide)) rfl (av_cons (ev_var 1) (av_cons ev_int av_nil)) (len_cons (len_cons (fun _ _ _ _ => len_nil)))) (ev_and (ev_call (v_is_one_of T) hg (hr.mono (by decide)) rfl (av_cons (ev_sub (u1 hr) (ev_var 1) ev_int (by intro _ _; rfl) (by intro _ _; rfl)) (av_cons (ev_const T.c_SIDES) av_nil)) (len_cons (len_cons (fun _ _ _ _ => len_nil)))) (ev_one (ev_call (v_is_below T) hg (hr.mono (by decide)) rfl (av_cons (ev_sub (u1 hr) (ev_var 1) ev_int (by intro _ _; rfl) (by intro _ _; rfl)) (av_cons (ev_bin op_subV (ev_var 0) ev_int) av_nil)) (len_cons (len_cons (fun _ _ _ _ => len_nil)))))))) ss_nil
theorem v_is_crossing (T : Txt K mg) : DefV P w K mg base "is_crossing" 3 ["cords", "value"] f_is_crossing := (d_is_crossing T).v fun _ _ _ _ _ _ us hl => match us, hl with | [_, _], _ => rfl
theorem sc_need_cords : FnScope N_need_cords ["cords"] (defScope s_need_cords) := ⟨rfl, rfl, rfl, by decide +kernel, rfl, by decide +kernel, by decide +kernel⟩
theorem d_need_cords (T : Txt K mg) : DefS P w K mg base "need_cords" s_need_cords 3 ["cords"] f_need_cords :=
  defs (N := N_need_cords) (b := m_need_cords) T.f_need_cords sc_need_cords fun f cdv A outer s H E hg hr =>
    ss_cons (sv_if (bv_not (bv_val (ev_call (v_is_within T) hg (hr.mono (by decide)) rfl (av_cons (ev_var 0) (av_cons ev_int (av_cons (ev_const T.c_MOST_CORDS) av_nil))) (len_cons (len_cons (len_cons (fun _ _ _ _ => len_nil))))))) (ss_cons sv_never ss_nil) ss_nil) (ss_cons (sv_ret (ev_var 0)) ss_nil)
theorem v_need_cords (T : Txt K mg) : DefV P w K mg base "need_cords" 3 ["cords"] f_need_cords := (d_need_cords T).v fun _ _ _ _ _ _ us hl => match us, hl with | [_], _ => rfl
theorem sc_need_row : FnScope N_need_row ["cords", "row"] (defScope s_need_row) := ⟨rfl, rfl, rfl, by decide +kernel, rfl, by decide +kernel, by decide +kernel⟩
theorem d_need_row (T : Txt K mg) : DefS P w K mg base "need_row" s_need_row 4 ["cords", "row"] f_need_row :=
  defs (N := N_need_row) (b := m_need_row) T.f_need_row sc_need_row fun f cdv A outer s H E hg hr =>
    ss_cons (sv_if (bv_w (wv_or (bv_not (bv_val (ev_callB call_isiV rfl T.n_isinstance rfl (av_cons (ev_var 1) (av_cons (ev_tyN T.n_tuple rfl) av_nil))))) (wv_or1 (bv_cmp op_gtV (ev_callB call_lenV rfl T.n_len rfl (av_cons (ev_var 1) av_nil)) (ev_const T.c_MOST_CROSSINGS) (nomark _))))) (ss_cons sv_never ss_nil) ss_nil) (ss_cons (sv_for PassesOwn.never rfl (iv_enum (av_cons (ev_var 1) av_nil) T.n_enumerate) (gv_tup rfl (gs_cons (gv_name (i := 2) sc_need_row.nd) (gs_cons (gv_name (i := 3) sc_need_row.nd) gs_nil)) (gl_cons (gl_cons gl_nil))) (ss_cons (sv_if (bv_not (bv_val (ev_call (v_is_crossing T) hg (hr.mono (by decide)) rfl (av_cons (ev_var 0) (av_cons (ev_var 3) av_nil)) (len_cons (len_cons (fun _ _ _ _ => len_nil)))))) (ss_cons sv_never ss_nil) ss_nil) ss_nil)) (ss_cons (sv_ret (ev_var 1)) ss_nil))
theorem v_need_row (T : Txt K mg) : DefV P w K mg base "need_row" 4 ["cords", "row"] f_need_row := (d_need_row T).v fun _ _ _ _ _ _ us hl => match us, hl with | [_, _], _ => rfl
theorem sc_need_cords_and_row : FnScope N_need_cords_and_row ["cords", "row"] (defScope s_need_cords_and_row) := ⟨rfl, rfl, rfl, by decide +kernel, rfl, by decide +kernel, by decide +kernel⟩
theorem d_need_cords_and_row (T : Txt K mg) : DefS P w K mg base "need_cords_and_row" s_need_cords_and_row 5 ["cords", "row"] f_need_cords_and_row :=
  defs (N := N_need_cords_and_row) (b := m_need_cords_and_row) T.f_need_cords_and_row sc_need_cords_and_row fun f cdv A outer s H E hg hr =>
    ss_cons (sv_expr (ev_call (v_need_cords T) hg (hr.mono (by decide)) rfl (av_cons (ev_var 0) av_nil) (len_cons (fun _ _ _ _ => len_nil)))) (ss_cons (sv_expr (ev_call (v_need_row T) hg (hr.mono (by decide)) rfl (av_cons (ev_var 0) (av_cons (ev_var 1) av_nil)) (len_cons (len_cons (fun _ _ _ _ => len_nil))))) ss_nil)
theorem v_need_cords_and_row (T : Txt K mg) : DefV P w K mg base "need_cords_and_row" 5 ["cords", "row"] f_need_cords_and_row := (d_need_cords_and_row T).v fun _ _ _ _ _ _ us hl => match us, hl with | [_, _], _ => rfl
theorem sc_need_cord : FnScope N_need_cord ["cords", "cord"] (defScope s_need_cord) := ⟨rfl, rfl, rfl, by decide +kernel, rfl, by decide +kernel, by decide +kernel⟩
theorem d_need_cord (T : Txt K mg) : DefS P w K mg base "need_cord" s_need_cord 3 ["cords", "cord"] f_need_cord :=
  defs (N := N_need_cord) (b := m_need_cord) T.f_need_cord sc_need_cord fun f cdv A outer s H E hg hr =>
    ss_cons (sv_if (bv_not (bv_val (ev_call (v_is_below T) hg (hr.mono (by decide)) rfl (av_cons (ev_var 1) (av_cons (ev_var 0) av_nil)) (len_cons (len_cons (fun _ _ _ _ => len_nil)))))) (ss_cons sv_never ss_nil) ss_nil) (ss_cons (sv_ret (ev_var 1)) ss_nil)
theorem v_need_cord (T : Txt K mg) : DefV P w K mg base "need_cord" 3 ["cords", "cord"] f_need_cord := (d_need_cord T).v fun _ _ _ _ _ _ us hl => match us, hl with | [_, _], _ => rfl
theorem sc_other_side : FnScope N_other_side ["side"] (defScope s_other_side) := ⟨rfl, rfl, rfl, by decide +kernel, rfl, by decide +kernel, by decide +kernel⟩
theorem d_other_side (T : Txt K mg) : DefS P w K mg base "other_side" s_other_side 1 ["side"] f_other_side :=
  defs (N := N_other_side) (b := m_other_side) T.f_other_side sc_other_side fun f cdv A outer s H E hg hr =>
    ss_cons (sv_if (bv_cmp (op_eqV (u64 hr)) (ev_var 0) ev_str (nomark _)) (ss_cons (sv_ret ev_str) ss_nil) ss_nil) (ss_cons (sv_ret ev_str) ss_nil)
theorem v_other_side (T : Txt K mg) : DefV P w K mg base "other_side" 1 ["side"] f_other_side := (d_other_side T).v fun _ _ _ _ _ _ us hl => match us, hl with | [_], _ => rfl
theorem sc_back_of : FnScope N_back_of ["row"] (defScope s_back_of) := ⟨rfl, rfl, rfl, by decide +kernel, rfl, by decide +kernel, by decide +kernel⟩
theorem d_back_of (T : Txt K mg) : DefS P w K mg base "back_of" s_back_of 2 ["row"] f_back_of :=
  defs (N := N_back_of) (b := m_back_of) T.f_back_of sc_back_of fun f cdv A outer s H E hg hr =>
    ss_cons (sv_ret (ev_callT call_tupleV rfl T.n_tuple rfl (av_cons (ev_lc (own := [("side", 1), ("place", 2)]) rfl sc_back_of.nd (iv_seq (ev_revT (ev_var 0))) (by show BlkOk N_back_of (defScope s_back_of) _ _; exact ⟨rfl, by decide +kernel, by decide +kernel, by decide +kernel, by decide +kernel⟩) (fun _ _ _ _ _ => pg_tup rfl (pgs_cons (pg_name (i := 1) sc_back_of.nd rfl (by first | exact Or.inl rfl | exact Or.inr rfl)) (pgs_cons (pg_name (i := 2) sc_back_of.nd rfl (by first | exact Or.inl rfl | exact Or.inr rfl)) pgs_nil))) (tgt_tup (tgts_cons (tgt_name (i := 1) (by decide)) (tgts_cons (tgt_name (i := 2) (by decide)) tgts_nil)) (gl_cons (gl_cons gl_nil))) (fun _ _ _ _ _ => ts_nil) (fun _ _ _ _ _ => ev_tup (av_cons (ev_call (v_other_side T) hg (hr.mono (by decide)) rfl (av_cons (ev_var 1) av_nil) (len_cons (fun _ _ _ _ => len_nil))) (av_cons (ev_var 2) av_nil)))) av_nil))) ss_nil
theorem v_back_of (T : Txt K mg) : DefV P w K mg base "back_of" 2 ["row"] f_back_of := (d_back_of T).v fun _ _ _ _ _ _ us hl => match us, hl with | [_], _ => rfl
theorem sc_keep_under : FnScope N_keep_under ["_side", "_over", "under"] (defScope s_keep_under) := ⟨rfl, rfl, rfl, by decide +kernel, rfl, by decide +kernel, by decide +kernel⟩
theorem d_keep_under (T : Txt K mg) : DefS P w K mg base "keep_under" s_keep_under 1 ["_side", "_over", "under"] f_keep_under :=
  defs (N := N_keep_under) (b := m_keep_under) T.f_keep_under sc_keep_under fun f cdv A outer s H E hg hr =>
    ss_cons (sv_ret (ev_var 2)) ss_nil
theorem v_keep_under (T : Txt K mg) : DefV P w K mg base "keep_under" 1 ["_side", "_over", "under"] f_keep_under := (d_keep_under T).v fun _ _ _ _ _ _ us hl => match us, hl with | [_, _, _], _ => rfl
theorem tk_work_crossing {X : Cx} (T : Txt X.K X.mg) : TblOk X 1 t_work_crossing := tblC (a := "keep_under") (ps := ["_side", "_over", "under"]) ((v_keep_under T).mono (by decide)) (tblN)
theorem sc_work_crossing : FnScope N_work_crossing ["things", "crossing", "change"] (defScope s_work_crossing) := ⟨rfl, rfl, rfl, by decide +kernel, rfl, by decide +kernel, by decide +kernel⟩
theorem d_work_crossing (T : Txt K mg) : DefS P w K mg base "work_crossing" s_work_crossing 2 ["things", "crossing", "change"] f_work_crossing :=
  defs (N := N_work_crossing) (b := m_work_crossing) T.f_work_crossing sc_work_crossing fun f cdv A outer s H E hg hr =>
    ss_cons (sv_asg (ev_var 1) (gv_tup rfl (gs_cons (gv_name (i := 3) sc_work_crossing.nd) (gs_cons (gv_name (i := 4) sc_work_crossing.nd) gs_nil)) (gl_cons (gl_cons gl_nil)))) (ss_cons (sv_par (i := 5) (j := 6) rfl sc_work_crossing.nd (av_cons (ev_sub (u1 hr) (ev_var 0) (ev_var 4) (by intro _ _; rfl) (by intro _ _; rfl)) (av_cons (ev_sub (u1 hr) (ev_var 0) (ev_bin op_addV (ev_var 4) ev_int) (by intro _ _; rfl) (by intro _ _; rfl)) av_nil))) (ss_cons (sv_if (bv_cmp (op_eqV (u64 hr)) (ev_var 3) ev_str (nomark _)) (ss_cons (sv_set (i := 6) sc_work_crossing.nd (ev_callL (tk_work_crossing T) hg (hr.mono (by decide)) (av_cons (ev_var 3) (av_cons (ev_var 5) (av_cons (ev_var 6) av_nil))))) ss_nil) (ss_cons (sv_set (i := 5) sc_work_crossing.nd (ev_callL (tk_work_crossing T) hg (hr.mono (by decide)) (av_cons (ev_var 3) (av_cons (ev_var 6) (av_cons (ev_var 5) av_nil))))) ss_nil)) (ss_cons (sv_ret (ev_bin op_addV (ev_bin op_addV (ev_slice (ev_var 0) ov_none (ov_some (ev_var 4))) (ev_tup (av_cons (ev_var 6) (av_cons (ev_var 5) av_nil)))) (ev_slice (ev_var 0) (ov_some (ev_bin op_addV (ev_var 4) ev_int)) ov_none))) ss_nil)))
theorem v_work_crossing (T : Txt K mg) : DefV P w K mg base "work_crossing" 2 ["things", "crossing", "change"] f_work_crossing := (d_work_crossing T).v fun _ _ _ _ _ _ us hl => match us, hl with | [_, _, _], _ => rfl
theorem sc_work_way : FnScope N_work_way ["things", "row", "change"] (defScope s_work_way) := ⟨rfl, rfl, rfl, by decide +kernel, rfl, by decide +kernel, by decide +kernel⟩
theorem d_work_way (T : Txt K mg) : DefS P w K mg base "work_way" s_work_way 3 ["things", "row", "change"] f_work_way :=
  defs (N := N_work_way) (b := m_work_way) T.f_work_way sc_work_way fun f cdv A outer s H E hg hr =>
    ss_cons (sv_set (i := 3) sc_work_way.nd (ev_lst (av_cons (ev_var 0) av_nil))) (ss_cons (sv_for PassesOwn.never rfl (iv_seq (ev_var 1)) (gv_name (i := 4) sc_work_way.nd) (ss_cons (sv_expr (ev_append (ev_var 3) (ev_call (v_work_crossing T) hg (hr.mono (by decide)) rfl (av_cons (ev_sub (u1 hr) (ev_var 3) (ev_neg ev_int) (by intro _ _; rfl) (by intro _ _; rfl)) (av_cons (ev_var 4) (av_cons (ev_var 2) av_nil))) (len_cons (len_cons (len_cons (fun _ _ _ _ => len_nil))))))) ss_nil)) (ss_cons (sv_ret (ev_callT call_tupleV rfl T.n_tuple rfl (av_cons (ev_var 3) av_nil))) ss_nil))
theorem v_work_way (T : Txt K mg) : DefV P w K mg base "work_way" 3 ["things", "row", "change"] f_work_way := (d_work_way T).v fun _ _ _ _ _ _ us hl => match us, hl with | [_, _, _], _ => rfl
theorem sc_work_row : FnScope N_work_row ["things", "row", "change"] (defScope s_work_row) := ⟨rfl, rfl, rfl, by decide +kernel, rfl, by decide +kernel, by decide +kernel⟩
theorem d_work_row (T : Txt K mg) : DefS P w K mg base "work_row" s_work_row 3 ["things", "row", "change"] f_work_row :=
  defs (N := N_work_row) (b := m_work_row) T.f_work_row sc_work_row fun f cdv A outer s H E hg hr =>
    ss_cons (sv_for PassesOwn.never rfl (iv_seq (ev_var 1)) (gv_name (i := 3) sc_work_row.nd) (ss_cons (sv_set (i := 0) sc_work_row.nd (ev_call (v_work_crossing T) hg (hr.mono (by decide)) rfl (av_cons (ev_var 0) (av_cons (ev_var 3) (av_cons (ev_var 2) av_nil))) (len_cons (len_cons (len_cons (fun _ _ _ _ => len_nil)))))) ss_nil)) (ss_cons (sv_ret (ev_var 0)) ss_nil)
theorem v_work_row (T : Txt K mg) : DefV P w K mg base "work_row" 3 ["things", "row", "change"] f_work_row := (d_work_row T).v fun _ _ _ _ _ _ us hl => match us, hl with | [_, _, _], _ => rfl
theorem sc_order_behind : FnScope N_order_behind ["cords", "row"] (defScope s_order_behind) := ⟨rfl, rfl, rfl, by decide +kernel, rfl, by decide +kernel, by decide +kernel⟩
theorem d_order_behind (T : Txt K mg) : DefS P w K mg base "order_behind" s_order_behind 4 ["cords", "row"] f_order_behind :=
  defs (N := N_order_behind) (b := m_order_behind) T.f_order_behind sc_order_behind fun f cdv A outer s H E hg hr =>
    ss_cons (sv_ret (ev_call (v_work_row T) hg (hr.mono (by decide)) rfl (av_cons (ev_tupR (rv_1 (ev_var 0) T.n_range) T.n_tuple) (av_cons (ev_var 1) (av_cons (ev_def T.f_keep_under) av_nil))) (len_cons (len_cons (len_cons (fun _ _ _ _ => len_nil)))))) ss_nil
theorem v_order_behind (T : Txt K mg) : DefV P w K mg base "order_behind" 4 ["cords", "row"] f_order_behind := (d_order_behind T).v fun _ _ _ _ _ _ us hl => match us, hl with | [_, _], _ => rfl
theorem sc_meetings : FnScope N_meetings ["cords", "row"] (defScope s_meetings) := ⟨rfl, rfl, rfl, by decide +kernel, rfl, by decide +kernel, by decide +kernel⟩
theorem d_meetings (T : Txt K mg) : DefS P w K mg base "meetings" s_meetings 4 ["cords", "row"] f_meetings :=
  defs (N := N_meetings) (b := m_meetings) T.f_meetings sc_meetings fun f cdv A outer s H E hg hr =>
    ss_cons (sv_set (i := 2) sc_meetings.nd (ev_lst av_nil)) (ss_cons (sv_for PassesOwn.never rfl (iv_zipT (av_cons (ev_call (v_work_way T) hg (hr.mono (by decide)) rfl (av_cons (ev_tupR (rv_1 (ev_var 0) T.n_range) T.n_tuple) (av_cons (ev_var 1) (av_cons (ev_def T.f_keep_under) av_nil))) (len_cons (len_cons (len_cons (fun _ _ _ _ => len_nil))))) (av_cons (ev_var 1) av_nil)) T.n_zip) (gv_tup rfl (gs_cons (gv_name (i := 3) sc_meetings.nd) (gs_cons (gv_name (i := 4) sc_meetings.nd) gs_nil)) (gl_cons (gl_cons gl_nil))) (ss_cons (sv_asg (ev_var 4) (gv_tup rfl (gs_cons (gv_name (i := 5) sc_meetings.nd) (gs_cons (gv_name (i := 6) sc_meetings.nd) gs_nil)) (gl_cons (gl_cons gl_nil)))) (ss_cons (sv_par (i := 7) (j := 8) rfl sc_meetings.nd (av_cons (ev_sub (u1 hr) (ev_var 3) (ev_var 6) (by intro _ _; rfl) (by intro _ _; rfl)) (av_cons (ev_sub (u1 hr) (ev_var 3) (ev_bin op_addV (ev_var 6) ev_int) (by intro _ _; rfl) (by intro _ _; rfl)) av_nil))) (ss_cons (sv_if (bv_cmp (op_eqV (u64 hr)) (ev_var 5) ev_str (nomark _)) (ss_cons (sv_expr (ev_append (ev_var 2) (ev_tup (av_cons (ev_var 7) (av_cons (ev_var 8) (av_cons (ev_var 5) av_nil)))))) ss_nil) (ss_cons (sv_expr (ev_append (ev_var 2) (ev_tup (av_cons (ev_var 8) (av_cons (ev_var 7) (av_cons (ev_var 5) av_nil)))))) ss_nil)) ss_nil)))) (ss_cons (sv_ret (ev_callT call_tupleV rfl T.n_tuple rfl (av_cons (ev_var 2) av_nil))) ss_nil))
theorem v_meetings (T : Txt K mg) : DefV P w K mg base "meetings" 4 ["cords", "row"] f_meetings := (d_meetings T).v fun _ _ _ _ _ _ us hl => match us, hl with | [_, _], _ => rfl
theorem sc_order_of : FnScope N_order_of ["cords", "row"] (defScope s_order_of) := ⟨rfl, rfl, rfl, by decide +kernel, rfl, by decide +kernel, by decide +kernel⟩
theorem d_order_of (T : Txt K mg) : DefS P w K mg base "order_of" s_order_of 6 ["cords", "row"] f_order_of :=
  defs (N := N_order_of) (b := m_order_of) T.f_order_of sc_order_of fun f cdv A outer s H E hg hr =>
    ss_cons (sv_expr (ev_call (v_need_cords_and_row T) hg (hr.mono (by decide)) rfl (av_cons (ev_var 0) (av_cons (ev_var 1) av_nil)) (len_cons (len_cons (fun _ _ _ _ => len_nil))))) (ss_cons (sv_ret (ev_call (v_order_behind T) hg (hr.mono (by decide)) rfl (av_cons (ev_var 0) (av_cons (ev_var 1) av_nil)) (len_cons (len_cons (fun _ _ _ _ => len_nil))))) ss_nil)
theorem v_order_of (T : Txt K mg) : DefV P w K mg base "order_of" 6 ["cords", "row"] f_order_of := (d_order_of T).v fun _ _ _ _ _ _ us hl => match us, hl with | [_, _], _ => rfl
theorem k_order_of_1_0 (T : Txt K mg) : DefK P w K mg base "order_of" 6 ["cords", "row"] ["row", "cords"] [1, 0] f_order_of := (d_order_of T).k [1, 0] fun _ _ _ _ _ _ ws hl => match ws, hl with | [_, _], _ => rfl
theorem sc_order_on_way : FnScope N_order_on_way ["cords", "row"] (defScope s_order_on_way) := ⟨rfl, rfl, rfl, by decide +kernel, rfl, by decide +kernel, by decide +kernel⟩
theorem d_order_on_way (T : Txt K mg) : DefS P w K mg base "order_on_way" s_order_on_way 6 ["cords", "row"] f_order_on_way :=
  defs (N := N_order_on_way) (b := m_order_on_way) T.f_order_on_way sc_order_on_way fun f cdv A outer s H E hg hr =>
    ss_cons (sv_expr (ev_call (v_need_cords_and_row T) hg (hr.mono (by decide)) rfl (av_cons (ev_var 0) (av_cons (ev_var 1) av_nil)) (len_cons (len_cons (fun _ _ _ _ => len_nil))))) (ss_cons (sv_ret (ev_call (v_work_way T) hg (hr.mono (by decide)) rfl (av_cons (ev_tupR (rv_1 (ev_var 0) T.n_range) T.n_tuple) (av_cons (ev_var 1) (av_cons (ev_def T.f_keep_under) av_nil))) (len_cons (len_cons (len_cons (fun _ _ _ _ => len_nil)))))) ss_nil)
theorem v_order_on_way (T : Txt K mg) : DefV P w K mg base "order_on_way" 6 ["cords", "row"] f_order_on_way := (d_order_on_way T).v fun _ _ _ _ _ _ us hl => match us, hl with | [_, _], _ => rfl
theorem k_order_on_way_1_0 (T : Txt K mg) : DefK P w K mg base "order_on_way" 6 ["cords", "row"] ["row", "cords"] [1, 0] f_order_on_way := (d_order_on_way T).k [1, 0] fun _ _ _ _ _ _ ws hl => match ws, hl with | [_, _], _ => rfl
theorem sc_way_of : FnScope N_way_of ["cords", "row", "cord"] (defScope s_way_of) := ⟨rfl, rfl, rfl, by decide +kernel, rfl, by decide +kernel, by decide +kernel⟩
theorem d_way_of (T : Txt K mg) : DefS P w K mg base "way_of" s_way_of 6 ["cords", "row", "cord"] f_way_of :=
  defs (N := N_way_of) (b := m_way_of) T.f_way_of sc_way_of fun f cdv A outer s H E hg hr =>
    ss_cons (sv_expr (ev_call (v_need_cords_and_row T) hg (hr.mono (by decide)) rfl (av_cons (ev_var 0) (av_cons (ev_var 1) av_nil)) (len_cons (len_cons (fun _ _ _ _ => len_nil))))) (ss_cons (sv_expr (ev_call (v_need_cord T) hg (hr.mono (by decide)) rfl (av_cons (ev_var 0) (av_cons (ev_var 2) av_nil)) (len_cons (len_cons (fun _ _ _ _ => len_nil))))) (ss_cons (sv_ret (ev_callT call_tupleV rfl T.n_tuple rfl (av_cons (ev_lc (own := [("order", 3)]) rfl sc_way_of.nd (iv_seq (ev_call (v_work_way T) hg (hr.mono (by decide)) rfl (av_cons (ev_tupR (rv_1 (ev_var 0) T.n_range) T.n_tuple) (av_cons (ev_var 1) (av_cons (ev_def T.f_keep_under) av_nil))) (len_cons (len_cons (len_cons (fun _ _ _ _ => len_nil)))))) (by show BlkOk N_way_of (defScope s_way_of) _ _; exact ⟨rfl, by decide +kernel, by decide +kernel, by decide +kernel, by decide +kernel⟩) (fun _ _ _ _ _ => pg_name (i := 3) sc_way_of.nd rfl (by first | exact Or.inl rfl | exact Or.inr rfl)) (tgt_name (i := 3) (by decide)) (fun _ _ _ _ _ => ts_nil) (fun _ _ _ _ _ => ev_index (ev_var 3) (ev_var 2))) av_nil))) ss_nil))
theorem v_way_of (T : Txt K mg) : DefV P w K mg base "way_of" 6 ["cords", "row", "cord"] f_way_of := (d_way_of T).v fun _ _ _ _ _ _ us hl => match us, hl with | [_, _, _], _ => rfl
theorem k_way_of_2_1_0 (T : Txt K mg) : DefK P w K mg base "way_of" 6 ["cords", "row", "cord"] ["cord", "row", "cords"] [2, 1, 0] f_way_of := (d_way_of T).k [2, 1, 0] fun _ _ _ _ _ _ ws hl => match ws, hl with | [_, _, _], _ => rfl
theorem sc_back_row : FnScope N_back_row ["cords", "row"] (defScope s_back_row) := ⟨rfl, rfl, rfl, by decide +kernel, rfl, by decide +kernel, by decide +kernel⟩
theorem d_back_row (T : Txt K mg) : DefS P w K mg base "back_row" s_back_row 6 ["cords", "row"] f_back_row :=
  defs (N := N_back_row) (b := m_back_row) T.f_back_row sc_back_row fun f cdv A outer s H E hg hr =>
    ss_cons (sv_expr (ev_call (v_need_cords_and_row T) hg (hr.mono (by decide)) rfl (av_cons (ev_var 0) (av_cons (ev_var 1) av_nil)) (len_cons (len_cons (fun _ _ _ _ => len_nil))))) (ss_cons (sv_ret (ev_call (v_back_of T) hg (hr.mono (by decide)) rfl (av_cons (ev_var 1) av_nil) (len_cons (fun _ _ _ _ => len_nil)))) ss_nil)
theorem v_back_row (T : Txt K mg) : DefV P w K mg base "back_row" 6 ["cords", "row"] f_back_row := (d_back_row T).v fun _ _ _ _ _ _ us hl => match us, hl with | [_, _], _ => rfl
theorem k_back_row_1_0 (T : Txt K mg) : DefK P w K mg base "back_row" 6 ["cords", "row"] ["row", "cords"] [1, 0] f_back_row := (d_back_row T).k [1, 0] fun _ _ _ _ _ _ ws hl => match ws, hl with | [_, _], _ => rfl
theorem sc_mirrored : FnScope N_mirrored ["cords", "row"] (defScope s_mirrored) := ⟨rfl, rfl, rfl, by decide +kernel, rfl, by decide +kernel, by decide +kernel⟩
theorem d_mirrored (T : Txt K mg) : DefS P w K mg base "mirrored" s_mirrored 6 ["cords", "row"] f_mirrored :=
  defs (N := N_mirrored) (b := m_mirrored) T.f_mirrored sc_mirrored fun f cdv A outer s H E hg hr =>
    ss_cons (sv_expr (ev_call (v_need_cords_and_row T) hg (hr.mono (by decide)) rfl (av_cons (ev_var 0) (av_cons (ev_var 1) av_nil)) (len_cons (len_cons (fun _ _ _ _ => len_nil))))) (ss_cons (sv_ret (ev_callT call_tupleV rfl T.n_tuple rfl (av_cons (ev_lc (own := [("side", 2), ("place", 3)]) rfl sc_mirrored.nd (iv_seq (ev_var 1)) (by show BlkOk N_mirrored (defScope s_mirrored) _ _; exact ⟨rfl, by decide +kernel, by decide +kernel, by decide +kernel, by decide +kernel⟩) (fun _ _ _ _ _ => pg_tup rfl (pgs_cons (pg_name (i := 2) sc_mirrored.nd rfl (by first | exact Or.inl rfl | exact Or.inr rfl)) (pgs_cons (pg_name (i := 3) sc_mirrored.nd rfl (by first | exact Or.inl rfl | exact Or.inr rfl)) pgs_nil))) (tgt_tup (tgts_cons (tgt_name (i := 2) (by decide)) (tgts_cons (tgt_name (i := 3) (by decide)) tgts_nil)) (gl_cons (gl_cons gl_nil))) (fun _ _ _ _ _ => ts_nil) (fun _ _ _ _ _ => ev_tup (av_cons (ev_call (v_other_side T) hg (hr.mono (by decide)) rfl (av_cons (ev_var 2) av_nil) (len_cons (fun _ _ _ _ => len_nil))) (av_cons (ev_bin op_subV (ev_bin op_subV (ev_var 0) ev_int) (ev_var 3)) av_nil)))) av_nil))) ss_nil)
theorem v_mirrored (T : Txt K mg) : DefV P w K mg base "mirrored" 6 ["cords", "row"] f_mirrored := (d_mirrored T).v fun _ _ _ _ _ _ us hl => match us, hl with | [_, _], _ => rfl
theorem k_mirrored_1_0 (T : Txt K mg) : DefK P w K mg base "mirrored" 6 ["cords", "row"] ["row", "cords"] [1, 0] f_mirrored := (d_mirrored T).k [1, 0] fun _ _ _ _ _ _ ws hl => match ws, hl with | [_, _], _ => rfl
theorem sc_turned_over : FnScope N_turned_over ["cords", "row"] (defScope s_turned_over) := ⟨rfl, rfl, rfl, by decide +kernel, rfl, by decide +kernel, by decide +kernel⟩
theorem d_turned_over (T : Txt K mg) : DefS P w K mg base "turned_over" s_turned_over 6 ["cords", "row"] f_turned_over :=
  defs (N := N_turned_over) (b := m_turned_over) T.f_turned_over sc_turned_over fun f cdv A outer s H E hg hr =>
    ss_cons (sv_expr (ev_call (v_need_cords_and_row T) hg (hr.mono (by decide)) rfl (av_cons (ev_var 0) (av_cons (ev_var 1) av_nil)) (len_cons (len_cons (fun _ _ _ _ => len_nil))))) (ss_cons (sv_ret (ev_callT call_tupleV rfl T.n_tuple rfl (av_cons (ev_lc (own := [("side", 2), ("place", 3)]) rfl sc_turned_over.nd (iv_seq (ev_var 1)) (by show BlkOk N_turned_over (defScope s_turned_over) _ _; exact ⟨rfl, by decide +kernel, by decide +kernel, by decide +kernel, by decide +kernel⟩) (fun _ _ _ _ _ => pg_tup rfl (pgs_cons (pg_name (i := 2) sc_turned_over.nd rfl (by first | exact Or.inl rfl | exact Or.inr rfl)) (pgs_cons (pg_name (i := 3) sc_turned_over.nd rfl (by first | exact Or.inl rfl | exact Or.inr rfl)) pgs_nil))) (tgt_tup (tgts_cons (tgt_name (i := 2) (by decide)) (tgts_cons (tgt_name (i := 3) (by decide)) tgts_nil)) (gl_cons (gl_cons gl_nil))) (fun _ _ _ _ _ => ts_nil) (fun _ _ _ _ _ => ev_tup (av_cons (ev_call (v_other_side T) hg (hr.mono (by decide)) rfl (av_cons (ev_var 2) av_nil) (len_cons (fun _ _ _ _ => len_nil))) (av_cons (ev_var 3) av_nil)))) av_nil))) ss_nil)
theorem v_turned_over (T : Txt K mg) : DefV P w K mg base "turned_over" 6 ["cords", "row"] f_turned_over := (d_turned_over T).v fun _ _ _ _ _ _ us hl => match us, hl with | [_, _], _ => rfl
theorem k_turned_over_1_0 (T : Txt K mg) : DefK P w K mg base "turned_over" 6 ["cords", "row"] ["row", "cords"] [1, 0] f_turned_over := (d_turned_over T).k [1, 0] fun _ _ _ _ _ _ ws hl => match ws, hl with | [_, _], _ => rfl
theorem sc_met : FnScope N_met ["cords", "row"] (defScope s_met) := ⟨rfl, rfl, rfl, by decide +kernel, rfl, by decide +kernel, by decide +kernel⟩
theorem d_met (T : Txt K mg) : DefS P w K mg base "met" s_met 6 ["cords", "row"] f_met :=
  defs (N := N_met) (b := m_met) T.f_met sc_met fun f cdv A outer s H E hg hr =>
    ss_cons (sv_expr (ev_call (v_need_cords_and_row T) hg (hr.mono (by decide)) rfl (av_cons (ev_var 0) (av_cons (ev_var 1) av_nil)) (len_cons (len_cons (fun _ _ _ _ => len_nil))))) (ss_cons (sv_ret (ev_call (v_meetings T) hg (hr.mono (by decide)) rfl (av_cons (ev_var 0) (av_cons (ev_var 1) av_nil)) (len_cons (len_cons (fun _ _ _ _ => len_nil))))) ss_nil)
theorem v_met (T : Txt K mg) : DefV P w K mg base "met" 6 ["cords", "row"] f_met := (d_met T).v fun _ _ _ _ _ _ us hl => match us, hl with | [_, _], _ => rfl
theorem k_met_1_0 (T : Txt K mg) : DefK P w K mg base "met" 6 ["cords", "row"] ["row", "cords"] [1, 0] f_met := (d_met T).k [1, 0] fun _ _ _ _ _ _ ws hl => match ws, hl with | [_, _], _ => rfl
theorem sc_crossed : FnScope N_crossed ["cords", "row", "cord", "far_cord"] (defScope s_crossed) := ⟨rfl, rfl, rfl, by decide +kernel, rfl, by decide +kernel, by decide +kernel⟩
theorem d_crossed (T : Txt K mg) : DefS P w K mg base "crossed" s_crossed 6 ["cords", "row", "cord", "far_cord"] f_crossed :=
  defs (N := N_crossed) (b := m_crossed) T.f_crossed sc_crossed fun f cdv A outer s H E hg hr =>
    ss_cons (sv_expr (ev_call (v_need_cords_and_row T) hg (hr.mono (by decide)) rfl (av_cons (ev_var 0) (av_cons (ev_var 1) av_nil)) (len_cons (len_cons (fun _ _ _ _ => len_nil))))) (ss_cons (sv_expr (ev_call (v_need_cord T) hg (hr.mono (by decide)) rfl (av_cons (ev_var 0) (av_cons (ev_var 2) av_nil)) (len_cons (len_cons (fun _ _ _ _ => len_nil))))) (ss_cons (sv_expr (ev_call (v_need_cord T) hg (hr.mono (by decide)) rfl (av_cons (ev_var 0) (av_cons (ev_var 3) av_nil)) (len_cons (len_cons (fun _ _ _ _ => len_nil))))) (ss_cons (sv_if (bv_cmp (op_eqV (u64 hr)) (ev_var 3) (ev_var 2) (nomark _)) (ss_cons sv_never ss_nil) ss_nil) (ss_cons (sv_set (i := 4) sc_crossed.nd (ev_tup (av_cons (ev_tup (av_cons (ev_var 2) (av_cons (ev_var 3) av_nil))) (av_cons (ev_tup (av_cons (ev_var 3) (av_cons (ev_var 2) av_nil))) av_nil)))) (ss_cons (sv_ret (ev_callB call_lenV rfl T.n_len rfl (av_cons (ev_lc (own := [("over", 5), ("under", 6), ("_", 7)]) rfl sc_crossed.nd (iv_seq (ev_call (v_meetings T) hg (hr.mono (by decide)) rfl (av_cons (ev_var 0) (av_cons (ev_var 1) av_nil)) (len_cons (len_cons (fun _ _ _ _ => len_nil))))) (by show BlkOk N_crossed (defScope s_crossed) _ _; exact ⟨rfl, by decide +kernel, by decide +kernel, by decide +kernel, by decide +kernel⟩) (fun _ _ _ _ _ => pg_tup rfl (pgs_cons (pg_name (i := 5) sc_crossed.nd rfl (by first | exact Or.inl rfl | exact Or.inr rfl)) (pgs_cons (pg_name (i := 6) sc_crossed.nd rfl (by first | exact Or.inl rfl | exact Or.inr rfl)) (pgs_cons (pg_name (i := 7) sc_crossed.nd rfl (by first | exact Or.inl rfl | exact Or.inr rfl)) pgs_nil)))) (tgt_tup (tgts_cons (tgt_name (i := 5) (by decide)) (tgts_cons (tgt_name (i := 6) (by decide)) (tgts_cons (tgt_name (i := 7) (by decide)) tgts_nil))) (gl_cons (gl_cons (gl_cons gl_nil)))) (fun _ _ _ _ _ => ts_one (bv_cmp (op_inV (u65 hr)) (ev_tup (av_cons (ev_var 5) (av_cons (ev_var 6) av_nil))) (ev_var 4) (by rfl))) (fun _ _ _ _ _ => ev_var 5)) av_nil))) ss_nil)))))
theorem v_crossed (T : Txt K mg) : DefV P w K mg base "crossed" 6 ["cords", "row", "cord", "far_cord"] f_crossed := (d_crossed T).v fun _ _ _ _ _ _ us hl => match us, hl with | [_, _, _, _], _ => rfl
theorem k_crossed_3_2_1_0 (T : Txt K mg) : DefK P w K mg base "crossed" 6 ["cords", "row", "cord", "far_cord"] ["far_cord", "cord", "row", "cords"] [3, 2, 1, 0] f_crossed := (d_crossed T).k [3, 2, 1, 0] fun _ _ _ _ _ _ ws hl => match ws, hl with | [_, _, _, _], _ => rfl
theorem sc__law_mixed : FnScope N__law_mixed ["cell", "n"] (defScope s__law_mixed) := ⟨rfl, rfl, rfl, by decide +kernel, rfl, by decide +kernel, by decide +kernel⟩
theorem d__law_mixed (T : Txt K mg) : DefS P w K mg base "_law_mixed" s__law_mixed 1 ["cell", "n"] f__law_mixed :=
  defs (N := N__law_mixed) (b := m__law_mixed) T.f__law_mixed sc__law_mixed fun f cdv A outer s H E hg hr =>
    ss_cons (sv_set (i := 2) sc__law_mixed.nd (ev_bin op_addV (ev_bin op_addV (ev_bin op_modV (ev_callT call_intV rfl T.n_int rfl (av_cons (ev_bin op_mulT (ev_bin op_mulT (ev_var 0) (ev_bin op_addV ev_int (ev_bin op_mulT ev_int (ev_var 1)))) ev_int) av_nil)) ev_int) (ev_bin op_mulT (ev_bin op_mulT ev_int (ev_var 1)) (ev_var 1))) (ev_bin op_mulT ev_int (ev_var 1)))) (ss_cons (sv_ret (ev_bin op_fdivV (ev_bin op_modV (ev_callT call_intV rfl T.n_int rfl (av_cons (ev_bin op_mulT (ev_var 2) ev_int) av_nil)) ev_int) ev_int)) ss_nil)
theorem v__law_mixed (T : Txt K mg) : DefV P w K mg base "_law_mixed" 1 ["cell", "n"] f__law_mixed := (d__law_mixed T).v fun _ _ _ _ _ _ us hl => match us, hl with | [_, _], _ => rfl
theorem sc__law_folded : FnScope N__law_folded ["script"] (defScope s__law_folded) := ⟨rfl, rfl, rfl, by decide +kernel, rfl, by decide +kernel, by decide +kernel⟩
theorem d__law_folded (T : Txt K mg) : DefS P w K mg base "_law_folded" s__law_folded 1 ["script"] f__law_folded :=
  defs (N := N__law_folded) (b := m__law_folded) T.f__law_folded sc__law_folded fun f cdv A outer s H E hg hr =>
    ss_cons (sv_setLc (i := 1) (own := [("n", 2)]) rfl sc__law_folded.nd rfl rfl (by rfl) (iv_range1 (av_cons ev_int av_nil) T.n_range) (by show BlkOk N__law_folded (defScope s__law_folded) _ _; exact ⟨rfl, by decide +kernel, by decide +kernel, by decide +kernel, by decide +kernel⟩) (fun _ _ _ _ _ => pg_name (i := 2) sc__law_folded.nd rfl (by first | exact Or.inl rfl | exact Or.inr rfl)) (tgt_name (i := 2) (by decide)) (fun _ _ _ _ _ => ts_nil) (fun _ _ _ _ _ => ev_bin op_addV ev_int (ev_var 2))) (ss_cons (sv_for PassesOwn.never rfl (iv_enum (av_cons (ev_var 0) av_nil) T.n_enumerate) (gv_tup rfl (gs_cons (gv_name (i := 2) sc__law_folded.nd) (gs_cons (gv_name (i := 3) sc__law_folded.nd) gs_nil)) (gl_cons (gl_cons gl_nil))) (ss_cons (sv_put (u1 hr) (ev_var 1) (ev_bin op_modV (ev_callT call_intV rfl T.n_int rfl (av_cons (ev_var 2) av_nil)) ev_int) (ev_bin op_modV (ev_callT call_intV rfl T.n_int rfl (av_cons (ev_bin op_addV (ev_bin op_mulT (ev_sub (u1 hr) (ev_var 1) (ev_bin op_modV (ev_callT call_intV rfl T.n_int rfl (av_cons (ev_var 2) av_nil)) ev_int) (by intro _ _; rfl) (by intro _ _; rfl)) ev_int) (ev_var 3)) av_nil)) ev_int)) ss_nil)) (ss_cons (sv_for PassesOwn.never rfl (iv_range2 (av_cons ev_int (av_cons ev_int av_nil)) T.n_range) (gv_name (i := 2) sc__law_folded.nd) (ss_cons (sv_put (u1 hr) (ev_var 1) (ev_var 2) (ev_bin op_modV (ev_callT call_intV rfl T.n_int rfl (av_cons (ev_bin op_addV (ev_sub (u1 hr) (ev_var 1) (ev_var 2) (by intro _ _; rfl) (by intro _ _; rfl)) (ev_bin op_mulT (ev_sub (u1 hr) (ev_var 1) (ev_bin op_subV (ev_var 2) ev_int) (by intro _ _; rfl) (by intro _ _; rfl)) ev_int)) av_nil)) ev_int)) ss_nil)) (ss_cons (sv_ret (ev_var 1)) ss_nil)))
theorem v__law_folded (T : Txt K mg) : DefV P w K mg base "_law_folded" 1 ["script"] f__law_folded := (d__law_folded T).v fun _ _ _ _ _ _ us hl => match us, hl with | [_], _ => rfl
theorem sc__law_draw : FnScope N__law_draw ["m", "limit"] (defScope s__law_draw) := ⟨rfl, rfl, rfl, by decide +kernel, rfl, by decide +kernel, by decide +kernel⟩
theorem d__law_draw (T : Txt K mg) : DefS P w K mg base "_law_draw" s__law_draw 2 ["m", "limit"] f__law_draw :=
  defs (N := N__law_draw) (b := m__law_draw) T.f__law_draw sc__law_draw fun f cdv A outer s H E hg hr =>
    ss_cons (sv_set (i := 2) sc__law_draw.nd (ev_sub (u1 hr) (ev_var 0) ev_str (by intro _ _; rfl) (by intro _ _; rfl))) (ss_cons (sv_put (u1 hr) (ev_var 0) ev_str (ev_bin op_addV (ev_var 2) ev_int)) (ss_cons (sv_if (bv_cmp (op_neV (u64 hr)) (ev_sub (u1 hr) (ev_var 0) ev_str (by intro _ _; rfl) (by intro _ _; rfl)) (ev_lst av_nil) (nomark _)) (ss_cons (sv_set (i := 3) sc__law_draw.nd (ev_sub (u1 hr) (ev_var 0) ev_str (by intro _ _; rfl) (by intro _ _; rfl))) (ss_cons (sv_set (i := 4) sc__law_draw.nd (ev_bin op_modV (ev_callT call_intV rfl T.n_int rfl (av_cons (ev_var 2) av_nil)) (ev_callB call_lenV rfl T.n_len rfl (av_cons (ev_var 3) av_nil)))) (ss_cons (sv_set (i := 5) sc__law_draw.nd (ev_sub (u1 hr) (ev_var 3) (ev_var 4) (by intro _ _; rfl) (by intro _ _; rfl))) (ss_cons (sv_if (bv_cmp op_gtV (ev_var 5) ev_int (nomark _)) (ss_cons (sv_put (u1 hr) (ev_var 3) (ev_var 4) (ev_bin op_fdivV (ev_var 5) (ev_var 1))) (ss_cons (sv_ret (ev_bin op_modV (ev_callT call_intV rfl T.n_int rfl (av_cons (ev_var 5) av_nil)) (ev_var 1))) ss_nil)) ss_nil) ss_nil)))) ss_nil) (ss_cons (sv_set (i := 3) sc__law_draw.nd (ev_sub (u1 hr) (ev_var 0) ev_str (by intro _ _; rfl) (by intro _ _; rfl))) (ss_cons (sv_ret (ev_bin op_modV (ev_callT call_intV rfl T.n_int rfl (av_cons (ev_call (v__law_mixed T) hg (hr.mono (by decide)) rfl (av_cons (ev_call (v__law_mixed T) hg (hr.mono (by decide)) rfl (av_cons (ev_bin op_addV (ev_sub (u1 hr) (ev_var 3) (ev_bin op_modV (ev_callT call_intV rfl T.n_int rfl (av_cons (ev_var 2) av_nil)) ev_int) (by intro _ _; rfl) (by intro _ _; rfl)) (ev_bin op_mulT ev_int (ev_bin op_fdivV (ev_var 2) ev_int))) (av_cons (ev_var 2) av_nil)) (len_cons (len_cons (fun _ _ _ _ => len_nil)))) (av_cons (ev_bin op_addV (ev_var 2) ev_int) av_nil)) (len_cons (len_cons (fun _ _ _ _ => len_nil)))) av_nil)) (ev_var 1))) ss_nil))))
theorem v__law_draw (T : Txt K mg) : DefV P w K mg base "_law_draw" 2 ["m", "limit"] f__law_draw := (d__law_draw T).v fun _ _ _ _ _ _ us hl => match us, hl with | [_, _], _ => rfl
theorem sc__law_begun : FnScope N__law_begun ["script"] (defScope s__law_begun) := ⟨rfl, rfl, rfl, by decide +kernel, rfl, by decide +kernel, by decide +kernel⟩
theorem d__law_begun (T : Txt K mg) : DefS P w K mg base "_law_begun" s__law_begun 2 ["script"] f__law_begun :=
  defs (N := N__law_begun) (b := m__law_begun) T.f__law_begun sc__law_begun fun f cdv A outer s H E hg hr =>
    ss_cons (sv_set (i := 1) sc__law_begun.nd (ev_dict (dv_cons (ev_call (v__law_folded T) hg (hr.mono (by decide)) rfl (av_cons (ev_var 0) av_nil) (len_cons (fun _ _ _ _ => len_nil))) (dv_cons (ev_lst av_nil) (dv_cons ev_int dv_nil))))) (ss_cons (sv_put (u1 hr) (ev_var 1) ev_str (ev_lc (own := [("cell", 2)]) rfl sc__law_begun.nd (iv_seq (ev_var 0)) (by show BlkOk N__law_begun (defScope s__law_begun) _ _; exact ⟨rfl, by decide +kernel, by decide +kernel, by decide +kernel, by decide +kernel⟩) (fun _ _ _ _ _ => pg_name (i := 2) sc__law_begun.nd rfl (by first | exact Or.inl rfl | exact Or.inr rfl)) (tgt_name (i := 2) (by decide)) (fun _ _ _ _ _ => ts_nil) (fun _ _ _ _ _ => ev_if (bv_cmp op_geV (ev_var 2) (ev_bin op_powV ev_int ev_int) (nomark _)) (ev_var 2) ev_int))) (ss_cons (sv_ret (ev_var 1)) ss_nil))
theorem v__law_begun (T : Txt K mg) : DefV P w K mg base "_law_begun" 2 ["script"] f__law_begun := (d__law_begun T).v fun _ _ _ _ _ _ us hl => match us, hl with | [_], _ => rfl
theorem sc__law_of : FnScope N__law_of ["m", "some"] (defScope s__law_of) := ⟨rfl, rfl, rfl, by decide +kernel, rfl, by decide +kernel, by decide +kernel⟩
theorem d__law_of (T : Txt K mg) : DefS P w K mg base "_law_of" s__law_of 3 ["m", "some"] f__law_of :=
  defs (N := N__law_of) (b := m__law_of) T.f__law_of sc__law_of fun f cdv A outer s H E hg hr =>
    ss_cons (sv_ret (ev_sub (u1 hr) (ev_var 1) (ev_call (v__law_draw T) hg (hr.mono (by decide)) rfl (av_cons (ev_var 0) (av_cons (ev_callB call_lenV rfl T.n_len rfl (av_cons (ev_var 1) av_nil)) av_nil)) (len_cons (len_cons (fun _ _ _ _ => len_nil)))) (by intro _ _; rfl) (by intro _ _; rfl))) ss_nil
theorem v__law_of (T : Txt K mg) : DefV P w K mg base "_law_of" 3 ["m", "some"] f__law_of := (d__law_of T).v fun _ _ _ _ _ _ us hl => match us, hl with | [_, _], _ => rfl
theorem sc__law_like : FnScope N__law_like ["got", "due"] (defScope s__law_like) := ⟨rfl, rfl, rfl, by decide +kernel, rfl, by decide +kernel, by decide +kernel⟩
theorem d__law_like (T : Txt K mg) : DefS P w K mg base "_law_like" s__law_like 1 ["got", "due"] f__law_like :=
  defs (N := N__law_like) (b := m__law_like) T.f__law_like sc__law_like fun f cdv A outer s H E hg hr =>
    ss_cons (sv_ret (ev_cmp (op_eqV (u64 hr)) (ev_callB (call_reprV hg (u64 hr)) rfl T.n_repr rfl (av_cons (ev_var 0) av_nil)) (ev_callB (call_reprV hg (u64 hr)) rfl T.n_repr rfl (av_cons (ev_var 1) av_nil)) (nomark _))) ss_nil
theorem v__law_like (T : Txt K mg) : DefV P w K mg base "_law_like" 1 ["got", "due"] f__law_like := (d__law_like T).v fun _ _ _ _ _ _ us hl => match us, hl with | [_, _], _ => rfl
theorem sc__law_row : FnScope N__law_row ["m", "cords_so", "most"] (defScope s__law_row) := ⟨rfl, rfl, rfl, by decide +kernel, rfl, by decide +kernel, by decide +kernel⟩
theorem d__law_row (T : Txt K mg) : DefS P w K mg base "_law_row" s__law_row 4 ["m", "cords_so", "most"] f__law_row :=
  defs (N := N__law_row) (b := m__law_row) T.f__law_row sc__law_row fun f cdv A outer s H E hg hr =>
    ss_cons (sv_set (i := 3) sc__law_row.nd (ev_lst av_nil)) (ss_cons (sv_for PassesOwn.never rfl (iv_range1 (av_cons (ev_call (v__law_draw T) hg (hr.mono (by decide)) rfl (av_cons (ev_var 0) (av_cons (ev_bin op_addV (ev_var 2) ev_int) av_nil)) (len_cons (len_cons (fun _ _ _ _ => len_nil)))) av_nil) T.n_range) (gv_name (i := 4) sc__law_row.nd) (ss_cons (sv_par (i := 5) (j := 6) rfl sc__law_row.nd (av_cons (ev_call (v__law_of T) hg (hr.mono (by decide)) rfl (av_cons (ev_var 0) (av_cons (ev_lst (av_cons ev_str (av_cons ev_str av_nil))) av_nil)) (len_cons (len_cons (fun _ _ _ _ => len_nil)))) (av_cons (ev_call (v__law_draw T) hg (hr.mono (by decide)) rfl (av_cons (ev_var 0) (av_cons (ev_bin op_subV (ev_var 1) ev_int) av_nil)) (len_cons (len_cons (fun _ _ _ _ => len_nil)))) av_nil))) (ss_cons (sv_if (bv_w (wv_and (bv_cmp (op_neV (u64 hr)) (ev_var 3) (ev_lst av_nil) (nomark _)) (wv_and1 (bv_cmp (op_eqV (u64 hr)) (ev_call (v__law_draw T) hg (hr.mono (by decide)) rfl (av_cons (ev_var 0) (av_cons ev_int av_nil)) (len_cons (len_cons (fun _ _ _ _ => len_nil)))) ev_int (nomark _))))) (ss_cons (sv_par (i := 5) (j := 6) rfl sc__law_row.nd (av_cons (ev_if (bv_cmp (op_eqV (u64 hr)) (ev_sub (u1 hr) (ev_sub (u1 hr) (ev_var 3) (ev_neg ev_int) (by intro _ _; rfl) (by intro _ _; rfl)) ev_int (by intro _ _; rfl) (by intro _ _; rfl)) ev_str (nomark _)) ev_str ev_str) (av_cons (ev_sub (u1 hr) (ev_sub (u1 hr) (ev_var 3) (ev_neg ev_int) (by intro _ _; rfl) (by intro _ _; rfl)) ev_int (by intro _ _; rfl) (by intro _ _; rfl)) av_nil))) ss_nil) ss_nil) (ss_cons (sv_expr (ev_append (ev_var 3) (ev_tup (av_cons (ev_var 5) (av_cons (ev_var 6) av_nil))))) ss_nil)))) (ss_cons (sv_ret (ev_callT call_tupleV rfl T.n_tuple rfl (av_cons (ev_var 3) av_nil))) ss_nil))
theorem v__law_row (T : Txt K mg) : DefV P w K mg base "_law_row" 4 ["m", "cords_so", "most"] f__law_row := (d__law_row T).v fun _ _ _ _ _ _ us hl => match us, hl with | [_, _, _], _ => rfl
theorem sc__law_back : FnScope N__law_back ["row_so"] (defScope s__law_back) := ⟨rfl, rfl, rfl, by decide +kernel, rfl, by decide +kernel, by decide +kernel⟩
theorem d__law_back (T : Txt K mg) : DefS P w K mg base "_law_back" s__law_back 1 ["row_so"] f__law_back :=
  defs (N := N__law_back) (b := m__law_back) T.f__law_back sc__law_back fun f cdv A outer s H E hg hr =>
    ss_cons (sv_ret (ev_callT call_tupleV rfl T.n_tuple rfl (av_cons (ev_lc (own := [("side", 1), ("place", 2)]) rfl sc__law_back.nd (iv_seq (ev_revT (ev_var 0))) (by show BlkOk N__law_back (defScope s__law_back) _ _; exact ⟨rfl, by decide +kernel, by decide +kernel, by decide +kernel, by decide +kernel⟩) (fun _ _ _ _ _ => pg_tup rfl (pgs_cons (pg_name (i := 1) sc__law_back.nd rfl (by first | exact Or.inl rfl | exact Or.inr rfl)) (pgs_cons (pg_name (i := 2) sc__law_back.nd rfl (by first | exact Or.inl rfl | exact Or.inr rfl)) pgs_nil))) (tgt_tup (tgts_cons (tgt_name (i := 1) (by decide)) (tgts_cons (tgt_name (i := 2) (by decide)) tgts_nil)) (gl_cons (gl_cons gl_nil))) (fun _ _ _ _ _ => ts_nil) (fun _ _ _ _ _ => ev_tup (av_cons (ev_if (bv_cmp (op_eqV (u64 hr)) (ev_var 1) ev_str (nomark _)) ev_str ev_str) (av_cons (ev_var 2) av_nil)))) av_nil))) ss_nil
theorem v__law_back (T : Txt K mg) : DefV P w K mg base "_law_back" 1 ["row_so"] f__law_back := (d__law_back T).v fun _ _ _ _ _ _ us hl => match us, hl with | [_], _ => rfl
theorem sc__law_walk : FnScope N__law_walk ["cords_so", "row_so"] (defScope s__law_walk) := ⟨rfl, rfl, rfl, by decide +kernel, rfl, by decide +kernel, by decide +kernel⟩
theorem d__law_walk (T : Txt K mg) : DefS P w K mg base "_law_walk" s__law_walk 1 ["cords_so", "row_so"] f__law_walk :=
  defs (N := N__law_walk) (b := m__law_walk) T.f__law_walk sc__law_walk fun f cdv A outer s H E hg hr =>
    ss_cons (sv_par (i := 2) (j := 3) rfl sc__law_walk.nd (av_cons (ev_lstR (rv_1 (ev_var 0) T.n_range) T.n_list) (av_cons (ev_lst av_nil) av_nil))) (ss_cons (sv_for PassesOwn.never rfl (iv_seq (ev_var 1)) (gv_tup rfl (gs_cons (gv_name (i := 4) sc__law_walk.nd) (gs_cons (gv_name (i := 5) sc__law_walk.nd) gs_nil)) (gl_cons (gl_cons gl_nil))) (ss_cons (sv_par (i := 6) (j := 7) rfl sc__law_walk.nd (av_cons (ev_sub (u1 hr) (ev_var 2) (ev_var 5) (by intro _ _; rfl) (by intro _ _; rfl)) (av_cons (ev_sub (u1 hr) (ev_var 2) (ev_bin op_addV (ev_var 5) ev_int) (by intro _ _; rfl) (by intro _ _; rfl)) av_nil))) (ss_cons (sv_expr (ev_append (ev_var 3) (ev_if (bv_cmp (op_eqV (u64 hr)) (ev_var 4) ev_str (nomark _)) (ev_tup (av_cons (ev_var 6) (av_cons (ev_var 7) (av_cons ev_int av_nil)))) (ev_tup (av_cons (ev_var 7) (av_cons (ev_var 6) (av_cons (ev_neg ev_int) av_nil))))))) (ss_cons (sv_asg (ev_tup (av_cons (ev_var 7) (av_cons (ev_var 6) av_nil))) (gv_tup rfl (gs_cons (gv_sub (ev_var 2) (ev_var 5)) (gs_cons (gv_sub (ev_var 2) (ev_bin op_addV (ev_var 5) ev_int)) gs_nil)) (gl_cons (gl_cons gl_nil)))) ss_nil)))) (ss_cons (sv_ret (ev_tup (av_cons (ev_var 3) (av_cons (ev_callT call_tupleV rfl T.n_tuple rfl (av_cons (ev_var 2) av_nil)) av_nil)))) ss_nil))
theorem v__law_walk (T : Txt K mg) : DefV P w K mg base "_law_walk" 1 ["cords_so", "row_so"] f__law_walk := (d__law_walk T).v fun _ _ _ _ _ _ us hl => match us, hl with | [_, _], _ => rfl
theorem sc__law_ways : FnScope N__law_ways ["cords_so", "row_so"] (defScope s__law_ways) := ⟨rfl, rfl, rfl, by decide +kernel, rfl, by decide +kernel, by decide +kernel⟩
theorem d__law_ways (T : Txt K mg) : DefS P w K mg base "_law_ways" s__law_ways 1 ["cords_so", "row_so"] f__law_ways :=
  defs (N := N__law_ways) (b := m__law_ways) T.f__law_ways sc__law_ways fun f cdv A outer s H E hg hr =>
    ss_cons (sv_set (i := 2) sc__law_ways.nd (ev_lstR (rv_1 (ev_var 0) T.n_range) T.n_list)) (ss_cons (sv_set (i := 3) sc__law_ways.nd (ev_lst (av_cons (ev_callT call_tupleV rfl T.n_tuple rfl (av_cons (ev_var 2) av_nil)) av_nil))) (ss_cons (sv_for PassesOwn.never rfl (iv_seq (ev_var 1)) (gv_tup rfl (gs_cons (gv_name (i := 4) sc__law_ways.nd) (gs_cons (gv_name (i := 5) sc__law_ways.nd) gs_nil)) (gl_cons (gl_cons gl_nil))) (ss_cons (sv_set (i := 2) sc__law_ways.nd (ev_bin op_addV (ev_bin op_addV (ev_slice (ev_var 2) ov_none (ov_some (ev_var 5))) (ev_lst (av_cons (ev_sub (u1 hr) (ev_var 2) (ev_bin op_addV (ev_var 5) ev_int) (by intro _ _; rfl) (by intro _ _; rfl)) (av_cons (ev_sub (u1 hr) (ev_var 2) (ev_var 5) (by intro _ _; rfl) (by intro _ _; rfl)) av_nil)))) (ev_slice (ev_var 2) (ov_some (ev_bin op_addV (ev_var 5) ev_int)) ov_none))) (ss_cons (sv_expr (ev_append (ev_var 3) (ev_callT call_tupleV rfl T.n_tuple rfl (av_cons (ev_var 2) av_nil)))) ss_nil))) (ss_cons (sv_ret (ev_var 3)) ss_nil)))
theorem v__law_ways (T : Txt K mg) : DefV P w K mg base "_law_ways" 1 ["cords_so", "row_so"] f__law_ways := (d__law_ways T).v fun _ _ _ _ _ _ us hl => match us, hl with | [_, _], _ => rfl
theorem sc__law_crossed_right : FnScope N__law_crossed_right ["cords_so", "row_so", "meets"] (defScope s__law_crossed_right) := ⟨rfl, rfl, rfl, by decide +kernel, rfl, by decide +kernel, by decide +kernel⟩
theorem d__law_crossed_right (T : Txt K mg) : DefS P w K mg base "_law_crossed_right" s__law_crossed_right 7 ["cords_so", "row_so", "meets"] f__law_crossed_right :=
  defs (N := N__law_crossed_right) (b := m__law_crossed_right) T.f__law_crossed_right sc__law_crossed_right fun f cdv A outer s H E hg hr =>
    ss_cons (sv_for PassesOwn.never rfl (iv_range1 (av_cons (ev_var 0) av_nil) T.n_range) (gv_name (i := 3) sc__law_crossed_right.nd) (ss_cons (sv_for PassesOwn.never rfl (iv_range1 (av_cons (ev_var 0) av_nil) T.n_range) (gv_name (i := 4) sc__law_crossed_right.nd) (ss_cons (sv_if (bv_cmp (op_neV (u64 hr)) (ev_var 3) (ev_var 4) (nomark _)) (ss_cons (sv_set (i := 5) sc__law_crossed_right.nd (ev_callB call_lenV rfl T.n_len rfl (av_cons (ev_lc (own := [("one", 6)]) rfl sc__law_crossed_right.nd (iv_seq (ev_var 2)) (by show BlkOk N__law_crossed_right (defScope s__law_crossed_right) _ _; exact ⟨rfl, by decide +kernel, by decide +kernel, by decide +kernel, by decide +kernel⟩) (fun _ _ _ _ _ => pg_name (i := 6) sc__law_crossed_right.nd rfl (by first | exact Or.inl rfl | exact Or.inr rfl)) (tgt_name (i := 6) (by decide)) (fun _ _ _ _ _ => ts_one (bv_cmp (op_inV (u65 hr)) (ev_tup (av_cons (ev_sub (u1 hr) (ev_var 6) ev_int (by intro _ _; rfl) (by intro _ _; rfl)) (av_cons (ev_sub (u1 hr) (ev_var 6) ev_int (by intro _ _; rfl) (by intro _ _; rfl)) av_nil))) (ev_tup (av_cons (ev_tup (av_cons (ev_var 3) (av_cons (ev_var 4) av_nil))) (av_cons (ev_tup (av_cons (ev_var 4) (av_cons (ev_var 3) av_nil))) av_nil))) (by rfl))) (fun _ _ _ _ _ => ev_var 6)) av_nil))) (ss_cons (sv_if (bv_not (bv_val (ev_call (v__law_like T) hg (hr.mono (by decide)) rfl (av_cons (ev_call (v_crossed T) hg (hr.mono (by decide)) rfl (av_cons (ev_var 0) (av_cons (ev_var 1) (av_cons (ev_var 3) (av_cons (ev_var 4) av_nil)))) (len_cons (len_cons (len_cons (len_cons (fun _ _ _ _ => len_nil)))))) (av_cons (ev_var 5) av_nil)) (len_cons (len_cons (fun _ _ _ _ => len_nil)))))) (ss_cons (sv_ret ev_bl) ss_nil) ss_nil) ss_nil)) ss_nil) ss_nil)) ss_nil)) (ss_cons (sv_ret ev_bl) ss_nil)
theorem v__law_crossed_right (T : Txt K mg) : DefV P w K mg base "_law_crossed_right" 7 ["cords_so", "row_so", "meets"] f__law_crossed_right := (d__law_crossed_right T).v fun _ _ _ _ _ _ us hl => match us, hl with | [_, _, _], _ => rfl
theorem sc__law_is_row_right : FnScope N__law_is_row_right ["cords_so", "row_so"] (defScope s__law_is_row_right) := ⟨rfl, rfl, rfl, by decide +kernel, rfl, by decide +kernel, by decide +kernel⟩
theorem d__law_is_row_right (T : Txt K mg) : DefS P w K mg base "_law_is_row_right" s__law_is_row_right 8 ["cords_so", "row_so"] f__law_is_row_right :=
  defs (N := N__law_is_row_right) (b := m__law_is_row_right) T.f__law_is_row_right sc__law_is_row_right fun f cdv A outer s H E hg hr =>
    ss_cons (sv_par (i := 2) (j := 3) rfl sc__law_is_row_right.nd (av_cons (ev_call (v__law_ways T) hg (hr.mono (by decide)) rfl (av_cons (ev_var 0) (av_cons (ev_var 1) av_nil)) (len_cons (len_cons (fun _ _ _ _ => len_nil)))) (av_cons (ev_sub (u1 hr) (ev_call (v__law_walk T) hg (hr.mono (by decide)) rfl (av_cons (ev_var 0) (av_cons (ev_var 1) av_nil)) (len_cons (len_cons (fun _ _ _ _ => len_nil)))) ev_int (by intro _ _; rfl) (by intro _ _; rfl)) av_nil))) (ss_cons (sv_if (bv_not (bv_val (ev_call (v__law_like T) hg (hr.mono (by decide)) rfl (av_cons (ev_call (v_order_on_way T) hg (hr.mono (by decide)) rfl (av_cons (ev_var 0) (av_cons (ev_var 1) av_nil)) (len_cons (len_cons (fun _ _ _ _ => len_nil)))) (av_cons (ev_callT call_tupleV rfl T.n_tuple rfl (av_cons (ev_var 2) av_nil)) av_nil)) (len_cons (len_cons (fun _ _ _ _ => len_nil)))))) (ss_cons (sv_ret ev_bl) ss_nil) ss_nil) (ss_cons (sv_if (bv_not (bv_val (ev_call (v__law_like T) hg (hr.mono (by decide)) rfl (av_cons (ev_call (v_order_of T) hg (hr.mono (by decide)) rfl (av_cons (ev_var 0) (av_cons (ev_var 1) av_nil)) (len_cons (len_cons (fun _ _ _ _ => len_nil)))) (av_cons (ev_sub (u1 hr) (ev_var 2) (ev_neg ev_int) (by intro _ _; rfl) (by intro _ _; rfl)) av_nil)) (len_cons (len_cons (fun _ _ _ _ => len_nil)))))) (ss_cons (sv_ret ev_bl) ss_nil) ss_nil) (ss_cons (sv_for PassesOwn.never rfl (iv_range1 (av_cons (ev_var 0) av_nil) T.n_range) (gv_name (i := 4) sc__law_is_row_right.nd) (ss_cons (sv_set (i := 5) sc__law_is_row_right.nd (ev_callT call_tupleV rfl T.n_tuple rfl (av_cons (ev_lc (own := [("line", 6)]) rfl sc__law_is_row_right.nd (iv_seq (ev_var 2)) (by show BlkOk N__law_is_row_right (defScope s__law_is_row_right) _ _; exact ⟨rfl, by decide +kernel, by decide +kernel, by decide +kernel, by decide +kernel⟩) (fun _ _ _ _ _ => pg_name (i := 6) sc__law_is_row_right.nd rfl (by first | exact Or.inl rfl | exact Or.inr rfl)) (tgt_name (i := 6) (by decide)) (fun _ _ _ _ _ => ts_nil) (fun _ _ _ _ _ => ev_index (ev_var 6) (ev_var 4))) av_nil))) (ss_cons (sv_if (bv_not (bv_val (ev_call (v__law_like T) hg (hr.mono (by decide)) rfl (av_cons (ev_call (v_way_of T) hg (hr.mono (by decide)) rfl (av_cons (ev_var 0) (av_cons (ev_var 1) (av_cons (ev_var 4) av_nil))) (len_cons (len_cons (len_cons (fun _ _ _ _ => len_nil))))) (av_cons (ev_var 5) av_nil)) (len_cons (len_cons (fun _ _ _ _ => len_nil)))))) (ss_cons (sv_ret ev_bl) ss_nil) ss_nil) ss_nil))) (ss_cons (sv_set (i := 5) sc__law_is_row_right.nd (ev_callT call_tupleV rfl T.n_tuple rfl (av_cons (ev_lc (own := [("over", 7), ("under", 8), ("sign", 9)]) rfl sc__law_is_row_right.nd (iv_seq (ev_var 3)) (by show BlkOk N__law_is_row_right (defScope s__law_is_row_right) _ _; exact ⟨rfl, by decide +kernel, by decide +kernel, by decide +kernel, by decide +kernel⟩) (fun _ _ _ _ _ => pg_tup rfl (pgs_cons (pg_name (i := 7) sc__law_is_row_right.nd rfl (by first | exact Or.inl rfl | exact Or.inr rfl)) (pgs_cons (pg_name (i := 8) sc__law_is_row_right.nd rfl (by first | exact Or.inl rfl | exact Or.inr rfl)) (pgs_cons (pg_name (i := 9) sc__law_is_row_right.nd rfl (by first | exact Or.inl rfl | exact Or.inr rfl)) pgs_nil)))) (tgt_tup (tgts_cons (tgt_name (i := 7) (by decide)) (tgts_cons (tgt_name (i := 8) (by decide)) (tgts_cons (tgt_name (i := 9) (by decide)) tgts_nil))) (gl_cons (gl_cons (gl_cons gl_nil)))) (fun _ _ _ _ _ => ts_nil) (fun _ _ _ _ _ => ev_tup (av_cons (ev_var 7) (av_cons (ev_var 8) (av_cons (ev_if (bv_cmp (op_eqV (u64 hr)) (ev_var 9) ev_int (nomark _)) ev_str ev_str) av_nil))))) av_nil))) (ss_cons (sv_ret (ev_and (ev_call (v__law_like T) hg (hr.mono (by decide)) rfl (av_cons (ev_call (v_met T) hg (hr.mono (by decide)) rfl (av_cons (ev_var 0) (av_cons (ev_var 1) av_nil)) (len_cons (len_cons (fun _ _ _ _ => len_nil)))) (av_cons (ev_var 5) av_nil)) (len_cons (len_cons (fun _ _ _ _ => len_nil)))) (ev_one (ev_call (v__law_crossed_right T) hg (hr.mono (by decide)) rfl (av_cons (ev_var 0) (av_cons (ev_var 1) (av_cons (ev_var 3) av_nil))) (len_cons (len_cons (len_cons (fun _ _ _ _ => len_nil)))))))) ss_nil)))))
theorem v__law_is_row_right (T : Txt K mg) : DefV P w K mg base "_law_is_row_right" 8 ["cords_so", "row_so"] f__law_is_row_right := (d__law_is_row_right T).v fun _ _ _ _ _ _ us hl => match us, hl with | [_, _], _ => rfl
theorem sc__law_mirror : FnScope N__law_mirror ["cords_so", "row_so"] (defScope s__law_mirror) := ⟨rfl, rfl, rfl, by decide +kernel, rfl, by decide +kernel, by decide +kernel⟩
theorem d__law_mirror (T : Txt K mg) : DefS P w K mg base "_law_mirror" s__law_mirror 1 ["cords_so", "row_so"] f__law_mirror :=
  defs (N := N__law_mirror) (b := m__law_mirror) T.f__law_mirror sc__law_mirror fun f cdv A outer s H E hg hr =>
    ss_cons (sv_ret (ev_callT call_tupleV rfl T.n_tuple rfl (av_cons (ev_lc (own := [("side", 2), ("place", 3)]) rfl sc__law_mirror.nd (iv_seq (ev_var 1)) (by show BlkOk N__law_mirror (defScope s__law_mirror) _ _; exact ⟨rfl, by decide +kernel, by decide +kernel, by decide +kernel, by decide +kernel⟩) (fun _ _ _ _ _ => pg_tup rfl (pgs_cons (pg_name (i := 2) sc__law_mirror.nd rfl (by first | exact Or.inl rfl | exact Or.inr rfl)) (pgs_cons (pg_name (i := 3) sc__law_mirror.nd rfl (by first | exact Or.inl rfl | exact Or.inr rfl)) pgs_nil))) (tgt_tup (tgts_cons (tgt_name (i := 2) (by decide)) (tgts_cons (tgt_name (i := 3) (by decide)) tgts_nil)) (gl_cons (gl_cons gl_nil))) (fun _ _ _ _ _ => ts_nil) (fun _ _ _ _ _ => ev_tup (av_cons (ev_if (bv_cmp (op_eqV (u64 hr)) (ev_var 2) ev_str (nomark _)) ev_str ev_str) (av_cons (ev_bin op_subV (ev_bin op_subV (ev_var 0) ev_int) (ev_var 3)) av_nil)))) av_nil))) ss_nil
theorem v__law_mirror (T : Txt K mg) : DefV P w K mg base "_law_mirror" 1 ["cords_so", "row_so"] f__law_mirror := (d__law_mirror T).v fun _ _ _ _ _ _ us hl => match us, hl with | [_, _], _ => rfl
theorem sc__law_over : FnScope N__law_over ["row_so"] (defScope s__law_over) := ⟨rfl, rfl, rfl, by decide +kernel, rfl, by decide +kernel, by decide +kernel⟩
theorem d__law_over (T : Txt K mg) : DefS P w K mg base "_law_over" s__law_over 1 ["row_so"] f__law_over :=
  defs (N := N__law_over) (b := m__law_over) T.f__law_over sc__law_over fun f cdv A outer s H E hg hr =>
    ss_cons (sv_ret (ev_callT call_tupleV rfl T.n_tuple rfl (av_cons (ev_lc (own := [("side", 1), ("place", 2)]) rfl sc__law_over.nd (iv_seq (ev_var 0)) (by show BlkOk N__law_over (defScope s__law_over) _ _; exact ⟨rfl, by decide +kernel, by decide +kernel, by decide +kernel, by decide +kernel⟩) (fun _ _ _ _ _ => pg_tup rfl (pgs_cons (pg_name (i := 1) sc__law_over.nd rfl (by first | exact Or.inl rfl | exact Or.inr rfl)) (pgs_cons (pg_name (i := 2) sc__law_over.nd rfl (by first | exact Or.inl rfl | exact Or.inr rfl)) pgs_nil))) (tgt_tup (tgts_cons (tgt_name (i := 1) (by decide)) (tgts_cons (tgt_name (i := 2) (by decide)) tgts_nil)) (gl_cons (gl_cons gl_nil))) (fun _ _ _ _ _ => ts_nil) (fun _ _ _ _ _ => ev_tup (av_cons (ev_if (bv_cmp (op_eqV (u64 hr)) (ev_var 1) ev_str (nomark _)) ev_str ev_str) (av_cons (ev_var 2) av_nil)))) av_nil))) ss_nil
theorem v__law_over (T : Txt K mg) : DefV P w K mg base "_law_over" 1 ["row_so"] f__law_over := (d__law_over T).v fun _ _ _ _ _ _ us hl => match us, hl with | [_], _ => rfl
theorem sc__law_other_sides : FnScope N__law_other_sides ["side"] (defScope s__law_other_sides) := ⟨rfl, rfl, rfl, by decide +kernel, rfl, by decide +kernel, by decide +kernel⟩
theorem d__law_other_sides (T : Txt K mg) : DefS P w K mg base "_law_other_sides" s__law_other_sides 1 ["side"] f__law_other_sides :=
  defs (N := N__law_other_sides) (b := m__law_other_sides) T.f__law_other_sides sc__law_other_sides fun f cdv A outer s H E hg hr =>
    ss_cons (sv_ret (ev_if (bv_cmp (op_eqV (u64 hr)) (ev_var 0) ev_str (nomark _)) ev_str ev_str)) ss_nil
theorem v__law_other_sides (T : Txt K mg) : DefV P w K mg base "_law_other_sides" 1 ["side"] f__law_other_sides := (d__law_other_sides T).v fun _ _ _ _ _ _ us hl => match us, hl with | [_], _ => rfl
theorem sc__law_made_right : FnScope N__law_made_right ["cords_so", "row_so"] (defScope s__law_made_right) := ⟨rfl, rfl, rfl, by decide +kernel, rfl, by decide +kernel, by decide +kernel⟩
theorem d__law_made_right (T : Txt K mg) : DefS P w K mg base "_law_made_right" s__law_made_right 7 ["cords_so", "row_so"] f__law_made_right :=
  defs (N := N__law_made_right) (b := m__law_made_right) T.f__law_made_right sc__law_made_right fun f cdv A outer s H E hg hr =>
    ss_cons (sv_par3 (i := 2) (j := 3) (l := 4) rfl sc__law_made_right.nd (av_cons (ev_call (v__law_back T) hg (hr.mono (by decide)) rfl (av_cons (ev_var 1) av_nil) (len_cons (fun _ _ _ _ => len_nil))) (av_cons (ev_call (v__law_mirror T) hg (hr.mono (by decide)) rfl (av_cons (ev_var 0) (av_cons (ev_var 1) av_nil)) (len_cons (len_cons (fun _ _ _ _ => len_nil)))) (av_cons (ev_call (v__law_over T) hg (hr.mono (by decide)) rfl (av_cons (ev_var 1) av_nil) (len_cons (fun _ _ _ _ => len_nil))) av_nil)))) (ss_cons (sv_set (i := 5) sc__law_made_right.nd (ev_lst (av_cons (ev_call (v_back_row T) hg (hr.mono (by decide)) rfl (av_cons (ev_var 0) (av_cons (ev_var 1) av_nil)) (len_cons (len_cons (fun _ _ _ _ => len_nil)))) (av_cons (ev_call (v_mirrored T) hg (hr.mono (by decide)) rfl (av_cons (ev_var 0) (av_cons (ev_var 1) av_nil)) (len_cons (len_cons (fun _ _ _ _ => len_nil)))) (av_cons (ev_call (v_turned_over T) hg (hr.mono (by decide)) rfl (av_cons (ev_var 0) (av_cons (ev_var 1) av_nil)) (len_cons (len_cons (fun _ _ _ _ => len_nil)))) av_nil))))) (ss_cons (sv_if (bv_not (bv_val (ev_call (v__law_like T) hg (hr.mono (by decide)) rfl (av_cons (ev_var 5) (av_cons (ev_lst (av_cons (ev_var 2) (av_cons (ev_var 3) (av_cons (ev_var 4) av_nil)))) av_nil)) (len_cons (len_cons (fun _ _ _ _ => len_nil)))))) (ss_cons (sv_ret ev_bl) ss_nil) ss_nil) (ss_cons (sv_set (i := 6) sc__law_made_right.nd (ev_sub (u1 hr) (ev_call (v__law_ways T) hg (hr.mono (by decide)) rfl (av_cons (ev_var 0) (av_cons (ev_var 1) av_nil)) (len_cons (len_cons (fun _ _ _ _ => len_nil)))) (ev_neg ev_int) (by intro _ _; rfl) (by intro _ _; rfl))) (ss_cons (sv_set (i := 7) sc__law_made_right.nd (ev_callT call_tupleV rfl T.n_tuple rfl (av_cons (ev_lc (own := [("near", 8)]) rfl sc__law_made_right.nd (iv_range1 (av_cons (ev_var 0) av_nil) T.n_range) (by show BlkOk N__law_made_right (defScope s__law_made_right) _ _; exact ⟨rfl, by decide +kernel, by decide +kernel, by decide +kernel, by decide +kernel⟩) (fun _ _ _ _ _ => pg_name (i := 8) sc__law_made_right.nd rfl (by first | exact Or.inl rfl | exact Or.inr rfl)) (tgt_name (i := 8) (by decide)) (fun _ _ _ _ _ => ts_nil) (fun _ _ _ _ _ => ev_index (ev_var 6) (ev_var 8))) av_nil))) (ss_cons (sv_set (i := 9) sc__law_made_right.nd (ev_callT call_tupleV rfl T.n_tuple rfl (av_cons (ev_lc (own := [("near", 8)]) rfl sc__law_made_right.nd (iv_range1 (av_cons (ev_var 0) av_nil) T.n_range) (by show BlkOk N__law_made_right (defScope s__law_made_right) _ _; exact ⟨rfl, by decide +kernel, by decide +kernel, by decide +kernel, by decide +kernel⟩) (fun _ _ _ _ _ => pg_name (i := 8) sc__law_made_right.nd rfl (by first | exact Or.inl rfl | exact Or.inr rfl)) (tgt_name (i := 8) (by decide)) (fun _ _ _ _ _ => ts_nil) (fun _ _ _ _ _ => ev_bin op_subV (ev_bin op_subV (ev_var 0) ev_int) (ev_sub (u1 hr) (ev_var 6) (ev_bin op_subV (ev_bin op_subV (ev_var 0) ev_int) (ev_var 8)) (by intro _ _; rfl) (by intro _ _; rfl)))) av_nil))) (ss_cons (sv_if (bv_not (bv_val (ev_call (v__law_like T) hg (hr.mono (by decide)) rfl (av_cons (ev_lc (own := [("one", 10)]) rfl sc__law_made_right.nd (iv_seq (ev_var 5)) (by show BlkOk N__law_made_right (defScope s__law_made_right) _ _; exact ⟨rfl, by decide +kernel, by decide +kernel, by decide +kernel, by decide +kernel⟩) (fun _ _ _ _ _ => pg_name (i := 10) sc__law_made_right.nd rfl (by first | exact Or.inl rfl | exact Or.inr rfl)) (tgt_name (i := 10) (by decide)) (fun _ _ _ _ _ => ts_nil) (fun _ _ _ _ _ => ev_call (v_order_of T) hg (hr.mono (by decide)) rfl (av_cons (ev_var 0) (av_cons (ev_var 10) av_nil)) (len_cons (len_cons (fun _ _ _ _ => len_nil))))) (av_cons (ev_lst (av_cons (ev_var 7) (av_cons (ev_var 9) (av_cons (ev_var 6) av_nil)))) av_nil)) (len_cons (len_cons (fun _ _ _ _ => len_nil)))))) (ss_cons (sv_ret ev_bl) ss_nil) ss_nil) (ss_cons (sv_set (i := 11) sc__law_made_right.nd (ev_call (v_met T) hg (hr.mono (by decide)) rfl (av_cons (ev_var 0) (av_cons (ev_var 1) av_nil)) (len_cons (len_cons (fun _ _ _ _ => len_nil))))) (ss_cons (sv_set (i := 12) sc__law_made_right.nd (ev_bin op_subV (ev_var 0) ev_int)) (ss_cons (sv_set (i := 13) sc__law_made_right.nd (ev_callT call_tupleV rfl T.n_tuple rfl (av_cons (ev_lc (own := [("one", 10)]) rfl sc__law_made_right.nd (iv_seq (ev_var 11)) (by show BlkOk N__law_made_right (defScope s__law_made_right) _ _; exact ⟨rfl, by decide +kernel, by decide +kernel, by decide +kernel, by decide +kernel⟩) (fun _ _ _ _ _ => pg_name (i := 10) sc__law_made_right.nd rfl (by first | exact Or.inl rfl | exact Or.inr rfl)) (tgt_name (i := 10) (by decide)) (fun _ _ _ _ _ => ts_nil) (fun _ _ _ _ _ => ev_tup (av_cons (ev_bin op_subV (ev_var 12) (ev_sub (u1 hr) (ev_var 10) ev_int (by intro _ _; rfl) (by intro _ _; rfl))) (av_cons (ev_bin op_subV (ev_var 12) (ev_sub (u1 hr) (ev_var 10) ev_int (by intro _ _; rfl) (by intro _ _; rfl))) (av_cons (ev_call (v__law_other_sides T) hg (hr.mono (by decide)) rfl (av_cons (ev_sub (u1 hr) (ev_var 10) ev_int (by intro _ _; rfl) (by intro _ _; rfl)) av_nil) (len_cons (fun _ _ _ _ => len_nil))) av_nil))))) av_nil))) (ss_cons (sv_set (i := 14) sc__law_made_right.nd (ev_callT call_tupleV rfl T.n_tuple rfl (av_cons (ev_lc (own := [("one", 10)]) rfl sc__law_made_right.nd (iv_seq (ev_var 11)) (by show BlkOk N__law_made_right (defScope s__law_made_right) _ _; exact ⟨rfl, by decide +kernel, by decide +kernel, by decide +kernel, by decide +kernel⟩) (fun _ _ _ _ _ => pg_name (i := 10) sc__law_made_right.nd rfl (by first | exact Or.inl rfl | exact Or.inr rfl)) (tgt_name (i := 10) (by decide)) (fun _ _ _ _ _ => ts_nil) (fun _ _ _ _ _ => ev_tup (av_cons (ev_sub (u1 hr) (ev_var 10) ev_int (by intro _ _; rfl) (by intro _ _; rfl)) (av_cons (ev_sub (u1 hr) (ev_var 10) ev_int (by intro _ _; rfl) (by intro _ _; rfl)) (av_cons (ev_call (v__law_other_sides T) hg (hr.mono (by decide)) rfl (av_cons (ev_sub (u1 hr) (ev_var 10) ev_int (by intro _ _; rfl) (by intro _ _; rfl)) av_nil) (len_cons (fun _ _ _ _ => len_nil))) av_nil))))) av_nil))) (ss_cons (sv_ret (ev_call (v__law_like T) hg (hr.mono (by decide)) rfl (av_cons (ev_lst (av_cons (ev_call (v_met T) hg (hr.mono (by decide)) rfl (av_cons (ev_var 0) (av_cons (ev_sub (u1 hr) (ev_var 5) ev_int (by intro _ _; rfl) (by intro _ _; rfl)) av_nil)) (len_cons (len_cons (fun _ _ _ _ => len_nil)))) (av_cons (ev_call (v_met T) hg (hr.mono (by decide)) rfl (av_cons (ev_var 0) (av_cons (ev_sub (u1 hr) (ev_var 5) ev_int (by intro _ _; rfl) (by intro _ _; rfl)) av_nil)) (len_cons (len_cons (fun _ _ _ _ => len_nil)))) av_nil))) (av_cons (ev_lst (av_cons (ev_var 13) (av_cons (ev_var 14) av_nil))) av_nil)) (len_cons (len_cons (fun _ _ _ _ => len_nil))))) ss_nil)))))))))))
theorem v__law_made_right (T : Txt K mg) : DefV P w K mg base "_law_made_right" 7 ["cords_so", "row_so"] f__law_made_right := (d__law_made_right T).v fun _ _ _ _ _ _ us hl => match us, hl with | [_, _], _ => rfl
theorem tk__law_twice_right {X : Cx} (T : Txt X.K X.mg) : TblOk X 6 t__law_twice_right := tblC (a := "back_row") (ps := ["cords", "row"]) ((v_back_row T).mono (by decide)) (tblC (a := "mirrored") (ps := ["cords", "row"]) ((v_mirrored T).mono (by decide)) (tblC (a := "turned_over") (ps := ["cords", "row"]) ((v_turned_over T).mono (by decide)) (tblN)))
theorem sc__law_twice_right : FnScope N__law_twice_right ["cords_so", "row_so"] (defScope s__law_twice_right) := ⟨rfl, rfl, rfl, by decide +kernel, rfl, by decide +kernel, by decide +kernel⟩
theorem d__law_twice_right (T : Txt K mg) : DefS P w K mg base "_law_twice_right" s__law_twice_right 7 ["cords_so", "row_so"] f__law_twice_right :=
  defs (N := N__law_twice_right) (b := m__law_twice_right) T.f__law_twice_right sc__law_twice_right fun f cdv A outer s H E hg hr =>
    ss_cons (sv_set (i := 2) sc__law_twice_right.nd (ev_lst (av_cons (ev_def T.f_back_row) (av_cons (ev_def T.f_mirrored) (av_cons (ev_def T.f_turned_over) av_nil))))) (ss_cons (sv_for PassesOwn.never rfl (iv_seq (ev_var 2)) (gv_name (i := 3) sc__law_twice_right.nd) (ss_cons (sv_if (bv_not (bv_val (ev_call (v__law_like T) hg (hr.mono (by decide)) rfl (av_cons (ev_callL (tk__law_twice_right T) hg (hr.mono (by decide)) (av_cons (ev_var 0) (av_cons (ev_callL (tk__law_twice_right T) hg (hr.mono (by decide)) (av_cons (ev_var 0) (av_cons (ev_var 1) av_nil))) av_nil))) (av_cons (ev_var 1) av_nil)) (len_cons (len_cons (fun _ _ _ _ => len_nil)))))) (ss_cons (sv_ret ev_bl) ss_nil) ss_nil) (ss_cons (sv_for PassesOwn.never rfl (iv_seq (ev_var 2)) (gv_name (i := 4) sc__law_twice_right.nd) (ss_cons (sv_if (bv_not (bv_val (ev_call (v__law_like T) hg (hr.mono (by decide)) rfl (av_cons (ev_callL (tk__law_twice_right T) hg (hr.mono (by decide)) (av_cons (ev_var 0) (av_cons (ev_callL (tk__law_twice_right T) hg (hr.mono (by decide)) (av_cons (ev_var 0) (av_cons (ev_var 1) av_nil))) av_nil))) (av_cons (ev_callL (tk__law_twice_right T) hg (hr.mono (by decide)) (av_cons (ev_var 0) (av_cons (ev_callL (tk__law_twice_right T) hg (hr.mono (by decide)) (av_cons (ev_var 0) (av_cons (ev_var 1) av_nil))) av_nil))) av_nil)) (len_cons (len_cons (fun _ _ _ _ => len_nil)))))) (ss_cons (sv_ret ev_bl) ss_nil) ss_nil) ss_nil)) ss_nil))) (ss_cons (sv_ret ev_bl) ss_nil))
theorem v__law_twice_right (T : Txt K mg) : DefV P w K mg base "_law_twice_right" 7 ["cords_so", "row_so"] f__law_twice_right := (d__law_twice_right T).v fun _ _ _ _ _ _ us hl => match us, hl with | [_, _], _ => rfl
theorem sc__law_back_right : FnScope N__law_back_right ["cords_so", "row_so"] (defScope s__law_back_right) := ⟨rfl, rfl, rfl, by decide +kernel, rfl, by decide +kernel, by decide +kernel⟩
theorem d__law_back_right (T : Txt K mg) : DefS P w K mg base "_law_back_right" s__law_back_right 7 ["cords_so", "row_so"] f__law_back_right :=
  defs (N := N__law_back_right) (b := m__law_back_right) T.f__law_back_right sc__law_back_right fun f cdv A outer s H E hg hr =>
    ss_cons (sv_if (bv_cmp op_gtV (ev_callB call_lenV rfl T.n_len rfl (av_cons (ev_var 1) av_nil)) ev_int (nomark _)) (ss_cons (sv_ret ev_bl) ss_nil) ss_nil) (ss_cons (sv_ret (ev_call (v__law_like T) hg (hr.mono (by decide)) rfl (av_cons (ev_call (v_order_of T) hg (hr.mono (by decide)) rfl (av_cons (ev_var 0) (av_cons (ev_bin op_addV (ev_var 1) (ev_call (v_back_row T) hg (hr.mono (by decide)) rfl (av_cons (ev_var 0) (av_cons (ev_var 1) av_nil)) (len_cons (len_cons (fun _ _ _ _ => len_nil))))) av_nil)) (len_cons (len_cons (fun _ _ _ _ => len_nil)))) (av_cons (ev_tupR (rv_1 (ev_var 0) T.n_range) T.n_tuple) av_nil)) (len_cons (len_cons (fun _ _ _ _ => len_nil))))) ss_nil)
theorem v__law_back_right (T : Txt K mg) : DefV P w K mg base "_law_back_right" 7 ["cords_so", "row_so"] f__law_back_right := (d__law_back_right T).v fun _ _ _ _ _ _ us hl => match us, hl with | [_, _], _ => rfl
theorem sc__law_names_right : FnScope N__law_names_right ["cords_so", "row_so"] (defScope s__law_names_right) := ⟨rfl, rfl, rfl, by decide +kernel, rfl, by decide +kernel, by decide +kernel⟩
theorem d__law_names_right (T : Txt K mg) : DefS P w K mg base "_law_names_right" s__law_names_right 7 ["cords_so", "row_so"] f__law_names_right :=
  defs (N := N__law_names_right) (b := m__law_names_right) T.f__law_names_right sc__law_names_right fun f cdv A outer s H E hg hr =>
    ss_cons (sv_set (i := 2) sc__law_names_right.nd (ev_lst (av_cons (ev_callK (k_order_of_1_0 T) hg (hr.mono (by decide)) (kv_cons (ev_var 1) (kv_cons (ev_var 0) kv_nil)) (len_cons (len_cons (fun _ _ _ _ => len_nil)))) (av_cons (ev_callK (k_order_on_way_1_0 T) hg (hr.mono (by decide)) (kv_cons (ev_var 1) (kv_cons (ev_var 0) kv_nil)) (len_cons (len_cons (fun _ _ _ _ => len_nil)))) av_nil)))) (ss_cons (sv_set (i := 2) sc__law_names_right.nd (ev_bin op_addV (ev_var 2) (ev_lst (av_cons (ev_callK (k_way_of_2_1_0 T) hg (hr.mono (by decide)) (kv_cons ev_int (kv_cons (ev_var 1) (kv_cons (ev_var 0) kv_nil))) (len_cons (len_cons (len_cons (fun _ _ _ _ => len_nil))))) (av_cons (ev_callK (k_met_1_0 T) hg (hr.mono (by decide)) (kv_cons (ev_var 1) (kv_cons (ev_var 0) kv_nil)) (len_cons (len_cons (fun _ _ _ _ => len_nil)))) av_nil))))) (ss_cons (sv_set (i := 2) sc__law_names_right.nd (ev_bin op_addV (ev_var 2) (ev_lst (av_cons (ev_callK (k_back_row_1_0 T) hg (hr.mono (by decide)) (kv_cons (ev_var 1) (kv_cons (ev_var 0) kv_nil)) (len_cons (len_cons (fun _ _ _ _ => len_nil)))) (av_cons (ev_callK (k_mirrored_1_0 T) hg (hr.mono (by decide)) (kv_cons (ev_var 1) (kv_cons (ev_var 0) kv_nil)) (len_cons (len_cons (fun _ _ _ _ => len_nil)))) av_nil))))) (ss_cons (sv_set (i := 2) sc__law_names_right.nd (ev_bin op_addV (ev_var 2) (ev_lst (av_cons (ev_callK (k_turned_over_1_0 T) hg (hr.mono (by decide)) (kv_cons (ev_var 1) (kv_cons (ev_var 0) kv_nil)) (len_cons (len_cons (fun _ _ _ _ => len_nil)))) (av_cons (ev_callK (k_crossed_3_2_1_0 T) hg (hr.mono (by decide)) (kv_cons ev_int (kv_cons ev_int (kv_cons (ev_var 1) (kv_cons (ev_var 0) kv_nil)))) (len_cons (len_cons (len_cons (len_cons (fun _ _ _ _ => len_nil)))))) av_nil))))) (ss_cons (sv_set (i := 3) sc__law_names_right.nd (ev_lst (av_cons (ev_call (v_order_of T) hg (hr.mono (by decide)) rfl (av_cons (ev_var 0) (av_cons (ev_var 1) av_nil)) (len_cons (len_cons (fun _ _ _ _ => len_nil)))) (av_cons (ev_call (v_order_on_way T) hg (hr.mono (by decide)) rfl (av_cons (ev_var 0) (av_cons (ev_var 1) av_nil)) (len_cons (len_cons (fun _ _ _ _ => len_nil)))) (av_cons (ev_call (v_way_of T) hg (hr.mono (by decide)) rfl (av_cons (ev_var 0) (av_cons (ev_var 1) (av_cons ev_int av_nil))) (len_cons (len_cons (len_cons (fun _ _ _ _ => len_nil))))) av_nil))))) (ss_cons (sv_set (i := 3) sc__law_names_right.nd (ev_bin op_addV (ev_var 3) (ev_lst (av_cons (ev_call (v_met T) hg (hr.mono (by decide)) rfl (av_cons (ev_var 0) (av_cons (ev_var 1) av_nil)) (len_cons (len_cons (fun _ _ _ _ => len_nil)))) (av_cons (ev_call (v_back_row T) hg (hr.mono (by decide)) rfl (av_cons (ev_var 0) (av_cons (ev_var 1) av_nil)) (len_cons (len_cons (fun _ _ _ _ => len_nil)))) (av_cons (ev_call (v_mirrored T) hg (hr.mono (by decide)) rfl (av_cons (ev_var 0) (av_cons (ev_var 1) av_nil)) (len_cons (len_cons (fun _ _ _ _ => len_nil)))) av_nil)))))) (ss_cons (sv_ret (ev_call (v__law_like T) hg (hr.mono (by decide)) rfl (av_cons (ev_var 2) (av_cons (ev_bin op_addV (ev_var 3) (ev_lst (av_cons (ev_call (v_turned_over T) hg (hr.mono (by decide)) rfl (av_cons (ev_var 0) (av_cons (ev_var 1) av_nil)) (len_cons (len_cons (fun _ _ _ _ => len_nil)))) (av_cons (ev_call (v_crossed T) hg (hr.mono (by decide)) rfl (av_cons (ev_var 0) (av_cons (ev_var 1) (av_cons ev_int (av_cons ev_int av_nil)))) (len_cons (len_cons (len_cons (len_cons (fun _ _ _ _ => len_nil)))))) av_nil)))) av_nil)) (len_cons (len_cons (fun _ _ _ _ => len_nil))))) ss_nil))))))
theorem v__law_names_right (T : Txt K mg) : DefV P w K mg base "_law_names_right" 7 ["cords_so", "row_so"] f__law_names_right := (d__law_names_right T).v fun _ _ _ _ _ _ us hl => match us, hl with | [_, _], _ => rfl
theorem sc_law : FnScope N_law ["script"] (defScope s_law) := ⟨rfl, rfl, rfl, by decide +kernel, rfl, by decide +kernel, by decide +kernel⟩
theorem d_law (T : Txt K mg) : DefS P w K mg base "law" s_law 9 ["script"] f_law :=
  defs (N := N_law) (b := m_law) T.f_law sc_law fun f cdv A outer s H E hg hr =>
    ss_cons (sv_set (i := 1) sc_law.nd (ev_call (v__law_begun T) hg (hr.mono (by decide)) rfl (av_cons (ev_var 0) av_nil) (len_cons (fun _ _ _ _ => len_nil)))) (ss_cons (sv_set (i := 2) sc_law.nd (ev_lst av_nil)) (ss_cons (sv_for PassesOwn.never rfl (iv_range1 (av_cons ev_int av_nil) T.n_range) (gv_name (i := 3) sc_law.nd) (ss_cons (sv_set (i := 4) sc_law.nd (ev_bin op_addV ev_int (ev_call (v__law_draw T) hg (hr.mono (by decide)) rfl (av_cons (ev_var 1) (av_cons ev_int av_nil)) (len_cons (len_cons (fun _ _ _ _ => len_nil)))))) (ss_cons (sv_set (i := 5) sc_law.nd (ev_call (v__law_row T) hg (hr.mono (by decide)) rfl (av_cons (ev_var 1) (av_cons (ev_var 4) (av_cons ev_int av_nil))) (len_cons (len_cons (len_cons (fun _ _ _ _ => len_nil)))))) (ss_cons (sv_if (bv_cmp (op_eqV (u64 hr)) (ev_call (v__law_draw T) hg (hr.mono (by decide)) rfl (av_cons (ev_var 1) (av_cons ev_int av_nil)) (len_cons (len_cons (fun _ _ _ _ => len_nil)))) ev_int (nomark _)) (ss_cons (sv_set (i := 5) sc_law.nd (ev_slice (ev_bin op_mulT (ev_var 5) ev_int) ov_none (ov_some ev_int))) ss_nil) ss_nil) (ss_cons (sv_expr (ev_append (ev_var 2) (ev_tup (av_cons (ev_var 4) (av_cons (ev_var 5) av_nil))))) ss_nil))))) (ss_cons (sv_for PassesOwn.never rfl (iv_seq (ev_bin op_addV (ev_var 2) (ev_slice (ev_var 2) ov_none (ov_some ev_int)))) (gv_tup rfl (gs_cons (gv_name (i := 4) sc_law.nd) (gs_cons (gv_name (i := 5) sc_law.nd) gs_nil)) (gl_cons (gl_cons gl_nil))) (ss_cons (sv_if (bv_w (wv_or (bv_not (bv_val (ev_call (v__law_is_row_right T) hg (hr.mono (by decide)) rfl (av_cons (ev_var 4) (av_cons (ev_var 5) av_nil)) (len_cons (len_cons (fun _ _ _ _ => len_nil)))))) (wv_or1 (bv_not (bv_val (ev_call (v__law_made_right T) hg (hr.mono (by decide)) rfl (av_cons (ev_var 4) (av_cons (ev_var 5) av_nil)) (len_cons (len_cons (fun _ _ _ _ => len_nil))))))))) (ss_cons (sv_ret ev_bl) ss_nil) ss_nil) (ss_cons (sv_if (bv_w (wv_or (bv_not (bv_val (ev_call (v__law_twice_right T) hg (hr.mono (by decide)) rfl (av_cons (ev_var 4) (av_cons (ev_var 5) av_nil)) (len_cons (len_cons (fun _ _ _ _ => len_nil)))))) (wv_or1 (bv_not (bv_val (ev_call (v__law_back_right T) hg (hr.mono (by decide)) rfl (av_cons (ev_var 4) (av_cons (ev_var 5) av_nil)) (len_cons (len_cons (fun _ _ _ _ => len_nil))))))))) (ss_cons (sv_ret ev_bl) ss_nil) ss_nil) ss_nil))) (ss_cons (sv_ret (ev_call (v__law_names_right T) hg (hr.mono (by decide)) rfl (av_cons (ev_sub (u1 hr) (ev_sub (u1 hr) (ev_var 2) ev_int (by intro _ _; rfl) (by intro _ _; rfl)) ev_int (by intro _ _; rfl) (by intro _ _; rfl)) (av_cons (ev_sub (u1 hr) (ev_sub (u1 hr) (ev_var 2) ev_int (by intro _ _; rfl) (by intro _ _; rfl)) ev_int (by intro _ _; rfl) (by intro _ _; rfl)) av_nil)) (len_cons (len_cons (fun _ _ _ _ => len_nil))))) ss_nil))))
theorem v_law (T : Txt K mg) : DefV P w K mg base "law" 9 ["script"] f_law := (d_law T).v fun _ _ _ _ _ _ us hl => match us, hl with | [_], _ => rfl
end
end K01
namespace K01
open PySem PySem.Spec PyProof.Rows L2 Vm Pu
/-! ### the drawing -/
theorem idc_len (l : List Int) : (idc l).length = l.length := by simp [idc]
theorem idc_get {l : List Int} {j : Nat} (hj : j < l.length) : (idc l)[j]? = some (.int l[j]) := by simp [idc, List.getElem?_eq_getElem hj]
theorem in64_c {n : Int} (h1 : 0 ≤ n) (h2 : n ≤ 1000000) : in64 n = true := by
  unfold in64
  rw [Bool.and_eq_true, decide_eq_true_eq, decide_eq_true_eq]
  omega
theorem sp_mixed {c n : Int} {h : VH} (h1 : 0 ≤ n) (h2 : n ≤ 200000) : f__law_mixed [.int c, .int n] h = some (.int (mixF c n), h) := by
  have k1 : ∀ h : VH, dMulT (.int 2) (.int n) h = some (.int (2 * n), h) := fun h => Vm.o_mul (.inr (in64_c h1 (by omega)))
  have k2 : ∀ h : VH, dMulT (.int c) (.int (1 + 2 * n)) h = some (.int (c * (1 + 2 * n)), h) := fun h => Vm.o_mul (.inr (in64_c (by omega) (by omega)))
  have k3 : ∀ (x : Int) (h : VH), dMulT (.int x) (.int 48271) h = some (.int (x * 48271), h) := fun x h => Vm.o_mul (.inr (in64_c (by decide) (by decide)))
  have k4 : ∀ h : VH, dMulT (.int 7919) (.int n) h = some (.int (7919 * n), h) := fun h => Vm.o_mul (.inr (in64_c h1 (by omega)))
  have k5 : ∀ (x : Int) (h : VH), dMulT (.int x) (.int n) h = some (.int (x * n), h) := fun x h => Vm.o_mul (.inr (in64_c h1 (by omega)))
  have k5' : ∀ (h : VH), dMulT (.int 104729) (.int n) h = some (.int (104729 * n), h) := fun h => Vm.o_mul (.inr (in64_c h1 (by omega)))
  have k6 : ∀ (x : Int) (h : VH), dMulT (.int x) (.int 69621) h = some (.int (x * 69621), h) := fun x h => Vm.o_mul (.inr (in64_c (by decide) (by decide)))
  have m1 : ∀ (x : Int) (h : VH), dMod (.int x) (.int 2147483647) h = some (.int (x.fmod 2147483647), h) := fun x h => Vm.o_mod (by decide)
  have m2 : ∀ (x : Int) (h : VH), dMod (.int x) (.int 2147483629) h = some (.int (x.fmod 2147483629), h) := fun x h => Vm.o_mod (by decide)
  have f1 : ∀ (x : Int) (h : VH), dFdiv (.int x) (.int 7) h = some (.int (x.fdiv 7), h) := fun x h => Vm.o_fdiv (by decide) (by decide)
  unfold f__law_mixed m__law_mixed mixF
  simp only [Vm.bin1_ok, Vm.bin2_ok, Vm.un1_ok, Vm.if1_t, Vm.if1_f, Vm.cons1_ok, Vm.cons2_ok, Vm.fn1_ok, Vm.bt1_ok, Vm.bt2_ok, Vm.and1_t, Vm.and1_f, Vm.or1_t, Vm.or1_f, Vm.not1_ok, Vm.ma1_ok, Vm.ma2_t, Vm.ma2_f, Vm.mo1_ok, Vm.mo2_t, Vm.mo2_f, Vm.mn1_ok, Vm.mn2_ok, Vm.ex1_ok, Vm.rt1_ok, Vm.as1_ok, Vm.as2_ok, Vm.gc1_ok, Vm.pu1_ok, Vm.pu2_ok, Vm.pu3_ok, Vm.pu4_ok, Vm.ap1_ok, Vm.ap2_ok, Vm.ap3_ok, Vm.sl1_ok, Vm.sl2_ok, Vm.sl3_ok, Vm.fk1_ok, Vm.tr1_ok, Vm.lr1_ok, Vm.fo1_ok, Vm.lc1_ok, Vm.tn1_ok, Vm.ls1_ok, Vm.ls2_t, Vm.ls2_f, Vm.ls3_ok, Vm.ls4_ok, Vm.bind_some', Vm.gv_ok, Vm.r_var, Vm.r_c, Vm.r_bin, Vm.r_un, Vm.pick_t, Vm.pick_f, Vm.r_if, Vm.r_nil, Vm.r_cons, Vm.r_tup, Vm.r_lst, Vm.tupI_0, Vm.tupI_1, Vm.tupI_2, Vm.tupI_3, Vm.lstI_0, Vm.lstI_1, Vm.lstI_2, Vm.lstI_3, Vm.lstI_6, Vm.r_fn, Vm.blB_ok, Vm.r_bV, Vm.r_bT, Vm.r_bAnd, Vm.r_bOr, Vm.r_bNot, Vm.r_bYes, Vm.r_and, Vm.r_or, Vm.r_not, Vm.ch0_ok, Vm.ch2_ok, Vm.ch3_ok, Vm.ch4_ok, Vm.r_chain, Vm.t_non, Vm.t_bl, Vm.t_int, Vm.t_tup, Vm.o_add, Vm.o_sub, Vm.o_lt, Vm.o_le, Vm.o_gt, Vm.o_ge, Vm.o_eqI, Vm.o_eqS, Vm.o_neI, Vm.o_neS, Vm.o_neg, Vm.b_len_tup, Vm.b_len_rl, Vm.b_int, Vm.b_tup, Vm.isi_ii, Vm.isi_ib, Vm.isi_ss, Vm.isi_tt, Vm.i_tup0, Vm.i_tup1, Vm.i_tup2, Vm.sq_nx, Vm.sq_rt, Vm.sq_bk, Vm.sq_ct, Vm.r_seq, Vm.r_next, Vm.r_expr, Vm.r_ret, Vm.r_retN, Vm.r_sIf, Vm.r_asg, Vm.g_nm, Vm.g_tup, Vm.g_wt, Vm.g_n, Vm.g_c, Vm.par2_ok, Vm.r_par, Vm.par3_ok, Vm.r_par3, Vm.fin_nx, Vm.fin_rt, Vm.r_body, Vm.r_put, Vm.r_append, Vm.o_none, Vm.osI_ok, Vm.r_oSome, Vm.r_slice, Vm.sl_tup_, Vm.rvI_ok, Vm.r_revT, Vm.cl1_ok, Vm.cl2_ok, Vm.cl3_ok, Vm.r_callL, Vm.r_fnK, Vm.rgI_ok, Vm.r_rg1, Vm.r_tupR, Vm.r_lstR, Vm.imI_tup, Vm.imI_rl, Vm.r_imSeq, Vm.imE_tup, Vm.imE_rl, Vm.r_imEnum, Vm.imZ_tup, Vm.r_imZip, Vm.r_imRng1, Vm.r_for, Vm.r_lc, Vm.chk_nil, Vm.trn_nx, Vm.trn_ct, Vm.trn_rt, Vm.lcL_nil, Vm.wp_nil, Vm.wp_cons, List.getElem?_cons_zero, List.getElem?_cons_succ, List.set_cons_zero, List.set_cons_succ, List.map_cons, List.map_nil, List.replicate_zero, List.replicate_succ, List.cons_append, List.nil_append, List.append_nil, List.length_cons, List.length_nil, Nat.sub_self, Bool.not_true, Bool.not_false, decide_true, decide_false, Nat.zero_add, Nat.add_one_sub_one, eq_self, k1, k2, k3, k4, k5, k5', k6, m1, m2, f1]
theorem vd1 {x y z : D} : valD [((.inr "cells" : Key), x), (.inr "great", y), (.inr "spot", z)] (.inr "cells") = some x := rfl
theorem vd2 {x y z : D} : valD [((.inr "cells" : Key), x), (.inr "great", y), (.inr "spot", z)] (.inr "great") = some y := rfl
theorem vd3 {x y z : D} : valD [((.inr "cells" : Key), x), (.inr "great", y), (.inr "spot", z)] (.inr "spot") = some z := rfl
theorem pd3 {x y z v : D} : putD [((.inr "cells" : Key), x), (.inr "great", y), (.inr "spot", z)] (.inr "spot") v = [((.inr "cells" : Key), x), (.inr "great", y), (.inr "spot", v)] := rfl
section
variable {H : VH} {μ : Mu} {s : S}
theorem sspot (r : SI μ H s) : dIx (.ref μ.m) (.str "spot") H = some (.int (s.spot : Int), H) := by
  simp only [dIx, r.dd, Pu.dk, dKey, bind_some', vd3]
theorem sgreat (r : SI μ H s) : dIx (.ref μ.m) (.str "great") H = some (.ref μ.b, H) := by
  simp only [dIx, r.dd, Pu.dk, dKey, bind_some', vd2]
theorem scells (r : SI μ H s) : dIx (.ref μ.m) (.str "cells") H = some (.ref μ.a, H) := by
  simp only [dIx, r.dd, Pu.dk, dKey, bind_some', vd1]
theorem sput (r : SI μ H s) : dStore (.ref μ.m) (.str "spot") (.int ((s.spot : Int) + 1)) H = some (H.set μ.m (Pu.dk μ.a μ.b (s.spot + 1))) := by
  have e : okLen 4 = true := by decide
  simp only [dStore, r.dd, Pu.dk, dKey, bind_some', pd3, List.length_cons, List.length_nil, Nat.zero_add]
  rw [if_pos (show okLen (1 + 1 + 1 + 1) = true from e)]
  rfl
theorem sput' (r : SI μ H s) : SI μ (H.set μ.m (Pu.dk μ.a μ.b (s.spot + 1))) { s with spot := s.spot + 1 } := by
  refine ⟨List.getElem?_set_self (List.getElem?_eq_some_iff.mp r.dd).1, ?_, ?_, r.ma, r.mb, r.ab, r.cl⟩
  · rw [List.getElem?_set_ne r.ma]; exact r.ca
  · rw [List.getElem?_set_ne r.mb]; exact r.gb
theorem sgr' (r : SI μ H s) (gs' : List Int) : SI μ (H.set μ.b (.lst (idc gs'))) { s with gs := gs' } := by
  refine ⟨?_, ?_, List.getElem?_set_self (List.getElem?_eq_some_iff.mp r.gb).1, r.ma, r.mb, r.ab, r.cl⟩
  · rw [List.getElem?_set_ne (fun e => r.mb e.symm)]; exact r.dd
  · rw [List.getElem?_set_ne (fun e => r.ab e.symm)]; exact r.ca
theorem py_ints {k : Nat} : ∀ gs : List Int, (idc gs).mapM (Vm.py H k) = some (gs.map PyData.int)
  | [] => by simp [idc]
  | g :: gs => by
    have ih := py_ints (k := k) gs
    unfold idc at ih ⊢
    rw [List.map_cons, List.mapM_cons, ih]
    cases k <;> rfl
theorem lay_ints : ∀ gs : List Int, PyData.canLayAll0 (gs.map PyData.int) = true ∧ PyData.depthAll (gs.map PyData.int) = 0
  | [] => ⟨rfl, rfl⟩
  | g :: gs => by
    have ih := lay_ints gs
    simp [PyData.canLayAll0, PyData.depthAll, PyData.canLay0, PyData.depth, ih.1, ih.2]
theorem shaped_ints (gs : List Int) : SeqAt.shaped (.list (gs.map PyData.int)) = true := by
  have := lay_ints gs
  simp [SeqAt.shaped, PyData.canLay0, PyData.depth, this.1, this.2]
theorem ne_empty {gs : List Int} {b c : Nat} (e1 : H[b]? = some (.lst (idc gs))) (e2 : H[c]? = some (.lst [])) : dNe (.ref b) (.ref c) H = some (.bl (!gs.isEmpty), H) := by
  have p1 : Vm.py H deep (.ref b) = some (.list (gs.map PyData.int)) := by
    show (match H[b]? with | some (.lst xs) => (xs.mapM (Vm.py H 11)).map PyData.list | _ => none) = _
    rw [e1]
    show ((idc gs).mapM (Vm.py H 11)).map PyData.list = _
    rw [py_ints]; rfl
  have p2 : Vm.py H deep (.ref c) = some (.list []) := by
    show (match H[c]? with | some (.lst xs) => (xs.mapM (Vm.py H 11)).map PyData.list | _ => none) = _
    rw [e2]
    simp
  have s1 := shaped_ints gs
  have s2 : SeqAt.shaped (.list []) = true := by decide +kernel
  have ev : PyData.eqv (.list (gs.map PyData.int)) (.list []) = gs.isEmpty := by
    cases gs with
    | nil => simp [PyData.eqv, PyData.eqvAll]
    | cons g gs => simp [PyData.eqv, PyData.eqvAll]
  simp only [dNe, p1, p2, s1, s2, ev, Bool.and_self, if_true]
theorem draw_ok (r : SI μ H s) {L : Int} (h0 : 0 < L) (hL : L ≤ 1000000) (hs : s.spot ≤ mostSpot) : ∃ H', f__law_draw [.ref μ.m, .int L] H = some (.int (drawV s L), H') ∧ Kp μ H H' ∧ SI μ H' (drawS s L) := by
  have Lz : L ≠ 0 := by omega
  have hs' : s.spot ≤ 100000 := hs
  have r1 := sput' r
  have kp1 : Kp μ H (H.set μ.m (Pu.dk μ.a μ.b (s.spot + 1))) := ⟨by simp, fun n o e z => by rw [List.getElem?_set_ne (fun q => z (.inl q.symm))]; exact e⟩
  have put := sput r
  generalize hH1 : H.set μ.m (Pu.dk μ.a μ.b (s.spot + 1)) = H1 at r1 kp1 put
  have r2 := r1.app [.lst []]
  have kp2 := kp1.trans (Kp.app (μ := μ) [.lst []])
  have ne := ne_empty r2.gb get_new'
  generalize hH2 : H1 ++ [.lst []] = H2 at r2 kp2 ne
  have m64 : ∀ h : VH, dMod (.int (s.spot : Int)) (.int 64) h = some (.int (((s.spot % 64 : Nat) : Int)), h) := fun h => by
    rw [Vm.o_mod (by decide)]
    rw [Int.fmod_eq_emod_of_nonneg _ (by decide)]
    congr 3
  have d64 : ∀ h : VH, dFdiv (.int (s.spot : Int)) (.int 64) h = some (.int ((s.spot : Int).fdiv 64), h) := fun h => Vm.o_fdiv (by decide) (by decide)
  have k31 : ∀ (x : Int) (h : VH), dMulT (.int 31) (.int x) h = some (.int (31 * x), h) := fun x h => Vm.o_mul (.inl (in64_c (by decide) (by decide)))
  have lastm : ∀ (x : Int) (h : VH), dMod (.int x) (.int L) h = some (.int (x.fmod L), h) := fun x h => Vm.o_mod Lz
  have h64 : s.spot % 64 < s.cs.length := by rw [r.cl]; exact Nat.mod_lt _ (by decide)
  have gd : s.cs.getD (s.spot % 64) 0 = s.cs[s.spot % 64] := by simp [List.getD, List.getElem?_eq_getElem h64]
  have cell : dIx (.ref μ.a) (.int ((s.spot % 64 : Nat) : Int)) H2 = some (.int (s.cs.getD (s.spot % 64) 0), H2) := by
    rw [gd]
    exact i_ref r2.ca (Vm.ixN_nat (by rw [idc_len]; exact h64)) (idc_get h64)
  have mx1 := sp_mixed (c := s.cs.getD (s.spot % 64) 0 + 31 * (s.spot : Int).fdiv 64) (n := (s.spot : Int)) (h := H2) (by omega) (by omega)
  have mx2 := sp_mixed (c := mixF (s.cs.getD (s.spot % 64) 0 + 31 * (s.spot : Int).fdiv 64) (s.spot : Int)) (n := (s.spot : Int) + 7) (h := H2) (by omega) (by omega)
  unfold f__law_draw m__law_draw
  by_cases hg : s.gs = []
  · have ne' : dNe (.ref μ.b) (.ref (List.length H1)) H2 = some (.bl false, H2) := by rw [ne]; show some (D.bl (!s.gs.isEmpty), H2) = _; rw [hg]; rfl
    have e1 : drawV s L = cellF s L := if_pos hg
    have e2 : drawS s L = { s with spot := s.spot + 1 } := if_pos hg
    refine ⟨H2, ?_, kp2, by rw [e2]; exact r2⟩
    rw [e1]
    unfold cellF
    simp only [Vm.bin1_ok, Vm.bin2_ok, Vm.un1_ok, Vm.if1_t, Vm.if1_f, Vm.cons1_ok, Vm.cons2_ok, Vm.fn1_ok, Vm.bt1_ok, Vm.bt2_ok, Vm.and1_t, Vm.and1_f, Vm.or1_t, Vm.or1_f, Vm.not1_ok, Vm.ma1_ok, Vm.ma2_t, Vm.ma2_f, Vm.mo1_ok, Vm.mo2_t, Vm.mo2_f, Vm.mn1_ok, Vm.mn2_ok, Vm.ex1_ok, Vm.rt1_ok, Vm.as1_ok, Vm.as2_ok, Vm.gc1_ok, Vm.pu1_ok, Vm.pu2_ok, Vm.pu3_ok, Vm.pu4_ok, Vm.ap1_ok, Vm.ap2_ok, Vm.ap3_ok, Vm.sl1_ok, Vm.sl2_ok, Vm.sl3_ok, Vm.fk1_ok, Vm.tr1_ok, Vm.lr1_ok, Vm.fo1_ok, Vm.lc1_ok, Vm.tn1_ok, Vm.ls1_ok, Vm.ls2_t, Vm.ls2_f, Vm.ls3_ok, Vm.ls4_ok, Vm.bind_some', Vm.gv_ok, Vm.r_var, Vm.r_c, Vm.r_bin, Vm.r_un, Vm.pick_t, Vm.pick_f, Vm.r_if, Vm.r_nil, Vm.r_cons, Vm.r_tup, Vm.r_lst, Vm.tupI_0, Vm.tupI_1, Vm.tupI_2, Vm.tupI_3, Vm.lstI_0, Vm.lstI_1, Vm.lstI_2, Vm.lstI_3, Vm.lstI_6, Vm.r_fn, Vm.blB_ok, Vm.r_bV, Vm.r_bT, Vm.r_bAnd, Vm.r_bOr, Vm.r_bNot, Vm.r_bYes, Vm.r_and, Vm.r_or, Vm.r_not, Vm.ch0_ok, Vm.ch2_ok, Vm.ch3_ok, Vm.ch4_ok, Vm.r_chain, Vm.t_non, Vm.t_bl, Vm.t_int, Vm.t_tup, Vm.o_add, Vm.o_sub, Vm.o_lt, Vm.o_le, Vm.o_gt, Vm.o_ge, Vm.o_eqI, Vm.o_eqS, Vm.o_neI, Vm.o_neS, Vm.o_neg, Vm.b_len_tup, Vm.b_len_rl, Vm.b_int, Vm.b_tup, Vm.isi_ii, Vm.isi_ib, Vm.isi_ss, Vm.isi_tt, Vm.i_tup0, Vm.i_tup1, Vm.i_tup2, Vm.sq_nx, Vm.sq_rt, Vm.sq_bk, Vm.sq_ct, Vm.r_seq, Vm.r_next, Vm.r_expr, Vm.r_ret, Vm.r_retN, Vm.r_sIf, Vm.r_asg, Vm.g_nm, Vm.g_tup, Vm.g_wt, Vm.g_n, Vm.g_c, Vm.par2_ok, Vm.r_par, Vm.par3_ok, Vm.r_par3, Vm.fin_nx, Vm.fin_rt, Vm.r_body, Vm.r_put, Vm.r_append, Vm.o_none, Vm.osI_ok, Vm.r_oSome, Vm.r_slice, Vm.sl_tup_, Vm.rvI_ok, Vm.r_revT, Vm.cl1_ok, Vm.cl2_ok, Vm.cl3_ok, Vm.r_callL, Vm.r_fnK, Vm.rgI_ok, Vm.r_rg1, Vm.r_tupR, Vm.r_lstR, Vm.imI_tup, Vm.imI_rl, Vm.r_imSeq, Vm.imE_tup, Vm.imE_rl, Vm.r_imEnum, Vm.imZ_tup, Vm.r_imZip, Vm.r_imRng1, Vm.r_for, Vm.r_lc, Vm.chk_nil, Vm.trn_nx, Vm.trn_ct, Vm.trn_rt, Vm.lcL_nil, Vm.wp_nil, Vm.wp_cons, List.getElem?_cons_zero, List.getElem?_cons_succ, List.set_cons_zero, List.set_cons_succ, List.map_cons, List.map_nil, List.replicate_zero, List.replicate_succ, List.cons_append, List.nil_append, List.append_nil, List.length_cons, List.length_nil, Nat.sub_self, Bool.not_true, Bool.not_false, decide_true, decide_false, Nat.zero_add, Nat.add_one_sub_one, eq_self, sspot r, put, sgreat r1, hH2, ne', scells r2, m64, cell, d64, k31, mx1, mx2, lastm]
  · have hl : 0 < s.gs.length := List.length_pos_iff.mpr hg
    have ne' : dNe (.ref μ.b) (.ref (List.length H1)) H2 = some (.bl true, H2) := by
      rw [ne]
      show some (D.bl (!s.gs.isEmpty), H2) = _
      cases hgs : s.gs with
      | nil => exact (hg hgs).elim
      | cons _ _ => rfl
    have lenb : dLen [.ref μ.b] H2 = some (.int (s.gs.length : Nat), H2) := by rw [b_len_ref r2.gb]; show some (D.int ((idc s.gs).length : Nat), H2) = _; rw [idc_len]
    have ml : ∀ h : VH, dMod (.int (s.spot : Int)) (.int (s.gs.length : Nat)) h = some (.int (((s.spot % s.gs.length : Nat) : Int)), h) := fun h => by
      rw [Vm.o_mod (by omega), Int.fmod_eq_emod_of_nonneg _ (by omega)]
      congr 3
    have hi : s.spot % s.gs.length < s.gs.length := Nat.mod_lt _ hl
    have gg : s.gs.getD (s.spot % s.gs.length) 0 = s.gs[s.spot % s.gs.length] := by simp [List.getD, List.getElem?_eq_getElem hi]
    have gcell : dIx (.ref μ.b) (.int ((s.spot % s.gs.length : Nat) : Int)) H2 = some (.int (s.gs.getD (s.spot % s.gs.length) 0), H2) := by
      rw [gg]
      exact i_ref (xs := idc s.gs) r2.gb (Vm.ixN_nat (by rw [idc_len]; exact hi)) (idc_get hi)
    generalize hG : s.gs.getD (s.spot % s.gs.length) 0 = G at gcell
    by_cases pos : 0 < G
    · have e1 : drawV s L = G.fmod L := by unfold drawV; rw [if_neg hg, hG, if_pos pos]
      have e2 : drawS s L = { s with spot := s.spot + 1, gs := s.gs.set (s.spot % s.gs.length) (G.fdiv L) } := by unfold drawS; rw [if_neg hg, hG, if_pos pos]
      have dp : decide ((0 : Int) < G) = true := decide_eq_true pos
      have fd : ∀ h : VH, dFdiv (.int G) (.int L) h = some (.int (G.fdiv L), h) := fun h => Vm.o_fdiv Lz (by omega)
      have st : dStore (.ref μ.b) (.int ((s.spot % s.gs.length : Nat) : Int)) (.int (G.fdiv L)) H2 = some (H2.set μ.b (.lst (idc (s.gs.set (s.spot % s.gs.length) (G.fdiv L))))) := by
        have g0 : H2[μ.b]? = some (.lst (idc s.gs)) := r2.gb
        simp only [dStore, g0, idc_len, Vm.ixN_nat hi, bind_some']
        simp [idc, List.map_set]
      refine ⟨H2.set μ.b (.lst (idc (s.gs.set (s.spot % s.gs.length) (G.fdiv L)))), ?_, ⟨by simpa using kp2.len, fun n o e z => ?_⟩, by rw [e2]; exact sgr' r2 _⟩
      · rw [e1]
        simp only [Vm.bin1_ok, Vm.bin2_ok, Vm.un1_ok, Vm.if1_t, Vm.if1_f, Vm.cons1_ok, Vm.cons2_ok, Vm.fn1_ok, Vm.bt1_ok, Vm.bt2_ok, Vm.and1_t, Vm.and1_f, Vm.or1_t, Vm.or1_f, Vm.not1_ok, Vm.ma1_ok, Vm.ma2_t, Vm.ma2_f, Vm.mo1_ok, Vm.mo2_t, Vm.mo2_f, Vm.mn1_ok, Vm.mn2_ok, Vm.ex1_ok, Vm.rt1_ok, Vm.as1_ok, Vm.as2_ok, Vm.gc1_ok, Vm.pu1_ok, Vm.pu2_ok, Vm.pu3_ok, Vm.pu4_ok, Vm.ap1_ok, Vm.ap2_ok, Vm.ap3_ok, Vm.sl1_ok, Vm.sl2_ok, Vm.sl3_ok, Vm.fk1_ok, Vm.tr1_ok, Vm.lr1_ok, Vm.fo1_ok, Vm.lc1_ok, Vm.tn1_ok, Vm.ls1_ok, Vm.ls2_t, Vm.ls2_f, Vm.ls3_ok, Vm.ls4_ok, Vm.bind_some', Vm.gv_ok, Vm.r_var, Vm.r_c, Vm.r_bin, Vm.r_un, Vm.pick_t, Vm.pick_f, Vm.r_if, Vm.r_nil, Vm.r_cons, Vm.r_tup, Vm.r_lst, Vm.tupI_0, Vm.tupI_1, Vm.tupI_2, Vm.tupI_3, Vm.lstI_0, Vm.lstI_1, Vm.lstI_2, Vm.lstI_3, Vm.lstI_6, Vm.r_fn, Vm.blB_ok, Vm.r_bV, Vm.r_bT, Vm.r_bAnd, Vm.r_bOr, Vm.r_bNot, Vm.r_bYes, Vm.r_and, Vm.r_or, Vm.r_not, Vm.ch0_ok, Vm.ch2_ok, Vm.ch3_ok, Vm.ch4_ok, Vm.r_chain, Vm.t_non, Vm.t_bl, Vm.t_int, Vm.t_tup, Vm.o_add, Vm.o_sub, Vm.o_lt, Vm.o_le, Vm.o_gt, Vm.o_ge, Vm.o_eqI, Vm.o_eqS, Vm.o_neI, Vm.o_neS, Vm.o_neg, Vm.b_len_tup, Vm.b_len_rl, Vm.b_int, Vm.b_tup, Vm.isi_ii, Vm.isi_ib, Vm.isi_ss, Vm.isi_tt, Vm.i_tup0, Vm.i_tup1, Vm.i_tup2, Vm.sq_nx, Vm.sq_rt, Vm.sq_bk, Vm.sq_ct, Vm.r_seq, Vm.r_next, Vm.r_expr, Vm.r_ret, Vm.r_retN, Vm.r_sIf, Vm.r_asg, Vm.g_nm, Vm.g_tup, Vm.g_wt, Vm.g_n, Vm.g_c, Vm.par2_ok, Vm.r_par, Vm.par3_ok, Vm.r_par3, Vm.fin_nx, Vm.fin_rt, Vm.r_body, Vm.r_put, Vm.r_append, Vm.o_none, Vm.osI_ok, Vm.r_oSome, Vm.r_slice, Vm.sl_tup_, Vm.rvI_ok, Vm.r_revT, Vm.cl1_ok, Vm.cl2_ok, Vm.cl3_ok, Vm.r_callL, Vm.r_fnK, Vm.rgI_ok, Vm.r_rg1, Vm.r_tupR, Vm.r_lstR, Vm.imI_tup, Vm.imI_rl, Vm.r_imSeq, Vm.imE_tup, Vm.imE_rl, Vm.r_imEnum, Vm.imZ_tup, Vm.r_imZip, Vm.r_imRng1, Vm.r_for, Vm.r_lc, Vm.chk_nil, Vm.trn_nx, Vm.trn_ct, Vm.trn_rt, Vm.lcL_nil, Vm.wp_nil, Vm.wp_cons, List.getElem?_cons_zero, List.getElem?_cons_succ, List.set_cons_zero, List.set_cons_succ, List.map_cons, List.map_nil, List.replicate_zero, List.replicate_succ, List.cons_append, List.nil_append, List.append_nil, List.length_cons, List.length_nil, Nat.sub_self, Bool.not_true, Bool.not_false, decide_true, decide_false, Nat.zero_add, Nat.add_one_sub_one, eq_self, sspot r, put, sgreat r1, hH2, ne', sgreat r2, lenb, ml, gcell, dp, fd, st, lastm]
      · rw [List.getElem?_set_ne (fun q => z (.inr (.inr q.symm)))]
        exact kp2.kp n o e z
    · have e1 : drawV s L = cellF s L := by unfold drawV; rw [if_neg hg, hG, if_neg pos]
      have e2 : drawS s L = { s with spot := s.spot + 1 } := by unfold drawS; rw [if_neg hg, hG, if_neg pos]
      have dp : decide ((0 : Int) < G) = false := decide_eq_false pos
      refine ⟨H2, ?_, kp2, by rw [e2]; exact r2⟩
      rw [e1]
      unfold cellF
      simp only [Vm.bin1_ok, Vm.bin2_ok, Vm.un1_ok, Vm.if1_t, Vm.if1_f, Vm.cons1_ok, Vm.cons2_ok, Vm.fn1_ok, Vm.bt1_ok, Vm.bt2_ok, Vm.and1_t, Vm.and1_f, Vm.or1_t, Vm.or1_f, Vm.not1_ok, Vm.ma1_ok, Vm.ma2_t, Vm.ma2_f, Vm.mo1_ok, Vm.mo2_t, Vm.mo2_f, Vm.mn1_ok, Vm.mn2_ok, Vm.ex1_ok, Vm.rt1_ok, Vm.as1_ok, Vm.as2_ok, Vm.gc1_ok, Vm.pu1_ok, Vm.pu2_ok, Vm.pu3_ok, Vm.pu4_ok, Vm.ap1_ok, Vm.ap2_ok, Vm.ap3_ok, Vm.sl1_ok, Vm.sl2_ok, Vm.sl3_ok, Vm.fk1_ok, Vm.tr1_ok, Vm.lr1_ok, Vm.fo1_ok, Vm.lc1_ok, Vm.tn1_ok, Vm.ls1_ok, Vm.ls2_t, Vm.ls2_f, Vm.ls3_ok, Vm.ls4_ok, Vm.bind_some', Vm.gv_ok, Vm.r_var, Vm.r_c, Vm.r_bin, Vm.r_un, Vm.pick_t, Vm.pick_f, Vm.r_if, Vm.r_nil, Vm.r_cons, Vm.r_tup, Vm.r_lst, Vm.tupI_0, Vm.tupI_1, Vm.tupI_2, Vm.tupI_3, Vm.lstI_0, Vm.lstI_1, Vm.lstI_2, Vm.lstI_3, Vm.lstI_6, Vm.r_fn, Vm.blB_ok, Vm.r_bV, Vm.r_bT, Vm.r_bAnd, Vm.r_bOr, Vm.r_bNot, Vm.r_bYes, Vm.r_and, Vm.r_or, Vm.r_not, Vm.ch0_ok, Vm.ch2_ok, Vm.ch3_ok, Vm.ch4_ok, Vm.r_chain, Vm.t_non, Vm.t_bl, Vm.t_int, Vm.t_tup, Vm.o_add, Vm.o_sub, Vm.o_lt, Vm.o_le, Vm.o_gt, Vm.o_ge, Vm.o_eqI, Vm.o_eqS, Vm.o_neI, Vm.o_neS, Vm.o_neg, Vm.b_len_tup, Vm.b_len_rl, Vm.b_int, Vm.b_tup, Vm.isi_ii, Vm.isi_ib, Vm.isi_ss, Vm.isi_tt, Vm.i_tup0, Vm.i_tup1, Vm.i_tup2, Vm.sq_nx, Vm.sq_rt, Vm.sq_bk, Vm.sq_ct, Vm.r_seq, Vm.r_next, Vm.r_expr, Vm.r_ret, Vm.r_retN, Vm.r_sIf, Vm.r_asg, Vm.g_nm, Vm.g_tup, Vm.g_wt, Vm.g_n, Vm.g_c, Vm.par2_ok, Vm.r_par, Vm.par3_ok, Vm.r_par3, Vm.fin_nx, Vm.fin_rt, Vm.r_body, Vm.r_put, Vm.r_append, Vm.o_none, Vm.osI_ok, Vm.r_oSome, Vm.r_slice, Vm.sl_tup_, Vm.rvI_ok, Vm.r_revT, Vm.cl1_ok, Vm.cl2_ok, Vm.cl3_ok, Vm.r_callL, Vm.r_fnK, Vm.rgI_ok, Vm.r_rg1, Vm.r_tupR, Vm.r_lstR, Vm.imI_tup, Vm.imI_rl, Vm.r_imSeq, Vm.imE_tup, Vm.imE_rl, Vm.r_imEnum, Vm.imZ_tup, Vm.r_imZip, Vm.r_imRng1, Vm.r_for, Vm.r_lc, Vm.chk_nil, Vm.trn_nx, Vm.trn_ct, Vm.trn_rt, Vm.lcL_nil, Vm.wp_nil, Vm.wp_cons, List.getElem?_cons_zero, List.getElem?_cons_succ, List.set_cons_zero, List.set_cons_succ, List.map_cons, List.map_nil, List.replicate_zero, List.replicate_succ, List.cons_append, List.nil_append, List.append_nil, List.length_cons, List.length_nil, Nat.sub_self, Bool.not_true, Bool.not_false, decide_true, decide_false, Nat.zero_add, Nat.add_one_sub_one, eq_self, sspot r, put, sgreat r1, hH2, ne', sgreat r2, lenb, ml, gcell, dp, scells r2, m64, cell, d64, k31, mx1, mx2, lastm]
end
theorem fp_draw : FnP f__law_draw pDraw := fun μ B0 h s ds ps p s' mu lt si r e => by
  unfold pDraw at e
  split at e
  · split at e
    · rename_i L hz
      cases e
      unfold Reps at r
      obtain ⟨d1, t, rfl, r1, r2⟩ := r
      unfold Reps at r2
      obtain ⟨d2, t2, rfl, r3, r4⟩ := r2
      unfold Reps at r4; subst r4
      unfold Rep at r1 r3; subst r1 r3
      obtain ⟨H', e1, k, i⟩ := draw_ok si hz.1 hz.2.1 hz.2.2
      exact ⟨_, H', e1, k, i, rfl⟩
    · cases e
  · cases e
end K01
namespace K01
open PySem PySem.Spec PyProof.Rows L2 Vm Pu
def O_is_whole : Nat → Bool := fun _ => false
def q_is_whole : PSM := qSeq (qRet (qAnd (qB pIsI (qCons (qVar 0) (qCons (qC (.ty "int")) qNil))) (qNot (qB pIsI (qCons (qVar 0) (qCons (qC (.ty "bool")) qNil)))))) qNext
def p_is_whole : List P → S → Option (P × S) := bodyP 1 1 q_is_whole
theorem fp_is_whole : FnP f_is_whole p_is_whole := fn_body (O := O_is_whole) (mw := fun _ => true) (by show SS O_is_whole (fun _ => true) m_is_whole q_is_whole; unfold m_is_whole q_is_whole; exact ss_seq (ss_ret (ES.r (es_and (es_b c_isi (at_cons (et_var 0) (at_cons (ES.t (es_c (.ty "int"))) at_nil))) (es_not (ES.t (es_b c_isi (at_cons (et_var 0) (at_cons (ES.t (es_c (.ty "bool"))) at_nil)))))))) ss_next) (by decide)
def O_is_below : Nat → Bool := fun _ => false
def q_is_below : PSM := qSeq (qRet (qAnd (qFn p_is_whole (qCons (qVar 0) qNil)) (qChain pLe pLt (qC (.int 0)) (qVar 0) (qVar 1)))) qNext
def p_is_below : List P → S → Option (P × S) := bodyP 2 2 q_is_below
theorem fp_is_below : FnP f_is_below p_is_below := fn_body (O := O_is_below) (mw := fun _ => true) (by show SS O_is_below (fun _ => true) m_is_below q_is_below; unfold m_is_below q_is_below; exact ss_seq (ss_ret (ES.r (es_and (es_fn fp_is_whole (as_cons (es_var 0) as_nil)) (es_chain o_le o_lt (ES.t (es_c (.int 0))) (et_var 0) (et_var 1))))) ss_next) (by decide)
def O_is_within : Nat → Bool := fun _ => false
def q_is_within : PSM := qSeq (qRet (qAnd (qFn p_is_whole (qCons (qVar 0) qNil)) (qChain pLe pLe (qVar 1) (qVar 0) (qVar 2)))) qNext
def p_is_within : List P → S → Option (P × S) := bodyP 3 3 q_is_within
theorem fp_is_within : FnP f_is_within p_is_within := fn_body (O := O_is_within) (mw := fun _ => true) (by show SS O_is_within (fun _ => true) m_is_within q_is_within; unfold m_is_within q_is_within; exact ss_seq (ss_ret (ES.r (es_and (es_fn fp_is_whole (as_cons (es_var 0) as_nil)) (es_chain o_le o_le (et_var 1) (et_var 0) (et_var 2))))) ss_next) (by decide)
def O_is_one_of : Nat → Bool := fun _ => false
def q_is_one_of : PSM := qSeq (qRet (qAnd (qB pIsI (qCons (qVar 0) (qCons (qC (.ty "str")) qNil))) (qBin pIn (qVar 0) (qVar 1)))) qNext
def p_is_one_of : List P → S → Option (P × S) := bodyP 2 2 q_is_one_of
theorem fp_is_one_of : FnP f_is_one_of p_is_one_of := fn_body (O := O_is_one_of) (mw := fun _ => true) (by show SS O_is_one_of (fun _ => true) m_is_one_of q_is_one_of; unfold m_is_one_of q_is_one_of; exact ss_seq (ss_ret (ES.r (es_and (es_b c_isi (at_cons (et_var 0) (at_cons (ES.t (es_c (.ty "str"))) at_nil))) (es_bin o_in (et_var 0) (et_var 1))))) ss_next) (by decide)
def O_is_tuple_of : Nat → Bool := fun _ => false
def q_is_tuple_of : PSM := qSeq (qRet (qAnd (qB pIsI (qCons (qVar 0) (qCons (qC (.ty "tuple")) qNil))) (qBin pEq (qB pLen (qCons (qVar 0) qNil)) (qVar 1)))) qNext
def p_is_tuple_of : List P → S → Option (P × S) := bodyP 2 2 q_is_tuple_of
theorem fp_is_tuple_of : FnP f_is_tuple_of p_is_tuple_of := fn_body (O := O_is_tuple_of) (mw := fun _ => true) (by show SS O_is_tuple_of (fun _ => true) m_is_tuple_of q_is_tuple_of; unfold m_is_tuple_of q_is_tuple_of; exact ss_seq (ss_ret (ES.r (es_and (es_b c_isi (at_cons (et_var 0) (at_cons (ES.t (es_c (.ty "tuple"))) at_nil))) (es_bin o_eq (ES.t (es_b c_len (at_cons (et_var 0) at_nil))) (et_var 1))))) ss_next) (by decide)
def O_is_crossing : Nat → Bool := fun _ => false
def q_is_crossing : PSM := qSeq (qRet (qAnd (qFn p_is_tuple_of (qCons (qVar 1) (qCons (qC (.int 2)) qNil))) (qAnd (qFn p_is_one_of (qCons (qBin pIx (qVar 1) (qC (.int 0))) (qCons (qC (.tup [.str "left", .str "right"])) qNil))) (qFn p_is_below (qCons (qBin pIx (qVar 1) (qC (.int 1))) (qCons (qBin pSub (qVar 0) (qC (.int 1))) qNil)))))) qNext
def p_is_crossing : List P → S → Option (P × S) := bodyP 2 2 q_is_crossing
theorem fp_is_crossing : FnP f_is_crossing p_is_crossing := fn_body (O := O_is_crossing) (mw := fun _ => true) (by show SS O_is_crossing (fun _ => true) m_is_crossing q_is_crossing; unfold m_is_crossing q_is_crossing; exact ss_seq (ss_ret (ES.r (es_and (es_fn fp_is_tuple_of (as_cons (es_var 1) (as_cons (es_c (.int 2)) as_nil))) (es_and (es_fn fp_is_one_of (as_cons (es_bin o_ix (et_var 1) (ES.t (es_c (.int 0)))) (as_cons (es_c (.tup [.str "left", .str "right"])) as_nil))) (es_fn fp_is_below (as_cons (es_bin o_ix (et_var 1) (ES.t (es_c (.int 1)))) (as_cons (es_bin o_sub (et_var 0) (ES.t (es_c (.int 1)))) as_nil))))))) ss_next) (by decide)
def O_need_cords : Nat → Bool := fun _ => false
def q_need_cords : PSM := qSeq (qIfS (qbNot (qbT (qFn p_is_within (qCons (qVar 0) (qCons (qC (.int 2)) (qCons (qC (.int 5)) qNil)))))) (qSeq qNever qNext) qNext) (qSeq (qRet (qVar 0)) qNext)
def p_need_cords : List P → S → Option (P × S) := bodyP 1 1 q_need_cords
theorem fp_need_cords : FnP f_need_cords p_need_cords := fn_body (O := O_need_cords) (mw := fun _ => true) (by show SS O_need_cords (fun _ => true) m_need_cords q_need_cords; unfold m_need_cords q_need_cords; exact ss_seq (ss_if (bs_not (bs_t (ES.t (es_fn fp_is_within (as_cons (es_var 0) (as_cons (es_c (.int 2)) (as_cons (es_c (.int 5)) as_nil))))))) (ss_seq ss_never ss_next) ss_next) (ss_seq (ss_ret (er_var 0)) ss_next)) (by decide)
def O_need_row : Nat → Bool := fun _ => false
def q_need_row : PSM := qSeq (qIfS (qbOr (qbNot (qbT (qB pIsI (qCons (qVar 1) (qCons (qC (.ty "tuple")) qNil))))) (qbV (qBin pGt (qB pLen (qCons (qVar 1) qNil)) (qC (.int 60))))) (qSeq qNever qNext) qNext) (qSeq (qFor (qiEnum (qVar 1)) (qGT (qGC (qNm 2) (qGC (qNm 3) qGN))) (qSeq (qIfS (qbNot (qbT (qFn p_is_crossing (qCons (qVar 0) (qCons (qVar 3) qNil))))) (qSeq qNever qNext) qNext) qNext)) (qSeq (qRet (qVar 1)) qNext))
def p_need_row : List P → S → Option (P × S) := bodyP 2 4 q_need_row
theorem fp_need_row : FnP f_need_row p_need_row := fn_body (O := O_need_row) (mw := fun _ => true) (by show SS O_need_row (fun _ => true) m_need_row q_need_row; unfold m_need_row q_need_row; exact ss_seq (ss_if (bs_or (bs_not (bs_t (ES.t (es_b c_isi (at_cons (et_var 1) (at_cons (ES.t (es_c (.ty "tuple"))) at_nil)))))) (bs_v (ES.t (es_bin o_gt (ES.t (es_b c_len (at_cons (et_var 1) at_nil))) (ES.t (es_c (.int 60))))))) (ss_seq ss_never ss_next) ss_next) (ss_seq (ss_for (is_enum (es_var 1)) (gs_of (tg_tup (tg_cons tg_name (tg_cons tg_name tg_nil)))) (ss_seq (ss_if (bs_not (bs_t (ES.t (es_fn fp_is_crossing (as_cons (es_var 0) (as_cons (es_var 3) as_nil)))))) (ss_seq ss_never ss_next) ss_next) ss_next)) (ss_seq (ss_ret (er_var 1)) ss_next))) (by decide)
def O_need_cords_and_row : Nat → Bool := fun _ => false
def q_need_cords_and_row : PSM := qSeq (qExpr (qFn p_need_cords (qCons (qVar 0) qNil))) (qSeq (qExpr (qFn p_need_row (qCons (qVar 0) (qCons (qVar 1) qNil)))) qNext)
def p_need_cords_and_row : List P → S → Option (P × S) := bodyP 2 2 q_need_cords_and_row
theorem fp_need_cords_and_row : FnP f_need_cords_and_row p_need_cords_and_row := fn_body (O := O_need_cords_and_row) (mw := fun _ => true) (by show SS O_need_cords_and_row (fun _ => true) m_need_cords_and_row q_need_cords_and_row; unfold m_need_cords_and_row q_need_cords_and_row; exact ss_seq (ss_expr (ES.r (es_fn fp_need_cords (as_cons (es_var 0) as_nil)))) (ss_seq (ss_expr (ES.r (es_fn fp_need_row (as_cons (es_var 0) (as_cons (es_var 1) as_nil))))) ss_next)) (by decide)
def O_need_cord : Nat → Bool := fun _ => false
def q_need_cord : PSM := qSeq (qIfS (qbNot (qbT (qFn p_is_below (qCons (qVar 1) (qCons (qVar 0) qNil))))) (qSeq qNever qNext) qNext) (qSeq (qRet (qVar 1)) qNext)
def p_need_cord : List P → S → Option (P × S) := bodyP 2 2 q_need_cord
theorem fp_need_cord : FnP f_need_cord p_need_cord := fn_body (O := O_need_cord) (mw := fun _ => true) (by show SS O_need_cord (fun _ => true) m_need_cord q_need_cord; unfold m_need_cord q_need_cord; exact ss_seq (ss_if (bs_not (bs_t (ES.t (es_fn fp_is_below (as_cons (es_var 1) (as_cons (es_var 0) as_nil)))))) (ss_seq ss_never ss_next) ss_next) (ss_seq (ss_ret (er_var 1)) ss_next)) (by decide)
def O_other_side : Nat → Bool := fun _ => false
def q_other_side : PSM := qSeq (qIfS (qbV (qBin pEq (qVar 0) (qC (.str "left")))) (qSeq (qRet (qC (.str "right"))) qNext) qNext) (qSeq (qRet (qC (.str "left"))) qNext)
def p_other_side : List P → S → Option (P × S) := bodyP 1 1 q_other_side
theorem fp_other_side : FnP f_other_side p_other_side := fn_body (O := O_other_side) (mw := fun _ => true) (by show SS O_other_side (fun _ => true) m_other_side q_other_side; unfold m_other_side q_other_side; exact ss_seq (ss_if (bs_v (ES.t (es_bin o_eq (et_var 0) (ES.t (es_c (.str "left")))))) (ss_seq (ss_ret (ES.r (es_c (.str "right")))) ss_next) ss_next) (ss_seq (ss_ret (ES.r (es_c (.str "left")))) ss_next)) (by decide)
def O_back_of : Nat → Bool := fun _ => false
def q_back_of : PSM := qSeq (qRet (qB pTupleOf (qCons (qLc (qiSeq (qRevT (qVar 0))) [1, 2] (qGT (qGC (qNm 1) (qGC (qNm 2) qGN))) qbYes (qTup (qCons (qFn p_other_side (qCons (qVar 1) qNil)) (qCons (qVar 2) qNil)))) qNil))) qNext
def p_back_of : List P → S → Option (P × S) := bodyP 1 3 q_back_of
theorem fp_back_of : FnP f_back_of p_back_of := fn_body (O := O_back_of) (mw := fun _ => true) (by show SS O_back_of (fun _ => true) m_back_of q_back_of; unfold m_back_of q_back_of; exact ss_seq (ss_ret (ES.r (es_b c_tuple (at_cons (ES.t (EF.s (ef_lc (is_seq (es_revT (et_var 0))) (tg_tup (tg_cons tg_name (tg_cons tg_name tg_nil))) bs_yes (es_tup (as_cons (es_fn fp_other_side (as_cons (es_var 1) as_nil)) (as_cons (es_var 2) as_nil)))))) at_nil)))) ss_next) (by decide)
def O_keep_under : Nat → Bool := fun _ => false
def q_keep_under : PSM := qSeq (qRet (qVar 2)) qNext
def p_keep_under : List P → S → Option (P × S) := bodyP 3 3 q_keep_under
theorem fp_keep_under : FnP f_keep_under p_keep_under := fn_body (O := O_keep_under) (mw := fun _ => true) (by show SS O_keep_under (fun _ => true) m_keep_under q_keep_under; unfold m_keep_under q_keep_under; exact ss_seq (ss_ret (er_var 2)) ss_next) (by decide)
def O_work_crossing : Nat → Bool := fun _ => false
def tp_work_crossing : PTbl := fun x => if x = "keep_under" then some (3, p_keep_under) else (fun _ => none) x
theorem tpo_work_crossing : TblP t_work_crossing tp_work_crossing := tblP_cons fp_keep_under (tblP_nil)
def q_work_crossing : PSM := qSeq (qAsg (qVar 1) (qGT (qGC (qNm 3) (qGC (qNm 4) qGN)))) (qSeq (qPar 5 6 (qBin pIx (qVar 0) (qVar 4)) (qBin pIx (qVar 0) (qBin pAdd (qVar 4) (qC (.int 1))))) (qSeq (qIfS (qbV (qBin pEq (qVar 3) (qC (.str "left")))) (qSeq (qAsg (qCallL 2 tp_work_crossing (qCons (qVar 3) (qCons (qVar 5) (qCons (qVar 6) qNil)))) (qNm 6)) qNext) (qSeq (qAsg (qCallL 2 tp_work_crossing (qCons (qVar 3) (qCons (qVar 6) (qCons (qVar 5) qNil)))) (qNm 5)) qNext)) (qSeq (qRet (qBin pAdd (qBin pAdd (qSlice (qVar 0) qoNone (qoSome (qVar 4))) (qTup (qCons (qVar 6) (qCons (qVar 5) qNil)))) (qSlice (qVar 0) (qoSome (qBin pAdd (qVar 4) (qC (.int 2)))) qoNone))) qNext)))
def p_work_crossing : List P → S → Option (P × S) := bodyP 3 7 q_work_crossing
theorem fp_work_crossing : FnP f_work_crossing p_work_crossing := fn_body (O := O_work_crossing) (mw := fun _ => true) (by show SS O_work_crossing (fun _ => true) m_work_crossing q_work_crossing; unfold m_work_crossing q_work_crossing; exact ss_seq (ss_asg (es_var 1) (gs_of (tg_tup (tg_cons tg_name (tg_cons tg_name tg_nil))))) (ss_seq (ss_par (side_p (es_bin o_ix (et_var 0) (et_var 4))) (side_p (es_bin o_ix (et_var 0) (ES.t (es_bin o_add (et_var 4) (ES.t (es_c (.int 1)))))))) (ss_seq (ss_if (bs_v (ES.t (es_bin o_eq (et_var 3) (ES.t (es_c (.str "left")))))) (ss_seq (ss_asg (es_callL tpo_work_crossing (as_cons (es_var 3) (as_cons (es_var 5) (as_cons (es_var 6) as_nil)))) (gs_of tg_name)) ss_next) (ss_seq (ss_asg (es_callL tpo_work_crossing (as_cons (es_var 3) (as_cons (es_var 6) (as_cons (es_var 5) as_nil)))) (gs_of tg_name)) ss_next)) (ss_seq (ss_ret (ES.r (es_bin o_add (ES.t (es_bin o_add (ES.t (es_slice (et_var 0) os_none (os_some (et_var 4)))) (ES.t (es_tup (as_cons (es_var 6) (as_cons (es_var 5) as_nil)))))) (ES.t (es_slice (et_var 0) (os_some (ES.t (es_bin o_add (et_var 4) (ES.t (es_c (.int 2)))))) os_none))))) ss_next)))) (by decide)
def O_work_way : Nat → Bool := fun k => k == 3
def q_work_way : PSM := qSeq (qAsg (qLst (qCons (qVar 0) qNil)) (qNm 3)) (qSeq (qFor (qiSeq (qVar 1)) (qNm 4) (qSeq (qAppend 3 (qFn p_work_crossing (qCons (qBin pIx (qVar 3) (qNeg (qC (.int 1)))) (qCons (qVar 4) (qCons (qVar 2) qNil))))) qNext)) (qSeq (qRet (qB pTupleOf (qCons (qVar 3) qNil))) qNext))
def p_work_way : List P → S → Option (P × S) := bodyP 3 5 q_work_way
theorem fp_work_way : FnP f_work_way p_work_way := fn_body (O := O_work_way) (mw := fun _ => true) (by show SS O_work_way (fun _ => true) m_work_way q_work_way; unfold m_work_way q_work_way; exact ss_seq (ss_own (ef_lst (as_cons (es_var 0) as_nil))) (ss_seq (ss_for (is_seq (es_var 1)) (gs_of tg_name) (ss_seq (ss_append (es_fn fp_work_crossing (as_cons (es_bin o_ix (et_var 3) (ES.t (es_neg (ES.t (es_c (.int 1)))))) (as_cons (es_var 4) (as_cons (es_var 2) as_nil))))) ss_next)) (ss_seq (ss_ret (ES.r (es_b c_tuple (at_cons (et_var 3) at_nil)))) ss_next))) (by decide)
def O_work_row : Nat → Bool := fun _ => false
def q_work_row : PSM := qSeq (qFor (qiSeq (qVar 1)) (qNm 3) (qSeq (qAsg (qFn p_work_crossing (qCons (qVar 0) (qCons (qVar 3) (qCons (qVar 2) qNil)))) (qNm 0)) qNext)) (qSeq (qRet (qVar 0)) qNext)
def p_work_row : List P → S → Option (P × S) := bodyP 3 4 q_work_row
theorem fp_work_row : FnP f_work_row p_work_row := fn_body (O := O_work_row) (mw := fun _ => true) (by show SS O_work_row (fun _ => true) m_work_row q_work_row; unfold m_work_row q_work_row; exact ss_seq (ss_for (is_seq (es_var 1)) (gs_of tg_name) (ss_seq (ss_asg (es_fn fp_work_crossing (as_cons (es_var 0) (as_cons (es_var 3) (as_cons (es_var 2) as_nil)))) (gs_of tg_name)) ss_next)) (ss_seq (ss_ret (er_var 0)) ss_next)) (by decide)
def O_order_behind : Nat → Bool := fun _ => false
def q_order_behind : PSM := qSeq (qRet (qFn p_work_row (qCons (qTupR (qRg1 (qVar 0))) (qCons (qVar 1) (qCons (qC (.fn "keep_under")) qNil))))) qNext
def p_order_behind : List P → S → Option (P × S) := bodyP 2 2 q_order_behind
theorem fp_order_behind : FnP f_order_behind p_order_behind := fn_body (O := O_order_behind) (mw := fun _ => true) (by show SS O_order_behind (fun _ => true) m_order_behind q_order_behind; unfold m_order_behind q_order_behind; exact ss_seq (ss_ret (ES.r (es_fn fp_work_row (as_cons (es_tupR (rg_1 (et_var 0))) (as_cons (es_var 1) (as_cons (es_c (.fn "keep_under")) as_nil)))))) ss_next) (by decide)
def O_meetings : Nat → Bool := fun k => k == 2
def q_meetings : PSM := qSeq (qAsg (qLst qNil) (qNm 2)) (qSeq (qFor (qiZipT (qFn p_work_way (qCons (qTupR (qRg1 (qVar 0))) (qCons (qVar 1) (qCons (qC (.fn "keep_under")) qNil)))) (qVar 1)) (qGT (qGC (qNm 3) (qGC (qNm 4) qGN))) (qSeq (qAsg (qVar 4) (qGT (qGC (qNm 5) (qGC (qNm 6) qGN)))) (qSeq (qPar 7 8 (qBin pIx (qVar 3) (qVar 6)) (qBin pIx (qVar 3) (qBin pAdd (qVar 6) (qC (.int 1))))) (qSeq (qIfS (qbV (qBin pEq (qVar 5) (qC (.str "left")))) (qSeq (qAppend 2 (qTup (qCons (qVar 7) (qCons (qVar 8) (qCons (qVar 5) qNil))))) qNext) (qSeq (qAppend 2 (qTup (qCons (qVar 8) (qCons (qVar 7) (qCons (qVar 5) qNil))))) qNext)) qNext)))) (qSeq (qRet (qB pTupleOf (qCons (qVar 2) qNil))) qNext))
def p_meetings : List P → S → Option (P × S) := bodyP 2 9 q_meetings
theorem fp_meetings : FnP f_meetings p_meetings := fn_body (O := O_meetings) (mw := fun _ => true) (by show SS O_meetings (fun _ => true) m_meetings q_meetings; unfold m_meetings q_meetings; exact ss_seq (ss_own (ef_lst as_nil)) (ss_seq (ss_for (is_zipT (es_fn fp_work_way (as_cons (es_tupR (rg_1 (et_var 0))) (as_cons (es_var 1) (as_cons (es_c (.fn "keep_under")) as_nil)))) (es_var 1)) (gs_of (tg_tup (tg_cons tg_name (tg_cons tg_name tg_nil)))) (ss_seq (ss_asg (es_var 4) (gs_of (tg_tup (tg_cons tg_name (tg_cons tg_name tg_nil))))) (ss_seq (ss_par (side_p (es_bin o_ix (et_var 3) (et_var 6))) (side_p (es_bin o_ix (et_var 3) (ES.t (es_bin o_add (et_var 6) (ES.t (es_c (.int 1)))))))) (ss_seq (ss_if (bs_v (ES.t (es_bin o_eq (et_var 5) (ES.t (es_c (.str "left")))))) (ss_seq (ss_append (es_tup (as_cons (es_var 7) (as_cons (es_var 8) (as_cons (es_var 5) as_nil))))) ss_next) (ss_seq (ss_append (es_tup (as_cons (es_var 8) (as_cons (es_var 7) (as_cons (es_var 5) as_nil))))) ss_next)) ss_next)))) (ss_seq (ss_ret (ES.r (es_b c_tuple (at_cons (et_var 2) at_nil)))) ss_next))) (by decide)
def O_order_of : Nat → Bool := fun _ => false
def q_order_of : PSM := qSeq (qExpr (qFn p_need_cords_and_row (qCons (qVar 0) (qCons (qVar 1) qNil)))) (qSeq (qRet (qFn p_order_behind (qCons (qVar 0) (qCons (qVar 1) qNil)))) qNext)
def p_order_of : List P → S → Option (P × S) := bodyP 2 2 q_order_of
theorem fp_order_of : FnP f_order_of p_order_of := fn_body (O := O_order_of) (mw := fun _ => true) (by show SS O_order_of (fun _ => true) m_order_of q_order_of; unfold m_order_of q_order_of; exact ss_seq (ss_expr (ES.r (es_fn fp_need_cords_and_row (as_cons (es_var 0) (as_cons (es_var 1) as_nil))))) (ss_seq (ss_ret (ES.r (es_fn fp_order_behind (as_cons (es_var 0) (as_cons (es_var 1) as_nil))))) ss_next)) (by decide)
def O_order_on_way : Nat → Bool := fun _ => false
def q_order_on_way : PSM := qSeq (qExpr (qFn p_need_cords_and_row (qCons (qVar 0) (qCons (qVar 1) qNil)))) (qSeq (qRet (qFn p_work_way (qCons (qTupR (qRg1 (qVar 0))) (qCons (qVar 1) (qCons (qC (.fn "keep_under")) qNil))))) qNext)
def p_order_on_way : List P → S → Option (P × S) := bodyP 2 2 q_order_on_way
theorem fp_order_on_way : FnP f_order_on_way p_order_on_way := fn_body (O := O_order_on_way) (mw := fun _ => true) (by show SS O_order_on_way (fun _ => true) m_order_on_way q_order_on_way; unfold m_order_on_way q_order_on_way; exact ss_seq (ss_expr (ES.r (es_fn fp_need_cords_and_row (as_cons (es_var 0) (as_cons (es_var 1) as_nil))))) (ss_seq (ss_ret (ES.r (es_fn fp_work_way (as_cons (es_tupR (rg_1 (et_var 0))) (as_cons (es_var 1) (as_cons (es_c (.fn "keep_under")) as_nil)))))) ss_next)) (by decide)
def O_way_of : Nat → Bool := fun _ => false
def q_way_of : PSM := qSeq (qExpr (qFn p_need_cords_and_row (qCons (qVar 0) (qCons (qVar 1) qNil)))) (qSeq (qExpr (qFn p_need_cord (qCons (qVar 0) (qCons (qVar 2) qNil)))) (qSeq (qRet (qB pTupleOf (qCons (qLc (qiSeq (qFn p_work_way (qCons (qTupR (qRg1 (qVar 0))) (qCons (qVar 1) (qCons (qC (.fn "keep_under")) qNil))))) [3] (qNm 3) qbYes (qBin pIndex (qVar 3) (qVar 2))) qNil))) qNext))
def p_way_of : List P → S → Option (P × S) := bodyP 3 4 q_way_of
theorem fp_way_of : FnP f_way_of p_way_of := fn_body (O := O_way_of) (mw := fun _ => true) (by show SS O_way_of (fun _ => true) m_way_of q_way_of; unfold m_way_of q_way_of; exact ss_seq (ss_expr (ES.r (es_fn fp_need_cords_and_row (as_cons (es_var 0) (as_cons (es_var 1) as_nil))))) (ss_seq (ss_expr (ES.r (es_fn fp_need_cord (as_cons (es_var 0) (as_cons (es_var 2) as_nil))))) (ss_seq (ss_ret (ES.r (es_b c_tuple (at_cons (ES.t (EF.s (ef_lc (is_seq (es_fn fp_work_way (as_cons (es_tupR (rg_1 (et_var 0))) (as_cons (es_var 1) (as_cons (es_c (.fn "keep_under")) as_nil))))) tg_name bs_yes (es_bin o_index (et_var 3) (et_var 2))))) at_nil)))) ss_next))) (by decide)
def O_back_row : Nat → Bool := fun _ => false
def q_back_row : PSM := qSeq (qExpr (qFn p_need_cords_and_row (qCons (qVar 0) (qCons (qVar 1) qNil)))) (qSeq (qRet (qFn p_back_of (qCons (qVar 1) qNil))) qNext)
def p_back_row : List P → S → Option (P × S) := bodyP 2 2 q_back_row
theorem fp_back_row : FnP f_back_row p_back_row := fn_body (O := O_back_row) (mw := fun _ => true) (by show SS O_back_row (fun _ => true) m_back_row q_back_row; unfold m_back_row q_back_row; exact ss_seq (ss_expr (ES.r (es_fn fp_need_cords_and_row (as_cons (es_var 0) (as_cons (es_var 1) as_nil))))) (ss_seq (ss_ret (ES.r (es_fn fp_back_of (as_cons (es_var 1) as_nil)))) ss_next)) (by decide)
def O_mirrored : Nat → Bool := fun _ => false
def q_mirrored : PSM := qSeq (qExpr (qFn p_need_cords_and_row (qCons (qVar 0) (qCons (qVar 1) qNil)))) (qSeq (qRet (qB pTupleOf (qCons (qLc (qiSeq (qVar 1)) [2, 3] (qGT (qGC (qNm 2) (qGC (qNm 3) qGN))) qbYes (qTup (qCons (qFn p_other_side (qCons (qVar 2) qNil)) (qCons (qBin pSub (qBin pSub (qVar 0) (qC (.int 2))) (qVar 3)) qNil)))) qNil))) qNext)
def p_mirrored : List P → S → Option (P × S) := bodyP 2 4 q_mirrored
theorem fp_mirrored : FnP f_mirrored p_mirrored := fn_body (O := O_mirrored) (mw := fun _ => true) (by show SS O_mirrored (fun _ => true) m_mirrored q_mirrored; unfold m_mirrored q_mirrored; exact ss_seq (ss_expr (ES.r (es_fn fp_need_cords_and_row (as_cons (es_var 0) (as_cons (es_var 1) as_nil))))) (ss_seq (ss_ret (ES.r (es_b c_tuple (at_cons (ES.t (EF.s (ef_lc (is_seq (es_var 1)) (tg_tup (tg_cons tg_name (tg_cons tg_name tg_nil))) bs_yes (es_tup (as_cons (es_fn fp_other_side (as_cons (es_var 2) as_nil)) (as_cons (es_bin o_sub (ES.t (es_bin o_sub (et_var 0) (ES.t (es_c (.int 2))))) (et_var 3)) as_nil)))))) at_nil)))) ss_next)) (by decide)
def O_turned_over : Nat → Bool := fun _ => false
def q_turned_over : PSM := qSeq (qExpr (qFn p_need_cords_and_row (qCons (qVar 0) (qCons (qVar 1) qNil)))) (qSeq (qRet (qB pTupleOf (qCons (qLc (qiSeq (qVar 1)) [2, 3] (qGT (qGC (qNm 2) (qGC (qNm 3) qGN))) qbYes (qTup (qCons (qFn p_other_side (qCons (qVar 2) qNil)) (qCons (qVar 3) qNil)))) qNil))) qNext)
def p_turned_over : List P → S → Option (P × S) := bodyP 2 4 q_turned_over
theorem fp_turned_over : FnP f_turned_over p_turned_over := fn_body (O := O_turned_over) (mw := fun _ => true) (by show SS O_turned_over (fun _ => true) m_turned_over q_turned_over; unfold m_turned_over q_turned_over; exact ss_seq (ss_expr (ES.r (es_fn fp_need_cords_and_row (as_cons (es_var 0) (as_cons (es_var 1) as_nil))))) (ss_seq (ss_ret (ES.r (es_b c_tuple (at_cons (ES.t (EF.s (ef_lc (is_seq (es_var 1)) (tg_tup (tg_cons tg_name (tg_cons tg_name tg_nil))) bs_yes (es_tup (as_cons (es_fn fp_other_side (as_cons (es_var 2) as_nil)) (as_cons (es_var 3) as_nil)))))) at_nil)))) ss_next)) (by decide)
def O_met : Nat → Bool := fun _ => false
def q_met : PSM := qSeq (qExpr (qFn p_need_cords_and_row (qCons (qVar 0) (qCons (qVar 1) qNil)))) (qSeq (qRet (qFn p_meetings (qCons (qVar 0) (qCons (qVar 1) qNil)))) qNext)
def p_met : List P → S → Option (P × S) := bodyP 2 2 q_met
theorem fp_met : FnP f_met p_met := fn_body (O := O_met) (mw := fun _ => true) (by show SS O_met (fun _ => true) m_met q_met; unfold m_met q_met; exact ss_seq (ss_expr (ES.r (es_fn fp_need_cords_and_row (as_cons (es_var 0) (as_cons (es_var 1) as_nil))))) (ss_seq (ss_ret (ES.r (es_fn fp_meetings (as_cons (es_var 0) (as_cons (es_var 1) as_nil))))) ss_next)) (by decide)
def O_crossed : Nat → Bool := fun _ => false
def q_crossed : PSM := qSeq (qExpr (qFn p_need_cords_and_row (qCons (qVar 0) (qCons (qVar 1) qNil)))) (qSeq (qExpr (qFn p_need_cord (qCons (qVar 0) (qCons (qVar 2) qNil)))) (qSeq (qExpr (qFn p_need_cord (qCons (qVar 0) (qCons (qVar 3) qNil)))) (qSeq (qIfS (qbV (qBin pEq (qVar 3) (qVar 2))) (qSeq qNever qNext) qNext) (qSeq (qAsg (qTup (qCons (qTup (qCons (qVar 2) (qCons (qVar 3) qNil))) (qCons (qTup (qCons (qVar 3) (qCons (qVar 2) qNil))) qNil))) (qNm 4)) (qSeq (qRet (qB pLen (qCons (qLc (qiSeq (qFn p_meetings (qCons (qVar 0) (qCons (qVar 1) qNil)))) [5, 6, 7] (qGT (qGC (qNm 5) (qGC (qNm 6) (qGC (qNm 7) qGN)))) (qbV (qBin pIn (qTup (qCons (qVar 5) (qCons (qVar 6) qNil))) (qVar 4))) (qVar 5)) qNil))) qNext)))))
def p_crossed : List P → S → Option (P × S) := bodyP 4 8 q_crossed
theorem fp_crossed : FnP f_crossed p_crossed := fn_body (O := O_crossed) (mw := fun _ => true) (by show SS O_crossed (fun _ => true) m_crossed q_crossed; unfold m_crossed q_crossed; exact ss_seq (ss_expr (ES.r (es_fn fp_need_cords_and_row (as_cons (es_var 0) (as_cons (es_var 1) as_nil))))) (ss_seq (ss_expr (ES.r (es_fn fp_need_cord (as_cons (es_var 0) (as_cons (es_var 2) as_nil))))) (ss_seq (ss_expr (ES.r (es_fn fp_need_cord (as_cons (es_var 0) (as_cons (es_var 3) as_nil))))) (ss_seq (ss_if (bs_v (ES.t (es_bin o_eq (et_var 3) (et_var 2)))) (ss_seq ss_never ss_next) ss_next) (ss_seq (ss_asg (es_tup (as_cons (es_tup (as_cons (es_var 2) (as_cons (es_var 3) as_nil))) (as_cons (es_tup (as_cons (es_var 3) (as_cons (es_var 2) as_nil))) as_nil))) (gs_of tg_name)) (ss_seq (ss_ret (ES.r (es_b c_len (at_cons (ES.t (EF.s (ef_lc (is_seq (es_fn fp_meetings (as_cons (es_var 0) (as_cons (es_var 1) as_nil)))) (tg_tup (tg_cons tg_name (tg_cons tg_name (tg_cons tg_name tg_nil)))) (bs_v (ES.t (es_bin o_in (ES.t (es_tup (as_cons (es_var 5) (as_cons (es_var 6) as_nil)))) (et_var 4)))) (es_var 5)))) at_nil)))) ss_next)))))) (by decide)
def O__law_of : Nat → Bool := fun _ => false
def q__law_of : PSM := qSeq (qRet (qBin pIx (qVar 1) (qFn pDraw (qCons (qVar 0) (qCons (qB pLen (qCons (qVar 1) qNil)) qNil))))) qNext
def p__law_of : List P → S → Option (P × S) := bodyP 2 2 q__law_of
theorem fp__law_of : FnP f__law_of p__law_of := fn_body (O := O__law_of) (mw := fun _ => true) (by show SS O__law_of (fun _ => true) m__law_of q__law_of; unfold m__law_of q__law_of; exact ss_seq (ss_ret (ES.r (es_bin o_ix (et_var 1) (ES.t (es_fn fp_draw (as_cons (es_var 0) (as_cons (es_b c_len (at_cons (et_var 1) at_nil)) as_nil))))))) ss_next) (by decide)
def O__law_like : Nat → Bool := fun _ => false
def q__law_like : PSM := qSeq (qRet (qBin pEq (qB pRepr (qCons (qVar 0) qNil)) (qB pRepr (qCons (qVar 1) qNil)))) qNext
def p__law_like : List P → S → Option (P × S) := bodyP 2 2 q__law_like
theorem fp__law_like : FnP f__law_like p__law_like := fn_body (O := O__law_like) (mw := fun _ => true) (by show SS O__law_like (fun _ => true) m__law_like q__law_like; unfold m__law_like q__law_like; exact ss_seq (ss_ret (ES.r (es_bin o_eq (ES.t (es_b c_repr (at_cons (et_var 0) at_nil))) (ES.t (es_b c_repr (at_cons (et_var 1) at_nil)))))) ss_next) (by decide)
def O__law_row : Nat → Bool := fun k => k == 3
def q__law_row : PSM := qSeq (qAsg (qLst qNil) (qNm 3)) (qSeq (qFor (qiRng1 (qFn pDraw (qCons (qVar 0) (qCons (qBin pAdd (qVar 2) (qC (.int 1))) qNil)))) (qNm 4) (qSeq (qPar 5 6 (qFn p__law_of (qCons (qVar 0) (qCons (qLst (qCons (qC (.str "left")) (qCons (qC (.str "right")) qNil))) qNil))) (qFn pDraw (qCons (qVar 0) (qCons (qBin pSub (qVar 1) (qC (.int 1))) qNil)))) (qSeq (qIfS (qbAnd (qbV (qBin pNe (qVar 3) (qLst qNil))) (qbV (qBin pEq (qFn pDraw (qCons (qVar 0) (qCons (qC (.int 5)) qNil))) (qC (.int 0))))) (qSeq (qPar 5 6 (qIf (qbV (qBin pEq (qBin pIx (qBin pIx (qVar 3) (qNeg (qC (.int 1)))) (qC (.int 0))) (qC (.str "right")))) (qC (.str "left")) (qC (.str "right"))) (qBin pIx (qBin pIx (qVar 3) (qNeg (qC (.int 1)))) (qC (.int 1)))) qNext) qNext) (qSeq (qAppend 3 (qTup (qCons (qVar 5) (qCons (qVar 6) qNil)))) qNext)))) (qSeq (qRet (qB pTupleOf (qCons (qVar 3) qNil))) qNext))
def p__law_row : List P → S → Option (P × S) := bodyP 3 7 q__law_row
theorem fp__law_row : FnP f__law_row p__law_row := fn_body (O := O__law_row) (mw := fun _ => true) (by show SS O__law_row (fun _ => true) m__law_row q__law_row; unfold m__law_row q__law_row; exact ss_seq (ss_own (ef_lst as_nil)) (ss_seq (ss_for (is_rng1 (ES.t (es_fn fp_draw (as_cons (es_var 0) (as_cons (es_bin o_add (et_var 2) (ES.t (es_c (.int 1)))) as_nil))))) (gs_of tg_name) (ss_seq (ss_par (side_p (es_fn fp__law_of (as_cons (es_var 0) (as_cons (EF.s (ef_lst (as_cons (es_c (.str "left")) (as_cons (es_c (.str "right")) as_nil)))) as_nil)))) (side_p (es_fn fp_draw (as_cons (es_var 0) (as_cons (es_bin o_sub (et_var 1) (ES.t (es_c (.int 1)))) as_nil))))) (ss_seq (ss_if (bs_and (bs_v (ES.t (es_bin o_ne (et_var 3) (ES.t (EF.s (ef_lst as_nil)))))) (bs_v (ES.t (es_bin o_eq (ES.t (es_fn fp_draw (as_cons (es_var 0) (as_cons (es_c (.int 5)) as_nil)))) (ES.t (es_c (.int 0))))))) (ss_seq (ss_par (side_p (es_if (bs_v (ES.t (es_bin o_eq (ES.t (es_bin o_ix (ES.t (es_bin o_ix (et_var 3) (ES.t (es_neg (ES.t (es_c (.int 1))))))) (ES.t (es_c (.int 0))))) (ES.t (es_c (.str "right")))))) (es_c (.str "left")) (es_c (.str "right")))) (side_p (es_bin o_ix (ES.t (es_bin o_ix (et_var 3) (ES.t (es_neg (ES.t (es_c (.int 1))))))) (ES.t (es_c (.int 1)))))) ss_next) ss_next) (ss_seq (ss_append (es_tup (as_cons (es_var 5) (as_cons (es_var 6) as_nil)))) ss_next)))) (ss_seq (ss_ret (ES.r (es_b c_tuple (at_cons (et_var 3) at_nil)))) ss_next))) (by decide)
def O__law_back : Nat → Bool := fun _ => false
def q__law_back : PSM := qSeq (qRet (qB pTupleOf (qCons (qLc (qiSeq (qRevT (qVar 0))) [1, 2] (qGT (qGC (qNm 1) (qGC (qNm 2) qGN))) qbYes (qTup (qCons (qIf (qbV (qBin pEq (qVar 1) (qC (.str "right")))) (qC (.str "left")) (qC (.str "right"))) (qCons (qVar 2) qNil)))) qNil))) qNext
def p__law_back : List P → S → Option (P × S) := bodyP 1 3 q__law_back
theorem fp__law_back : FnP f__law_back p__law_back := fn_body (O := O__law_back) (mw := fun _ => true) (by show SS O__law_back (fun _ => true) m__law_back q__law_back; unfold m__law_back q__law_back; exact ss_seq (ss_ret (ES.r (es_b c_tuple (at_cons (ES.t (EF.s (ef_lc (is_seq (es_revT (et_var 0))) (tg_tup (tg_cons tg_name (tg_cons tg_name tg_nil))) bs_yes (es_tup (as_cons (es_if (bs_v (ES.t (es_bin o_eq (et_var 1) (ES.t (es_c (.str "right")))))) (es_c (.str "left")) (es_c (.str "right"))) (as_cons (es_var 2) as_nil)))))) at_nil)))) ss_next) (by decide)
def O__law_walk : Nat → Bool := fun k => k == 2 || k == 3
def q__law_walk : PSM := qSeq (qPar 2 3 (qLstR (qRg1 (qVar 0))) (qLst qNil)) (qSeq (qFor (qiSeq (qVar 1)) (qGT (qGC (qNm 4) (qGC (qNm 5) qGN))) (qSeq (qPar 6 7 (qBin pIx (qVar 2) (qVar 5)) (qBin pIx (qVar 2) (qBin pAdd (qVar 5) (qC (.int 1))))) (qSeq (qAppend 3 (qIf (qbV (qBin pEq (qVar 4) (qC (.str "left")))) (qTup (qCons (qVar 6) (qCons (qVar 7) (qCons (qC (.int 1)) qNil)))) (qTup (qCons (qVar 7) (qCons (qVar 6) (qCons (qNeg (qC (.int 1))) qNil)))))) (qSeq (qAsg (qTup (qCons (qVar 7) (qCons (qVar 6) qNil))) (qGT (qGC (qGSub 2 (qVar 5)) (qGC (qGSub 2 (qBin pAdd (qVar 5) (qC (.int 1)))) qGN)))) qNext)))) (qSeq (qRet (qTup (qCons (qVar 3) (qCons (qB pTupleOf (qCons (qVar 2) qNil)) qNil)))) qNext))
def p__law_walk : List P → S → Option (P × S) := bodyP 2 8 q__law_walk
theorem fp__law_walk : FnP f__law_walk p__law_walk := fn_body (O := O__law_walk) (mw := fun _ => true) (by show SS O__law_walk (fun _ => true) m__law_walk q__law_walk; unfold m__law_walk q__law_walk; exact ss_seq (ss_par (side_o (ef_lstR (rg_1 (et_var 0)))) (side_o (ef_lst as_nil))) (ss_seq (ss_for (is_seq (es_var 1)) (gs_of (tg_tup (tg_cons tg_name (tg_cons tg_name tg_nil)))) (ss_seq (ss_par (side_p (es_bin o_ix (et_var 2) (et_var 5))) (side_p (es_bin o_ix (et_var 2) (ES.t (es_bin o_add (et_var 5) (ES.t (es_c (.int 1)))))))) (ss_seq (ss_append (es_if (bs_v (ES.t (es_bin o_eq (et_var 4) (ES.t (es_c (.str "left")))))) (es_tup (as_cons (es_var 6) (as_cons (es_var 7) (as_cons (es_c (.int 1)) as_nil)))) (es_tup (as_cons (es_var 7) (as_cons (es_var 6) (as_cons (es_neg (ES.t (es_c (.int 1)))) as_nil)))))) (ss_seq (ss_asg (es_tup (as_cons (es_var 7) (as_cons (es_var 6) as_nil))) (gs_tup' (gs_cons' (gs_sub (et_var 5)) (gs_cons' (gs_sub (ES.t (es_bin o_add (et_var 5) (ES.t (es_c (.int 1)))))) gs_nil')))) ss_next)))) (ss_seq (ss_ret (er_tup (ar_cons (er_var 3) (ar_cons (ES.r (es_b c_tuple (at_cons (et_var 2) at_nil))) ar_nil)))) ss_next))) (by decide)
def O__law_ways : Nat → Bool := fun k => k == 3
def q__law_ways : PSM := qSeq (qAsg (qLstR (qRg1 (qVar 0))) (qNm 2)) (qSeq (qAsg (qLst (qCons (qB pTupleOf (qCons (qVar 2) qNil)) qNil)) (qNm 3)) (qSeq (qFor (qiSeq (qVar 1)) (qGT (qGC (qNm 4) (qGC (qNm 5) qGN))) (qSeq (qAsg (qBin pAdd (qBin pAdd (qSlice (qVar 2) qoNone (qoSome (qVar 5))) (qLst (qCons (qBin pIx (qVar 2) (qBin pAdd (qVar 5) (qC (.int 1)))) (qCons (qBin pIx (qVar 2) (qVar 5)) qNil)))) (qSlice (qVar 2) (qoSome (qBin pAdd (qVar 5) (qC (.int 2)))) qoNone)) (qNm 2)) (qSeq (qAppend 3 (qB pTupleOf (qCons (qVar 2) qNil))) qNext))) (qSeq (qRet (qVar 3)) qNext)))
def p__law_ways : List P → S → Option (P × S) := bodyP 2 6 q__law_ways
theorem fp__law_ways : FnP f__law_ways p__law_ways := fn_body (O := O__law_ways) (mw := fun _ => true) (by show SS O__law_ways (fun _ => true) m__law_ways q__law_ways; unfold m__law_ways q__law_ways; exact ss_seq (ss_asg (EF.s (ef_lstR (rg_1 (et_var 0)))) (gs_of tg_name)) (ss_seq (ss_own (ef_lst (as_cons (es_b c_tuple (at_cons (et_var 2) at_nil)) as_nil))) (ss_seq (ss_for (is_seq (es_var 1)) (gs_of (tg_tup (tg_cons tg_name (tg_cons tg_name tg_nil)))) (ss_seq (ss_asg (es_bin o_add (ES.t (es_bin o_add (ES.t (es_slice (et_var 2) os_none (os_some (et_var 5)))) (ES.t (EF.s (ef_lst (as_cons (es_bin o_ix (et_var 2) (ES.t (es_bin o_add (et_var 5) (ES.t (es_c (.int 1)))))) (as_cons (es_bin o_ix (et_var 2) (et_var 5)) as_nil))))))) (ES.t (es_slice (et_var 2) (os_some (ES.t (es_bin o_add (et_var 5) (ES.t (es_c (.int 2)))))) os_none))) (gs_of tg_name)) (ss_seq (ss_append (es_b c_tuple (at_cons (et_var 2) at_nil))) ss_next))) (ss_seq (ss_ret (er_var 3)) ss_next)))) (by decide)
def O__law_crossed_right : Nat → Bool := fun _ => false
def q__law_crossed_right : PSM := qSeq (qFor (qiRng1 (qVar 0)) (qNm 3) (qSeq (qFor (qiRng1 (qVar 0)) (qNm 4) (qSeq (qIfS (qbV (qBin pNe (qVar 3) (qVar 4))) (qSeq (qAsg (qB pLen (qCons (qLc (qiSeq (qVar 2)) [6] (qNm 6) (qbV (qBin pIn (qTup (qCons (qBin pIx (qVar 6) (qC (.int 0))) (qCons (qBin pIx (qVar 6) (qC (.int 1))) qNil))) (qTup (qCons (qTup (qCons (qVar 3) (qCons (qVar 4) qNil))) (qCons (qTup (qCons (qVar 4) (qCons (qVar 3) qNil))) qNil))))) (qVar 6)) qNil)) (qNm 5)) (qSeq (qIfS (qbNot (qbT (qFn p__law_like (qCons (qFn p_crossed (qCons (qVar 0) (qCons (qVar 1) (qCons (qVar 3) (qCons (qVar 4) qNil))))) (qCons (qVar 5) qNil))))) (qSeq (qRet (qC (.bl false))) qNext) qNext) qNext)) qNext) qNext)) qNext)) (qSeq (qRet (qC (.bl true))) qNext)
def p__law_crossed_right : List P → S → Option (P × S) := bodyP 3 7 q__law_crossed_right
theorem fp__law_crossed_right : FnP f__law_crossed_right p__law_crossed_right := fn_body (O := O__law_crossed_right) (mw := fun _ => true) (by show SS O__law_crossed_right (fun _ => true) m__law_crossed_right q__law_crossed_right; unfold m__law_crossed_right q__law_crossed_right; exact ss_seq (ss_for (is_rng1 (et_var 0)) (gs_of tg_name) (ss_seq (ss_for (is_rng1 (et_var 0)) (gs_of tg_name) (ss_seq (ss_if (bs_v (ES.t (es_bin o_ne (et_var 3) (et_var 4)))) (ss_seq (ss_asg (es_b c_len (at_cons (ES.t (EF.s (ef_lc (is_seq (es_var 2)) tg_name (bs_v (ES.t (es_bin o_in (ES.t (es_tup (as_cons (es_bin o_ix (et_var 6) (ES.t (es_c (.int 0)))) (as_cons (es_bin o_ix (et_var 6) (ES.t (es_c (.int 1)))) as_nil)))) (ES.t (es_tup (as_cons (es_tup (as_cons (es_var 3) (as_cons (es_var 4) as_nil))) (as_cons (es_tup (as_cons (es_var 4) (as_cons (es_var 3) as_nil))) as_nil))))))) (es_var 6)))) at_nil)) (gs_of tg_name)) (ss_seq (ss_if (bs_not (bs_t (ES.t (es_fn fp__law_like (as_cons (es_fn fp_crossed (as_cons (es_var 0) (as_cons (es_var 1) (as_cons (es_var 3) (as_cons (es_var 4) as_nil))))) (as_cons (es_var 5) as_nil)))))) (ss_seq (ss_ret (ES.r (es_c (.bl false)))) ss_next) ss_next) ss_next)) ss_next) ss_next)) ss_next)) (ss_seq (ss_ret (ES.r (es_c (.bl true)))) ss_next)) (by decide)
def O__law_is_row_right : Nat → Bool := fun _ => false
def q__law_is_row_right : PSM := qSeq (qPar 2 3 (qFn p__law_ways (qCons (qVar 0) (qCons (qVar 1) qNil))) (qBin pIx (qFn p__law_walk (qCons (qVar 0) (qCons (qVar 1) qNil))) (qC (.int 0)))) (qSeq (qIfS (qbNot (qbT (qFn p__law_like (qCons (qFn p_order_on_way (qCons (qVar 0) (qCons (qVar 1) qNil))) (qCons (qB pTupleOf (qCons (qVar 2) qNil)) qNil))))) (qSeq (qRet (qC (.bl false))) qNext) qNext) (qSeq (qIfS (qbNot (qbT (qFn p__law_like (qCons (qFn p_order_of (qCons (qVar 0) (qCons (qVar 1) qNil))) (qCons (qBin pIx (qVar 2) (qNeg (qC (.int 1)))) qNil))))) (qSeq (qRet (qC (.bl false))) qNext) qNext) (qSeq (qFor (qiRng1 (qVar 0)) (qNm 4) (qSeq (qAsg (qB pTupleOf (qCons (qLc (qiSeq (qVar 2)) [6] (qNm 6) qbYes (qBin pIndex (qVar 6) (qVar 4))) qNil)) (qNm 5)) (qSeq (qIfS (qbNot (qbT (qFn p__law_like (qCons (qFn p_way_of (qCons (qVar 0) (qCons (qVar 1) (qCons (qVar 4) qNil)))) (qCons (qVar 5) qNil))))) (qSeq (qRet (qC (.bl false))) qNext) qNext) qNext))) (qSeq (qAsg (qB pTupleOf (qCons (qLc (qiSeq (qVar 3)) [7, 8, 9] (qGT (qGC (qNm 7) (qGC (qNm 8) (qGC (qNm 9) qGN)))) qbYes (qTup (qCons (qVar 7) (qCons (qVar 8) (qCons (qIf (qbV (qBin pEq (qVar 9) (qC (.int 1)))) (qC (.str "left")) (qC (.str "right"))) qNil))))) qNil)) (qNm 5)) (qSeq (qRet (qAnd (qFn p__law_like (qCons (qFn p_met (qCons (qVar 0) (qCons (qVar 1) qNil))) (qCons (qVar 5) qNil))) (qFn p__law_crossed_right (qCons (qVar 0) (qCons (qVar 1) (qCons (qVar 3) qNil)))))) qNext)))))
def p__law_is_row_right : List P → S → Option (P × S) := bodyP 2 10 q__law_is_row_right
theorem fp__law_is_row_right : FnP f__law_is_row_right p__law_is_row_right := fn_body (O := O__law_is_row_right) (mw := fun _ => true) (by show SS O__law_is_row_right (fun _ => true) m__law_is_row_right q__law_is_row_right; unfold m__law_is_row_right q__law_is_row_right; exact ss_seq (ss_par (side_p (es_fn fp__law_ways (as_cons (es_var 0) (as_cons (es_var 1) as_nil)))) (side_p (es_bin o_ix (ES.t (es_fn fp__law_walk (as_cons (es_var 0) (as_cons (es_var 1) as_nil)))) (ES.t (es_c (.int 0)))))) (ss_seq (ss_if (bs_not (bs_t (ES.t (es_fn fp__law_like (as_cons (es_fn fp_order_on_way (as_cons (es_var 0) (as_cons (es_var 1) as_nil))) (as_cons (es_b c_tuple (at_cons (et_var 2) at_nil)) as_nil)))))) (ss_seq (ss_ret (ES.r (es_c (.bl false)))) ss_next) ss_next) (ss_seq (ss_if (bs_not (bs_t (ES.t (es_fn fp__law_like (as_cons (es_fn fp_order_of (as_cons (es_var 0) (as_cons (es_var 1) as_nil))) (as_cons (es_bin o_ix (et_var 2) (ES.t (es_neg (ES.t (es_c (.int 1)))))) as_nil)))))) (ss_seq (ss_ret (ES.r (es_c (.bl false)))) ss_next) ss_next) (ss_seq (ss_for (is_rng1 (et_var 0)) (gs_of tg_name) (ss_seq (ss_asg (es_b c_tuple (at_cons (ES.t (EF.s (ef_lc (is_seq (es_var 2)) tg_name bs_yes (es_bin o_index (et_var 6) (et_var 4))))) at_nil)) (gs_of tg_name)) (ss_seq (ss_if (bs_not (bs_t (ES.t (es_fn fp__law_like (as_cons (es_fn fp_way_of (as_cons (es_var 0) (as_cons (es_var 1) (as_cons (es_var 4) as_nil)))) (as_cons (es_var 5) as_nil)))))) (ss_seq (ss_ret (ES.r (es_c (.bl false)))) ss_next) ss_next) ss_next))) (ss_seq (ss_asg (es_b c_tuple (at_cons (ES.t (EF.s (ef_lc (is_seq (es_var 3)) (tg_tup (tg_cons tg_name (tg_cons tg_name (tg_cons tg_name tg_nil)))) bs_yes (es_tup (as_cons (es_var 7) (as_cons (es_var 8) (as_cons (es_if (bs_v (ES.t (es_bin o_eq (et_var 9) (ES.t (es_c (.int 1)))))) (es_c (.str "left")) (es_c (.str "right"))) as_nil))))))) at_nil)) (gs_of tg_name)) (ss_seq (ss_ret (ES.r (es_and (es_fn fp__law_like (as_cons (es_fn fp_met (as_cons (es_var 0) (as_cons (es_var 1) as_nil))) (as_cons (es_var 5) as_nil))) (es_fn fp__law_crossed_right (as_cons (es_var 0) (as_cons (es_var 1) (as_cons (es_var 3) as_nil))))))) ss_next)))))) (by decide)
def O__law_mirror : Nat → Bool := fun _ => false
def q__law_mirror : PSM := qSeq (qRet (qB pTupleOf (qCons (qLc (qiSeq (qVar 1)) [2, 3] (qGT (qGC (qNm 2) (qGC (qNm 3) qGN))) qbYes (qTup (qCons (qIf (qbV (qBin pEq (qVar 2) (qC (.str "right")))) (qC (.str "left")) (qC (.str "right"))) (qCons (qBin pSub (qBin pSub (qVar 0) (qC (.int 2))) (qVar 3)) qNil)))) qNil))) qNext
def p__law_mirror : List P → S → Option (P × S) := bodyP 2 4 q__law_mirror
theorem fp__law_mirror : FnP f__law_mirror p__law_mirror := fn_body (O := O__law_mirror) (mw := fun _ => true) (by show SS O__law_mirror (fun _ => true) m__law_mirror q__law_mirror; unfold m__law_mirror q__law_mirror; exact ss_seq (ss_ret (ES.r (es_b c_tuple (at_cons (ES.t (EF.s (ef_lc (is_seq (es_var 1)) (tg_tup (tg_cons tg_name (tg_cons tg_name tg_nil))) bs_yes (es_tup (as_cons (es_if (bs_v (ES.t (es_bin o_eq (et_var 2) (ES.t (es_c (.str "right")))))) (es_c (.str "left")) (es_c (.str "right"))) (as_cons (es_bin o_sub (ES.t (es_bin o_sub (et_var 0) (ES.t (es_c (.int 2))))) (et_var 3)) as_nil)))))) at_nil)))) ss_next) (by decide)
def O__law_over : Nat → Bool := fun _ => false
def q__law_over : PSM := qSeq (qRet (qB pTupleOf (qCons (qLc (qiSeq (qVar 0)) [1, 2] (qGT (qGC (qNm 1) (qGC (qNm 2) qGN))) qbYes (qTup (qCons (qIf (qbV (qBin pEq (qVar 1) (qC (.str "right")))) (qC (.str "left")) (qC (.str "right"))) (qCons (qVar 2) qNil)))) qNil))) qNext
def p__law_over : List P → S → Option (P × S) := bodyP 1 3 q__law_over
theorem fp__law_over : FnP f__law_over p__law_over := fn_body (O := O__law_over) (mw := fun _ => true) (by show SS O__law_over (fun _ => true) m__law_over q__law_over; unfold m__law_over q__law_over; exact ss_seq (ss_ret (ES.r (es_b c_tuple (at_cons (ES.t (EF.s (ef_lc (is_seq (es_var 0)) (tg_tup (tg_cons tg_name (tg_cons tg_name tg_nil))) bs_yes (es_tup (as_cons (es_if (bs_v (ES.t (es_bin o_eq (et_var 1) (ES.t (es_c (.str "right")))))) (es_c (.str "left")) (es_c (.str "right"))) (as_cons (es_var 2) as_nil)))))) at_nil)))) ss_next) (by decide)
def O__law_other_sides : Nat → Bool := fun _ => false
def q__law_other_sides : PSM := qSeq (qRet (qIf (qbV (qBin pEq (qVar 0) (qC (.str "right")))) (qC (.str "left")) (qC (.str "right")))) qNext
def p__law_other_sides : List P → S → Option (P × S) := bodyP 1 1 q__law_other_sides
theorem fp__law_other_sides : FnP f__law_other_sides p__law_other_sides := fn_body (O := O__law_other_sides) (mw := fun _ => true) (by show SS O__law_other_sides (fun _ => true) m__law_other_sides q__law_other_sides; unfold m__law_other_sides q__law_other_sides; exact ss_seq (ss_ret (ES.r (es_if (bs_v (ES.t (es_bin o_eq (et_var 0) (ES.t (es_c (.str "right")))))) (es_c (.str "left")) (es_c (.str "right"))))) ss_next) (by decide)
def O__law_made_right : Nat → Bool := fun _ => false
def q__law_made_right : PSM := qSeq (qPar3 2 3 4 (qFn p__law_back (qCons (qVar 1) qNil)) (qFn p__law_mirror (qCons (qVar 0) (qCons (qVar 1) qNil))) (qFn p__law_over (qCons (qVar 1) qNil))) (qSeq (qAsg (qLst (qCons (qFn p_back_row (qCons (qVar 0) (qCons (qVar 1) qNil))) (qCons (qFn p_mirrored (qCons (qVar 0) (qCons (qVar 1) qNil))) (qCons (qFn p_turned_over (qCons (qVar 0) (qCons (qVar 1) qNil))) qNil)))) (qNm 5)) (qSeq (qIfS (qbNot (qbT (qFn p__law_like (qCons (qVar 5) (qCons (qLst (qCons (qVar 2) (qCons (qVar 3) (qCons (qVar 4) qNil)))) qNil))))) (qSeq (qRet (qC (.bl false))) qNext) qNext) (qSeq (qAsg (qBin pIx (qFn p__law_ways (qCons (qVar 0) (qCons (qVar 1) qNil))) (qNeg (qC (.int 1)))) (qNm 6)) (qSeq (qAsg (qB pTupleOf (qCons (qLc (qiRng1 (qVar 0)) [8] (qNm 8) qbYes (qBin pIndex (qVar 6) (qVar 8))) qNil)) (qNm 7)) (qSeq (qAsg (qB pTupleOf (qCons (qLc (qiRng1 (qVar 0)) [8] (qNm 8) qbYes (qBin pSub (qBin pSub (qVar 0) (qC (.int 1))) (qBin pIx (qVar 6) (qBin pSub (qBin pSub (qVar 0) (qC (.int 1))) (qVar 8))))) qNil)) (qNm 9)) (qSeq (qIfS (qbNot (qbT (qFn p__law_like (qCons (qLc (qiSeq (qVar 5)) [10] (qNm 10) qbYes (qFn p_order_of (qCons (qVar 0) (qCons (qVar 10) qNil)))) (qCons (qLst (qCons (qVar 7) (qCons (qVar 9) (qCons (qVar 6) qNil)))) qNil))))) (qSeq (qRet (qC (.bl false))) qNext) qNext) (qSeq (qAsg (qFn p_met (qCons (qVar 0) (qCons (qVar 1) qNil))) (qNm 11)) (qSeq (qAsg (qBin pSub (qVar 0) (qC (.int 1))) (qNm 12)) (qSeq (qAsg (qB pTupleOf (qCons (qLc (qiSeq (qVar 11)) [10] (qNm 10) qbYes (qTup (qCons (qBin pSub (qVar 12) (qBin pIx (qVar 10) (qC (.int 0)))) (qCons (qBin pSub (qVar 12) (qBin pIx (qVar 10) (qC (.int 1)))) (qCons (qFn p__law_other_sides (qCons (qBin pIx (qVar 10) (qC (.int 2))) qNil)) qNil))))) qNil)) (qNm 13)) (qSeq (qAsg (qB pTupleOf (qCons (qLc (qiSeq (qVar 11)) [10] (qNm 10) qbYes (qTup (qCons (qBin pIx (qVar 10) (qC (.int 1))) (qCons (qBin pIx (qVar 10) (qC (.int 0))) (qCons (qFn p__law_other_sides (qCons (qBin pIx (qVar 10) (qC (.int 2))) qNil)) qNil))))) qNil)) (qNm 14)) (qSeq (qRet (qFn p__law_like (qCons (qLst (qCons (qFn p_met (qCons (qVar 0) (qCons (qBin pIx (qVar 5) (qC (.int 1))) qNil))) (qCons (qFn p_met (qCons (qVar 0) (qCons (qBin pIx (qVar 5) (qC (.int 2))) qNil))) qNil))) (qCons (qLst (qCons (qVar 13) (qCons (qVar 14) qNil))) qNil)))) qNext)))))))))))
def p__law_made_right : List P → S → Option (P × S) := bodyP 2 15 q__law_made_right
theorem fp__law_made_right : FnP f__law_made_right p__law_made_right := fn_body (O := O__law_made_right) (mw := fun _ => true) (by show SS O__law_made_right (fun _ => true) m__law_made_right q__law_made_right; unfold m__law_made_right q__law_made_right; exact ss_seq (ss_par3 (side_p (es_fn fp__law_back (as_cons (es_var 1) as_nil))) (es_fn fp__law_mirror (as_cons (es_var 0) (as_cons (es_var 1) as_nil))) (es_fn fp__law_over (as_cons (es_var 1) as_nil))) (ss_seq (ss_asg (EF.s (ef_lst (as_cons (es_fn fp_back_row (as_cons (es_var 0) (as_cons (es_var 1) as_nil))) (as_cons (es_fn fp_mirrored (as_cons (es_var 0) (as_cons (es_var 1) as_nil))) (as_cons (es_fn fp_turned_over (as_cons (es_var 0) (as_cons (es_var 1) as_nil))) as_nil))))) (gs_of tg_name)) (ss_seq (ss_if (bs_not (bs_t (ES.t (es_fn fp__law_like (as_cons (es_var 5) (as_cons (EF.s (ef_lst (as_cons (es_var 2) (as_cons (es_var 3) (as_cons (es_var 4) as_nil))))) as_nil)))))) (ss_seq (ss_ret (ES.r (es_c (.bl false)))) ss_next) ss_next) (ss_seq (ss_asg (es_bin o_ix (ES.t (es_fn fp__law_ways (as_cons (es_var 0) (as_cons (es_var 1) as_nil)))) (ES.t (es_neg (ES.t (es_c (.int 1)))))) (gs_of tg_name)) (ss_seq (ss_asg (es_b c_tuple (at_cons (ES.t (EF.s (ef_lc (is_rng1 (et_var 0)) tg_name bs_yes (es_bin o_index (et_var 6) (et_var 8))))) at_nil)) (gs_of tg_name)) (ss_seq (ss_asg (es_b c_tuple (at_cons (ES.t (EF.s (ef_lc (is_rng1 (et_var 0)) tg_name bs_yes (es_bin o_sub (ES.t (es_bin o_sub (et_var 0) (ES.t (es_c (.int 1))))) (ES.t (es_bin o_ix (et_var 6) (ES.t (es_bin o_sub (ES.t (es_bin o_sub (et_var 0) (ES.t (es_c (.int 1))))) (et_var 8))))))))) at_nil)) (gs_of tg_name)) (ss_seq (ss_if (bs_not (bs_t (ES.t (es_fn fp__law_like (as_cons (EF.s (ef_lc (is_seq (es_var 5)) tg_name bs_yes (es_fn fp_order_of (as_cons (es_var 0) (as_cons (es_var 10) as_nil))))) (as_cons (EF.s (ef_lst (as_cons (es_var 7) (as_cons (es_var 9) (as_cons (es_var 6) as_nil))))) as_nil)))))) (ss_seq (ss_ret (ES.r (es_c (.bl false)))) ss_next) ss_next) (ss_seq (ss_asg (es_fn fp_met (as_cons (es_var 0) (as_cons (es_var 1) as_nil))) (gs_of tg_name)) (ss_seq (ss_asg (es_bin o_sub (et_var 0) (ES.t (es_c (.int 1)))) (gs_of tg_name)) (ss_seq (ss_asg (es_b c_tuple (at_cons (ES.t (EF.s (ef_lc (is_seq (es_var 11)) tg_name bs_yes (es_tup (as_cons (es_bin o_sub (et_var 12) (ES.t (es_bin o_ix (et_var 10) (ES.t (es_c (.int 0)))))) (as_cons (es_bin o_sub (et_var 12) (ES.t (es_bin o_ix (et_var 10) (ES.t (es_c (.int 1)))))) (as_cons (es_fn fp__law_other_sides (as_cons (es_bin o_ix (et_var 10) (ES.t (es_c (.int 2)))) as_nil)) as_nil))))))) at_nil)) (gs_of tg_name)) (ss_seq (ss_asg (es_b c_tuple (at_cons (ES.t (EF.s (ef_lc (is_seq (es_var 11)) tg_name bs_yes (es_tup (as_cons (es_bin o_ix (et_var 10) (ES.t (es_c (.int 1)))) (as_cons (es_bin o_ix (et_var 10) (ES.t (es_c (.int 0)))) (as_cons (es_fn fp__law_other_sides (as_cons (es_bin o_ix (et_var 10) (ES.t (es_c (.int 2)))) as_nil)) as_nil))))))) at_nil)) (gs_of tg_name)) (ss_seq (ss_ret (ES.r (es_fn fp__law_like (as_cons (EF.s (ef_lst (as_cons (es_fn fp_met (as_cons (es_var 0) (as_cons (es_bin o_ix (et_var 5) (ES.t (es_c (.int 1)))) as_nil))) (as_cons (es_fn fp_met (as_cons (es_var 0) (as_cons (es_bin o_ix (et_var 5) (ES.t (es_c (.int 2)))) as_nil))) as_nil)))) (as_cons (EF.s (ef_lst (as_cons (es_var 13) (as_cons (es_var 14) as_nil)))) as_nil))))) ss_next)))))))))))) (by decide)
def O__law_twice_right : Nat → Bool := fun _ => false
def tp__law_twice_right : PTbl := fun x => if x = "back_row" then some (2, p_back_row) else (fun x => if x = "mirrored" then some (2, p_mirrored) else (fun x => if x = "turned_over" then some (2, p_turned_over) else (fun _ => none) x) x) x
theorem tpo__law_twice_right : TblP t__law_twice_right tp__law_twice_right := tblP_cons fp_back_row (tblP_cons fp_mirrored (tblP_cons fp_turned_over (tblP_nil)))
def q__law_twice_right : PSM := qSeq (qAsg (qLst (qCons (qC (.fn "back_row")) (qCons (qC (.fn "mirrored")) (qCons (qC (.fn "turned_over")) qNil)))) (qNm 2)) (qSeq (qFor (qiSeq (qVar 2)) (qNm 3) (qSeq (qIfS (qbNot (qbT (qFn p__law_like (qCons (qCallL 3 tp__law_twice_right (qCons (qVar 0) (qCons (qCallL 3 tp__law_twice_right (qCons (qVar 0) (qCons (qVar 1) qNil))) qNil))) (qCons (qVar 1) qNil))))) (qSeq (qRet (qC (.bl false))) qNext) qNext) (qSeq (qFor (qiSeq (qVar 2)) (qNm 4) (qSeq (qIfS (qbNot (qbT (qFn p__law_like (qCons (qCallL 3 tp__law_twice_right (qCons (qVar 0) (qCons (qCallL 4 tp__law_twice_right (qCons (qVar 0) (qCons (qVar 1) qNil))) qNil))) (qCons (qCallL 4 tp__law_twice_right (qCons (qVar 0) (qCons (qCallL 3 tp__law_twice_right (qCons (qVar 0) (qCons (qVar 1) qNil))) qNil))) qNil))))) (qSeq (qRet (qC (.bl false))) qNext) qNext) qNext)) qNext))) (qSeq (qRet (qC (.bl true))) qNext))
def p__law_twice_right : List P → S → Option (P × S) := bodyP 2 5 q__law_twice_right
theorem fp__law_twice_right : FnP f__law_twice_right p__law_twice_right := fn_body (O := O__law_twice_right) (mw := fun _ => true) (by show SS O__law_twice_right (fun _ => true) m__law_twice_right q__law_twice_right; unfold m__law_twice_right q__law_twice_right; exact ss_seq (ss_asg (EF.s (ef_lst (as_cons (es_c (.fn "back_row")) (as_cons (es_c (.fn "mirrored")) (as_cons (es_c (.fn "turned_over")) as_nil))))) (gs_of tg_name)) (ss_seq (ss_for (is_seq (es_var 2)) (gs_of tg_name) (ss_seq (ss_if (bs_not (bs_t (ES.t (es_fn fp__law_like (as_cons (es_callL tpo__law_twice_right (as_cons (es_var 0) (as_cons (es_callL tpo__law_twice_right (as_cons (es_var 0) (as_cons (es_var 1) as_nil))) as_nil))) (as_cons (es_var 1) as_nil)))))) (ss_seq (ss_ret (ES.r (es_c (.bl false)))) ss_next) ss_next) (ss_seq (ss_for (is_seq (es_var 2)) (gs_of tg_name) (ss_seq (ss_if (bs_not (bs_t (ES.t (es_fn fp__law_like (as_cons (es_callL tpo__law_twice_right (as_cons (es_var 0) (as_cons (es_callL tpo__law_twice_right (as_cons (es_var 0) (as_cons (es_var 1) as_nil))) as_nil))) (as_cons (es_callL tpo__law_twice_right (as_cons (es_var 0) (as_cons (es_callL tpo__law_twice_right (as_cons (es_var 0) (as_cons (es_var 1) as_nil))) as_nil))) as_nil)))))) (ss_seq (ss_ret (ES.r (es_c (.bl false)))) ss_next) ss_next) ss_next)) ss_next))) (ss_seq (ss_ret (ES.r (es_c (.bl true)))) ss_next))) (by decide)
def O__law_back_right : Nat → Bool := fun _ => false
def q__law_back_right : PSM := qSeq (qIfS (qbV (qBin pGt (qB pLen (qCons (qVar 1) qNil)) (qC (.int 30)))) (qSeq (qRet (qC (.bl true))) qNext) qNext) (qSeq (qRet (qFn p__law_like (qCons (qFn p_order_of (qCons (qVar 0) (qCons (qBin pAdd (qVar 1) (qFn p_back_row (qCons (qVar 0) (qCons (qVar 1) qNil)))) qNil))) (qCons (qTupR (qRg1 (qVar 0))) qNil)))) qNext)
def p__law_back_right : List P → S → Option (P × S) := bodyP 2 2 q__law_back_right
theorem fp__law_back_right : FnP f__law_back_right p__law_back_right := fn_body (O := O__law_back_right) (mw := fun _ => true) (by show SS O__law_back_right (fun _ => true) m__law_back_right q__law_back_right; unfold m__law_back_right q__law_back_right; exact ss_seq (ss_if (bs_v (ES.t (es_bin o_gt (ES.t (es_b c_len (at_cons (et_var 1) at_nil))) (ES.t (es_c (.int 30)))))) (ss_seq (ss_ret (ES.r (es_c (.bl true)))) ss_next) ss_next) (ss_seq (ss_ret (ES.r (es_fn fp__law_like (as_cons (es_fn fp_order_of (as_cons (es_var 0) (as_cons (es_bin o_add (et_var 1) (ES.t (es_fn fp_back_row (as_cons (es_var 0) (as_cons (es_var 1) as_nil))))) as_nil))) (as_cons (es_tupR (rg_1 (et_var 0))) as_nil))))) ss_next)) (by decide)
def O__law_names_right : Nat → Bool := fun _ => false
def q__law_names_right : PSM := qSeq (qAsg (qLst (qCons (qFnK 2 [1, 0] p_order_of (qCons (qVar 1) (qCons (qVar 0) qNil))) (qCons (qFnK 2 [1, 0] p_order_on_way (qCons (qVar 1) (qCons (qVar 0) qNil))) qNil))) (qNm 2)) (qSeq (qAsg (qBin pAdd (qVar 2) (qLst (qCons (qFnK 3 [2, 1, 0] p_way_of (qCons (qC (.int 1)) (qCons (qVar 1) (qCons (qVar 0) qNil)))) (qCons (qFnK 2 [1, 0] p_met (qCons (qVar 1) (qCons (qVar 0) qNil))) qNil)))) (qNm 2)) (qSeq (qAsg (qBin pAdd (qVar 2) (qLst (qCons (qFnK 2 [1, 0] p_back_row (qCons (qVar 1) (qCons (qVar 0) qNil))) (qCons (qFnK 2 [1, 0] p_mirrored (qCons (qVar 1) (qCons (qVar 0) qNil))) qNil)))) (qNm 2)) (qSeq (qAsg (qBin pAdd (qVar 2) (qLst (qCons (qFnK 2 [1, 0] p_turned_over (qCons (qVar 1) (qCons (qVar 0) qNil))) (qCons (qFnK 4 [3, 2, 1, 0] p_crossed (qCons (qC (.int 0)) (qCons (qC (.int 1)) (qCons (qVar 1) (qCons (qVar 0) qNil))))) qNil)))) (qNm 2)) (qSeq (qAsg (qLst (qCons (qFn p_order_of (qCons (qVar 0) (qCons (qVar 1) qNil))) (qCons (qFn p_order_on_way (qCons (qVar 0) (qCons (qVar 1) qNil))) (qCons (qFn p_way_of (qCons (qVar 0) (qCons (qVar 1) (qCons (qC (.int 1)) qNil)))) qNil)))) (qNm 3)) (qSeq (qAsg (qBin pAdd (qVar 3) (qLst (qCons (qFn p_met (qCons (qVar 0) (qCons (qVar 1) qNil))) (qCons (qFn p_back_row (qCons (qVar 0) (qCons (qVar 1) qNil))) (qCons (qFn p_mirrored (qCons (qVar 0) (qCons (qVar 1) qNil))) qNil))))) (qNm 3)) (qSeq (qRet (qFn p__law_like (qCons (qVar 2) (qCons (qBin pAdd (qVar 3) (qLst (qCons (qFn p_turned_over (qCons (qVar 0) (qCons (qVar 1) qNil))) (qCons (qFn p_crossed (qCons (qVar 0) (qCons (qVar 1) (qCons (qC (.int 1)) (qCons (qC (.int 0)) qNil))))) qNil)))) qNil)))) qNext))))))
def p__law_names_right : List P → S → Option (P × S) := bodyP 2 4 q__law_names_right
theorem fp__law_names_right : FnP f__law_names_right p__law_names_right := fn_body (O := O__law_names_right) (mw := fun _ => true) (by show SS O__law_names_right (fun _ => true) m__law_names_right q__law_names_right; unfold m__law_names_right q__law_names_right; exact ss_seq (ss_asg (EF.s (ef_lst (as_cons (es_fnK fp_order_of (as_cons (es_var 1) (as_cons (es_var 0) as_nil))) (as_cons (es_fnK fp_order_on_way (as_cons (es_var 1) (as_cons (es_var 0) as_nil))) as_nil)))) (gs_of tg_name)) (ss_seq (ss_asg (es_bin o_add (et_var 2) (ES.t (EF.s (ef_lst (as_cons (es_fnK fp_way_of (as_cons (es_c (.int 1)) (as_cons (es_var 1) (as_cons (es_var 0) as_nil)))) (as_cons (es_fnK fp_met (as_cons (es_var 1) (as_cons (es_var 0) as_nil))) as_nil)))))) (gs_of tg_name)) (ss_seq (ss_asg (es_bin o_add (et_var 2) (ES.t (EF.s (ef_lst (as_cons (es_fnK fp_back_row (as_cons (es_var 1) (as_cons (es_var 0) as_nil))) (as_cons (es_fnK fp_mirrored (as_cons (es_var 1) (as_cons (es_var 0) as_nil))) as_nil)))))) (gs_of tg_name)) (ss_seq (ss_asg (es_bin o_add (et_var 2) (ES.t (EF.s (ef_lst (as_cons (es_fnK fp_turned_over (as_cons (es_var 1) (as_cons (es_var 0) as_nil))) (as_cons (es_fnK fp_crossed (as_cons (es_c (.int 0)) (as_cons (es_c (.int 1)) (as_cons (es_var 1) (as_cons (es_var 0) as_nil))))) as_nil)))))) (gs_of tg_name)) (ss_seq (ss_asg (EF.s (ef_lst (as_cons (es_fn fp_order_of (as_cons (es_var 0) (as_cons (es_var 1) as_nil))) (as_cons (es_fn fp_order_on_way (as_cons (es_var 0) (as_cons (es_var 1) as_nil))) (as_cons (es_fn fp_way_of (as_cons (es_var 0) (as_cons (es_var 1) (as_cons (es_c (.int 1)) as_nil)))) as_nil))))) (gs_of tg_name)) (ss_seq (ss_asg (es_bin o_add (et_var 3) (ES.t (EF.s (ef_lst (as_cons (es_fn fp_met (as_cons (es_var 0) (as_cons (es_var 1) as_nil))) (as_cons (es_fn fp_back_row (as_cons (es_var 0) (as_cons (es_var 1) as_nil))) (as_cons (es_fn fp_mirrored (as_cons (es_var 0) (as_cons (es_var 1) as_nil))) as_nil))))))) (gs_of tg_name)) (ss_seq (ss_ret (ES.r (es_fn fp__law_like (as_cons (es_var 2) (as_cons (es_bin o_add (et_var 3) (ES.t (EF.s (ef_lst (as_cons (es_fn fp_turned_over (as_cons (es_var 0) (as_cons (es_var 1) as_nil))) (as_cons (es_fn fp_crossed (as_cons (es_var 0) (as_cons (es_var 1) (as_cons (es_c (.int 1)) (as_cons (es_c (.int 0)) as_nil))))) as_nil)))))) as_nil))))) ss_next))))))) (by decide)
def O_law : Nat → Bool := fun k => k == 2
def q_law : PSM := qSeq (qAsg (qLst qNil) (qNm 2)) (qSeq (qFor (qiRng1 (qC (.int 2))) (qNm 3) (qSeq (qAsg (qBin pAdd (qC (.int 2)) (qFn pDraw (qCons (qVar 1) (qCons (qC (.int 4)) qNil)))) (qNm 4)) (qSeq (qAsg (qFn p__law_row (qCons (qVar 1) (qCons (qVar 4) (qCons (qC (.int 8)) qNil)))) (qNm 5)) (qSeq (qIfS (qbV (qBin pEq (qFn pDraw (qCons (qVar 1) (qCons (qC (.int 6)) qNil))) (qC (.int 0)))) (qSeq (qAsg (qSlice (qBin pMulT (qVar 5) (qC (.int 60))) qoNone (qoSome (qC (.int 60)))) (qNm 5)) qNext) qNext) (qSeq (qAppend 2 (qTup (qCons (qVar 4) (qCons (qVar 5) qNil)))) qNext))))) (qSeq (qFor (qiSeq (qBin pAdd (qVar 2) (qSlice (qVar 2) qoNone (qoSome (qC (.int 1)))))) (qGT (qGC (qNm 4) (qGC (qNm 5) qGN))) (qSeq (qIfS (qbOr (qbNot (qbT (qFn p__law_is_row_right (qCons (qVar 4) (qCons (qVar 5) qNil))))) (qbNot (qbT (qFn p__law_made_right (qCons (qVar 4) (qCons (qVar 5) qNil)))))) (qSeq (qRet (qC (.bl false))) qNext) qNext) (qSeq (qIfS (qbOr (qbNot (qbT (qFn p__law_twice_right (qCons (qVar 4) (qCons (qVar 5) qNil))))) (qbNot (qbT (qFn p__law_back_right (qCons (qVar 4) (qCons (qVar 5) qNil)))))) (qSeq (qRet (qC (.bl false))) qNext) qNext) qNext))) (qSeq (qRet (qFn p__law_names_right (qCons (qBin pIx (qBin pIx (qVar 2) (qC (.int 0))) (qC (.int 0))) (qCons (qBin pIx (qBin pIx (qVar 2) (qC (.int 0))) (qC (.int 1))) qNil)))) qNext)))
theorem law_split : ∃ r, m_law = sSeq (sAsg (mFn f__law_begun (mCons (mVar 0) mNil)) (gNm 1)) r ∧ SS O_law (fun _ => true) r q_law := ⟨_, rfl, by unfold q_law; exact ss_seq (ss_own (ef_lst as_nil)) (ss_seq (ss_for (is_rng1 (ES.t (es_c (.int 2)))) (gs_of tg_name) (ss_seq (ss_asg (es_bin o_add (ES.t (es_c (.int 2))) (ES.t (es_fn fp_draw (as_cons (es_var 1) (as_cons (es_c (.int 4)) as_nil))))) (gs_of tg_name)) (ss_seq (ss_asg (es_fn fp__law_row (as_cons (es_var 1) (as_cons (es_var 4) (as_cons (es_c (.int 8)) as_nil)))) (gs_of tg_name)) (ss_seq (ss_if (bs_v (ES.t (es_bin o_eq (ES.t (es_fn fp_draw (as_cons (es_var 1) (as_cons (es_c (.int 6)) as_nil)))) (ES.t (es_c (.int 0)))))) (ss_seq (ss_asg (es_slice (ES.t (es_bin o_mulT (et_var 5) (ES.t (es_c (.int 60))))) os_none (os_some (ES.t (es_c (.int 60))))) (gs_of tg_name)) ss_next) ss_next) (ss_seq (ss_append (es_tup (as_cons (es_var 4) (as_cons (es_var 5) as_nil)))) ss_next))))) (ss_seq (ss_for (is_seq (es_bin o_add (et_var 2) (ES.t (es_slice (et_var 2) os_none (os_some (ES.t (es_c (.int 1)))))))) (gs_of (tg_tup (tg_cons tg_name (tg_cons tg_name tg_nil)))) (ss_seq (ss_if (bs_or (bs_not (bs_t (ES.t (es_fn fp__law_is_row_right (as_cons (es_var 4) (as_cons (es_var 5) as_nil)))))) (bs_not (bs_t (ES.t (es_fn fp__law_made_right (as_cons (es_var 4) (as_cons (es_var 5) as_nil))))))) (ss_seq (ss_ret (ES.r (es_c (.bl false)))) ss_next) ss_next) (ss_seq (ss_if (bs_or (bs_not (bs_t (ES.t (es_fn fp__law_twice_right (as_cons (es_var 4) (as_cons (es_var 5) as_nil)))))) (bs_not (bs_t (ES.t (es_fn fp__law_back_right (as_cons (es_var 4) (as_cons (es_var 5) as_nil))))))) (ss_seq (ss_ret (ES.r (es_c (.bl false)))) ss_next) ss_next) ss_next))) (ss_seq (ss_ret (ES.r (es_fn fp__law_names_right (as_cons (es_bin o_ix (ES.t (es_bin o_ix (et_var 2) (ES.t (es_c (.int 0))))) (ES.t (es_c (.int 0)))) (as_cons (es_bin o_ix (ES.t (es_bin o_ix (et_var 2) (ES.t (es_c (.int 0))))) (ES.t (es_c (.int 1)))) as_nil))))) ss_next)))⟩
def lawN : Nat := 6
end K01
namespace K01
open PySem PySem.Spec PyProof.Rows L2 Vm Pu Rw
section
variable {s : S} {n : Nat} {r : List (Bool × Nat)}
theorem w_whole {i : Int} : p_is_whole [.int i] s = some (.bl true, s) := by
  unfold p_is_whole; unfold q_is_whole; simp only [Vm.bind_some', Vm.pick_t, Vm.pick_f, Pu.gq_ok, Pu.z_var, Pu.z_c, Pu.wr_ok, Pu.bq1_ok, Pu.bq2_ok, Pu.z_bin, Pu.iq1_ok, Pu.z_if, Pu.z_ifS, Pu.z_nil, Pu.cq1_ok, Pu.cq2_ok, Pu.z_cons, Pu.fq1_ok, Pu.z_fn, Pu.z_tup, Pu.z_lst, Pu.tupQ_0, Pu.tupQ_1, Pu.tupQ_2, Pu.tupQ_3, Pu.lstQ_0, Pu.lstQ_1, Pu.lstQ_2, Pu.lstQ_3, Pu.lstQ_4, Pu.lstQ_5, Pu.lstQ_6, Pu.bq_ok, Pu.z_b, Pu.blQ_ok, Pu.z_bV, Pu.tq1_ok, Pu.tq2_ok, Pu.z_bT, Pu.aq1_ok, Pu.z_bAnd, Pu.oq1_ok, Pu.z_bOr, Pu.nq1_ok, Pu.z_bNot, Pu.z_yes, Pu.vq1_ok, Pu.vq2_ok, Pu.z_and, Pu.uq1_ok, Pu.uq2_ok, Pu.z_or, Pu.xq1_ok, Pu.xq2_ok, Pu.z_not, Pu.ngQ_ok, Pu.z_neg, Pu.kq3_ok, Pu.kq2_ok, Pu.kq1_ok, Pu.z_chain, Pu.z_oNone, Pu.osQ_ok, Pu.z_oSome, Pu.sq1_ok, Pu.sq2_ok, Pu.sq3_ok, Pu.z_slice, Pu.z_slT, Pu.z_slL, Pu.rvQ_ok, Pu.z_revT, Pu.r1Q_ok, Pu.z_rg1, Pu.z_tupR, Pu.z_lstR, Pu.lq1_ok, Pu.lq2_ok, Pu.lq3_ok, Pu.z_callL, Pu.nq_ok, Pu.z_fnK, Pu.qs_nx, Pu.qs_rt, Pu.qs_bk, Pu.qs_ct, Pu.qs_pick, Pu.z_seq, Pu.z_next, Pu.z_bk, Pu.z_ct, Pu.eq1_ok, Pu.z_expr, Pu.rq1_ok, Pu.z_ret, Pu.z_retN, Pu.gq1_ok, Pu.gq2_ok, Pu.z_asg, Pu.z_nm, Pu.z_gt, Pu.z_gw, Pu.z_gn, Pu.gcq_ok, Pu.z_gc, Pu.sbI_ok, Pu.sbJ_ok, Pu.sbO_ok, Pu.z_sub, Pu.puI_ok, Pu.z_put, Pu.apI_ok, Pu.z_append, Pu.pq1_ok, Pu.pq2_ok, Pu.z_par, Pu.p3q1_ok, Pu.p3q2_ok, Pu.p3q3_ok, Pu.z_par3, Pu.wq_ok, Pu.iqS_ok, Pu.it_tup, Pu.it_lst, Pu.it_rl, Pu.z_iSeq, Pu.z_iRng1, Pu.enQ_tup, Pu.enQ_lst, Pu.z_iEnum, Pu.zq1_ok, Pu.zq2_ok, Pu.z_iZip, Pu.foq_ok, Pu.z_for, Pu.for_nil, Pu.toq_nx, Pu.toq_ct, Pu.toq_bk, Pu.toq_rt, Pu.toq_pick, Pu.tgq_ok, Pu.lcq_ok, Pu.z_lc, Pu.lc_nil, Pu.wp_nil', Pu.wp_cons', Pu.z_body', Pu.finP_nx, Pu.finP_rt, Pu.finP_pick, Pu.y_add, Pu.y_sub, Pu.y_lt, Pu.y_le, Pu.y_gt, Pu.y_ge, Pu.y_eqI, Pu.y_eqS, Pu.y_neI, Pu.y_neS, Pu.y_lenT, Pu.y_lenL, Pu.y_lenR, Pu.y_int, Pu.y_intB, Pu.y_tupT, Pu.y_tupL, Pu.y_lstT, Pu.y_lstL, Pu.y_isii, Pu.y_isib, Pu.y_isss, Pu.y_istt, Pu.y_ixT, Pu.y_ixW, Pu.y_ixL, Pu.at_0, Pu.at_1, Pu.at_2, Pu.tp_non, Pu.tp_bl, Pu.tp_int, Pu.tp_tup, Pu.tp_lst, List.getElem?_cons_zero, List.getElem?_cons_succ, List.set_cons_zero, List.set_cons_succ, List.map_cons, List.map_nil, List.replicate_zero, List.replicate_succ, List.cons_append, List.nil_append, List.append_nil, List.length_cons, List.length_nil, Nat.sub_self, Bool.not_true, Bool.not_false, decide_true, decide_false, Nat.zero_add, Nat.add_one_sub_one, eq_self]
theorem w_below {i m : Int} : p_is_below [.int i, .int m] s = some (.bl (decide (0 ≤ i) && decide (i < m)), s) := by
  unfold p_is_below; unfold q_is_below; simp only [Vm.bind_some', Vm.pick_t, Vm.pick_f, Pu.gq_ok, Pu.z_var, Pu.z_c, Pu.wr_ok, Pu.bq1_ok, Pu.bq2_ok, Pu.z_bin, Pu.iq1_ok, Pu.z_if, Pu.z_ifS, Pu.z_nil, Pu.cq1_ok, Pu.cq2_ok, Pu.z_cons, Pu.fq1_ok, Pu.z_fn, Pu.z_tup, Pu.z_lst, Pu.tupQ_0, Pu.tupQ_1, Pu.tupQ_2, Pu.tupQ_3, Pu.lstQ_0, Pu.lstQ_1, Pu.lstQ_2, Pu.lstQ_3, Pu.lstQ_4, Pu.lstQ_5, Pu.lstQ_6, Pu.bq_ok, Pu.z_b, Pu.blQ_ok, Pu.z_bV, Pu.tq1_ok, Pu.tq2_ok, Pu.z_bT, Pu.aq1_ok, Pu.z_bAnd, Pu.oq1_ok, Pu.z_bOr, Pu.nq1_ok, Pu.z_bNot, Pu.z_yes, Pu.vq1_ok, Pu.vq2_ok, Pu.z_and, Pu.uq1_ok, Pu.uq2_ok, Pu.z_or, Pu.xq1_ok, Pu.xq2_ok, Pu.z_not, Pu.ngQ_ok, Pu.z_neg, Pu.kq3_ok, Pu.kq2_ok, Pu.kq1_ok, Pu.z_chain, Pu.z_oNone, Pu.osQ_ok, Pu.z_oSome, Pu.sq1_ok, Pu.sq2_ok, Pu.sq3_ok, Pu.z_slice, Pu.z_slT, Pu.z_slL, Pu.rvQ_ok, Pu.z_revT, Pu.r1Q_ok, Pu.z_rg1, Pu.z_tupR, Pu.z_lstR, Pu.lq1_ok, Pu.lq2_ok, Pu.lq3_ok, Pu.z_callL, Pu.nq_ok, Pu.z_fnK, Pu.qs_nx, Pu.qs_rt, Pu.qs_bk, Pu.qs_ct, Pu.qs_pick, Pu.z_seq, Pu.z_next, Pu.z_bk, Pu.z_ct, Pu.eq1_ok, Pu.z_expr, Pu.rq1_ok, Pu.z_ret, Pu.z_retN, Pu.gq1_ok, Pu.gq2_ok, Pu.z_asg, Pu.z_nm, Pu.z_gt, Pu.z_gw, Pu.z_gn, Pu.gcq_ok, Pu.z_gc, Pu.sbI_ok, Pu.sbJ_ok, Pu.sbO_ok, Pu.z_sub, Pu.puI_ok, Pu.z_put, Pu.apI_ok, Pu.z_append, Pu.pq1_ok, Pu.pq2_ok, Pu.z_par, Pu.p3q1_ok, Pu.p3q2_ok, Pu.p3q3_ok, Pu.z_par3, Pu.wq_ok, Pu.iqS_ok, Pu.it_tup, Pu.it_lst, Pu.it_rl, Pu.z_iSeq, Pu.z_iRng1, Pu.enQ_tup, Pu.enQ_lst, Pu.z_iEnum, Pu.zq1_ok, Pu.zq2_ok, Pu.z_iZip, Pu.foq_ok, Pu.z_for, Pu.for_nil, Pu.toq_nx, Pu.toq_ct, Pu.toq_bk, Pu.toq_rt, Pu.toq_pick, Pu.tgq_ok, Pu.lcq_ok, Pu.z_lc, Pu.lc_nil, Pu.wp_nil', Pu.wp_cons', Pu.z_body', Pu.finP_nx, Pu.finP_rt, Pu.finP_pick, Pu.y_add, Pu.y_sub, Pu.y_lt, Pu.y_le, Pu.y_gt, Pu.y_ge, Pu.y_eqI, Pu.y_eqS, Pu.y_neI, Pu.y_neS, Pu.y_lenT, Pu.y_lenL, Pu.y_lenR, Pu.y_int, Pu.y_intB, Pu.y_tupT, Pu.y_tupL, Pu.y_lstT, Pu.y_lstL, Pu.y_isii, Pu.y_isib, Pu.y_isss, Pu.y_istt, Pu.y_ixT, Pu.y_ixW, Pu.y_ixL, Pu.at_0, Pu.at_1, Pu.at_2, Pu.tp_non, Pu.tp_bl, Pu.tp_int, Pu.tp_tup, Pu.tp_lst, List.getElem?_cons_zero, List.getElem?_cons_succ, List.set_cons_zero, List.set_cons_succ, List.map_cons, List.map_nil, List.replicate_zero, List.replicate_succ, List.cons_append, List.nil_append, List.append_nil, List.length_cons, List.length_nil, Nat.sub_self, Bool.not_true, Bool.not_false, decide_true, decide_false, Nat.zero_add, Nat.add_one_sub_one, eq_self, w_whole]
  cases decide (0 ≤ i) <;> rfl
theorem w_within {i a b : Int} : p_is_within [.int i, .int a, .int b] s = some (.bl (decide (a ≤ i) && decide (i ≤ b)), s) := by
  unfold p_is_within; unfold q_is_within; simp only [Vm.bind_some', Vm.pick_t, Vm.pick_f, Pu.gq_ok, Pu.z_var, Pu.z_c, Pu.wr_ok, Pu.bq1_ok, Pu.bq2_ok, Pu.z_bin, Pu.iq1_ok, Pu.z_if, Pu.z_ifS, Pu.z_nil, Pu.cq1_ok, Pu.cq2_ok, Pu.z_cons, Pu.fq1_ok, Pu.z_fn, Pu.z_tup, Pu.z_lst, Pu.tupQ_0, Pu.tupQ_1, Pu.tupQ_2, Pu.tupQ_3, Pu.lstQ_0, Pu.lstQ_1, Pu.lstQ_2, Pu.lstQ_3, Pu.lstQ_4, Pu.lstQ_5, Pu.lstQ_6, Pu.bq_ok, Pu.z_b, Pu.blQ_ok, Pu.z_bV, Pu.tq1_ok, Pu.tq2_ok, Pu.z_bT, Pu.aq1_ok, Pu.z_bAnd, Pu.oq1_ok, Pu.z_bOr, Pu.nq1_ok, Pu.z_bNot, Pu.z_yes, Pu.vq1_ok, Pu.vq2_ok, Pu.z_and, Pu.uq1_ok, Pu.uq2_ok, Pu.z_or, Pu.xq1_ok, Pu.xq2_ok, Pu.z_not, Pu.ngQ_ok, Pu.z_neg, Pu.kq3_ok, Pu.kq2_ok, Pu.kq1_ok, Pu.z_chain, Pu.z_oNone, Pu.osQ_ok, Pu.z_oSome, Pu.sq1_ok, Pu.sq2_ok, Pu.sq3_ok, Pu.z_slice, Pu.z_slT, Pu.z_slL, Pu.rvQ_ok, Pu.z_revT, Pu.r1Q_ok, Pu.z_rg1, Pu.z_tupR, Pu.z_lstR, Pu.lq1_ok, Pu.lq2_ok, Pu.lq3_ok, Pu.z_callL, Pu.nq_ok, Pu.z_fnK, Pu.qs_nx, Pu.qs_rt, Pu.qs_bk, Pu.qs_ct, Pu.qs_pick, Pu.z_seq, Pu.z_next, Pu.z_bk, Pu.z_ct, Pu.eq1_ok, Pu.z_expr, Pu.rq1_ok, Pu.z_ret, Pu.z_retN, Pu.gq1_ok, Pu.gq2_ok, Pu.z_asg, Pu.z_nm, Pu.z_gt, Pu.z_gw, Pu.z_gn, Pu.gcq_ok, Pu.z_gc, Pu.sbI_ok, Pu.sbJ_ok, Pu.sbO_ok, Pu.z_sub, Pu.puI_ok, Pu.z_put, Pu.apI_ok, Pu.z_append, Pu.pq1_ok, Pu.pq2_ok, Pu.z_par, Pu.p3q1_ok, Pu.p3q2_ok, Pu.p3q3_ok, Pu.z_par3, Pu.wq_ok, Pu.iqS_ok, Pu.it_tup, Pu.it_lst, Pu.it_rl, Pu.z_iSeq, Pu.z_iRng1, Pu.enQ_tup, Pu.enQ_lst, Pu.z_iEnum, Pu.zq1_ok, Pu.zq2_ok, Pu.z_iZip, Pu.foq_ok, Pu.z_for, Pu.for_nil, Pu.toq_nx, Pu.toq_ct, Pu.toq_bk, Pu.toq_rt, Pu.toq_pick, Pu.tgq_ok, Pu.lcq_ok, Pu.z_lc, Pu.lc_nil, Pu.wp_nil', Pu.wp_cons', Pu.z_body', Pu.finP_nx, Pu.finP_rt, Pu.finP_pick, Pu.y_add, Pu.y_sub, Pu.y_lt, Pu.y_le, Pu.y_gt, Pu.y_ge, Pu.y_eqI, Pu.y_eqS, Pu.y_neI, Pu.y_neS, Pu.y_lenT, Pu.y_lenL, Pu.y_lenR, Pu.y_int, Pu.y_intB, Pu.y_tupT, Pu.y_tupL, Pu.y_lstT, Pu.y_lstL, Pu.y_isii, Pu.y_isib, Pu.y_isss, Pu.y_istt, Pu.y_ixT, Pu.y_ixW, Pu.y_ixL, Pu.at_0, Pu.at_1, Pu.at_2, Pu.tp_non, Pu.tp_bl, Pu.tp_int, Pu.tp_tup, Pu.tp_lst, List.getElem?_cons_zero, List.getElem?_cons_succ, List.set_cons_zero, List.set_cons_succ, List.map_cons, List.map_nil, List.replicate_zero, List.replicate_succ, List.cons_append, List.nil_append, List.append_nil, List.length_cons, List.length_nil, Nat.sub_self, Bool.not_true, Bool.not_false, decide_true, decide_false, Nat.zero_add, Nat.add_one_sub_one, eq_self, w_whole]
  cases decide (a ≤ i) <;> rfl
theorem so_l : PyData.strOk ("left" : Str) = true := by decide +kernel
theorem so_r : PyData.strOk ("right" : Str) = true := by decide +kernel
theorem y_side {b : Bool} : pIn (.str (sd b)) (.tup [.str "left", .str "right"]) = some (.bl true) := by
  cases b <;> simp [pIn, pyP, deep, sd, SeqAt.shaped, PyData.canLay0, PyData.canLayAll0, PyData.depth, PyData.depthAll, so_l, so_r, PyData.eqv]
theorem w_one_of {b : Bool} : p_is_one_of [.str (sd b), .tup [.str "left", .str "right"]] s = some (.bl true, s) := by
  unfold p_is_one_of; unfold q_is_one_of; simp only [Vm.bind_some', Vm.pick_t, Vm.pick_f, Pu.gq_ok, Pu.z_var, Pu.z_c, Pu.wr_ok, Pu.bq1_ok, Pu.bq2_ok, Pu.z_bin, Pu.iq1_ok, Pu.z_if, Pu.z_ifS, Pu.z_nil, Pu.cq1_ok, Pu.cq2_ok, Pu.z_cons, Pu.fq1_ok, Pu.z_fn, Pu.z_tup, Pu.z_lst, Pu.tupQ_0, Pu.tupQ_1, Pu.tupQ_2, Pu.tupQ_3, Pu.lstQ_0, Pu.lstQ_1, Pu.lstQ_2, Pu.lstQ_3, Pu.lstQ_4, Pu.lstQ_5, Pu.lstQ_6, Pu.bq_ok, Pu.z_b, Pu.blQ_ok, Pu.z_bV, Pu.tq1_ok, Pu.tq2_ok, Pu.z_bT, Pu.aq1_ok, Pu.z_bAnd, Pu.oq1_ok, Pu.z_bOr, Pu.nq1_ok, Pu.z_bNot, Pu.z_yes, Pu.vq1_ok, Pu.vq2_ok, Pu.z_and, Pu.uq1_ok, Pu.uq2_ok, Pu.z_or, Pu.xq1_ok, Pu.xq2_ok, Pu.z_not, Pu.ngQ_ok, Pu.z_neg, Pu.kq3_ok, Pu.kq2_ok, Pu.kq1_ok, Pu.z_chain, Pu.z_oNone, Pu.osQ_ok, Pu.z_oSome, Pu.sq1_ok, Pu.sq2_ok, Pu.sq3_ok, Pu.z_slice, Pu.z_slT, Pu.z_slL, Pu.rvQ_ok, Pu.z_revT, Pu.r1Q_ok, Pu.z_rg1, Pu.z_tupR, Pu.z_lstR, Pu.lq1_ok, Pu.lq2_ok, Pu.lq3_ok, Pu.z_callL, Pu.nq_ok, Pu.z_fnK, Pu.qs_nx, Pu.qs_rt, Pu.qs_bk, Pu.qs_ct, Pu.qs_pick, Pu.z_seq, Pu.z_next, Pu.z_bk, Pu.z_ct, Pu.eq1_ok, Pu.z_expr, Pu.rq1_ok, Pu.z_ret, Pu.z_retN, Pu.gq1_ok, Pu.gq2_ok, Pu.z_asg, Pu.z_nm, Pu.z_gt, Pu.z_gw, Pu.z_gn, Pu.gcq_ok, Pu.z_gc, Pu.sbI_ok, Pu.sbJ_ok, Pu.sbO_ok, Pu.z_sub, Pu.puI_ok, Pu.z_put, Pu.apI_ok, Pu.z_append, Pu.pq1_ok, Pu.pq2_ok, Pu.z_par, Pu.p3q1_ok, Pu.p3q2_ok, Pu.p3q3_ok, Pu.z_par3, Pu.wq_ok, Pu.iqS_ok, Pu.it_tup, Pu.it_lst, Pu.it_rl, Pu.z_iSeq, Pu.z_iRng1, Pu.enQ_tup, Pu.enQ_lst, Pu.z_iEnum, Pu.zq1_ok, Pu.zq2_ok, Pu.z_iZip, Pu.foq_ok, Pu.z_for, Pu.for_nil, Pu.toq_nx, Pu.toq_ct, Pu.toq_bk, Pu.toq_rt, Pu.toq_pick, Pu.tgq_ok, Pu.lcq_ok, Pu.z_lc, Pu.lc_nil, Pu.wp_nil', Pu.wp_cons', Pu.z_body', Pu.finP_nx, Pu.finP_rt, Pu.finP_pick, Pu.y_add, Pu.y_sub, Pu.y_lt, Pu.y_le, Pu.y_gt, Pu.y_ge, Pu.y_eqI, Pu.y_eqS, Pu.y_neI, Pu.y_neS, Pu.y_lenT, Pu.y_lenL, Pu.y_lenR, Pu.y_int, Pu.y_intB, Pu.y_tupT, Pu.y_tupL, Pu.y_lstT, Pu.y_lstL, Pu.y_isii, Pu.y_isib, Pu.y_isss, Pu.y_istt, Pu.y_ixT, Pu.y_ixW, Pu.y_ixL, Pu.at_0, Pu.at_1, Pu.at_2, Pu.tp_non, Pu.tp_bl, Pu.tp_int, Pu.tp_tup, Pu.tp_lst, List.getElem?_cons_zero, List.getElem?_cons_succ, List.set_cons_zero, List.set_cons_succ, List.map_cons, List.map_nil, List.replicate_zero, List.replicate_succ, List.cons_append, List.nil_append, List.append_nil, List.length_cons, List.length_nil, Nat.sub_self, Bool.not_true, Bool.not_false, decide_true, decide_false, Nat.zero_add, Nat.add_one_sub_one, eq_self, y_side]
theorem w_tuple_of {xs : List P} {m : Int} : p_is_tuple_of [.tup xs, .int m] s = some (.bl (decide ((xs.length : Int) = m)), s) := by
  unfold p_is_tuple_of; unfold q_is_tuple_of; simp only [Vm.bind_some', Vm.pick_t, Vm.pick_f, Pu.gq_ok, Pu.z_var, Pu.z_c, Pu.wr_ok, Pu.bq1_ok, Pu.bq2_ok, Pu.z_bin, Pu.iq1_ok, Pu.z_if, Pu.z_ifS, Pu.z_nil, Pu.cq1_ok, Pu.cq2_ok, Pu.z_cons, Pu.fq1_ok, Pu.z_fn, Pu.z_tup, Pu.z_lst, Pu.tupQ_0, Pu.tupQ_1, Pu.tupQ_2, Pu.tupQ_3, Pu.lstQ_0, Pu.lstQ_1, Pu.lstQ_2, Pu.lstQ_3, Pu.lstQ_4, Pu.lstQ_5, Pu.lstQ_6, Pu.bq_ok, Pu.z_b, Pu.blQ_ok, Pu.z_bV, Pu.tq1_ok, Pu.tq2_ok, Pu.z_bT, Pu.aq1_ok, Pu.z_bAnd, Pu.oq1_ok, Pu.z_bOr, Pu.nq1_ok, Pu.z_bNot, Pu.z_yes, Pu.vq1_ok, Pu.vq2_ok, Pu.z_and, Pu.uq1_ok, Pu.uq2_ok, Pu.z_or, Pu.xq1_ok, Pu.xq2_ok, Pu.z_not, Pu.ngQ_ok, Pu.z_neg, Pu.kq3_ok, Pu.kq2_ok, Pu.kq1_ok, Pu.z_chain, Pu.z_oNone, Pu.osQ_ok, Pu.z_oSome, Pu.sq1_ok, Pu.sq2_ok, Pu.sq3_ok, Pu.z_slice, Pu.z_slT, Pu.z_slL, Pu.rvQ_ok, Pu.z_revT, Pu.r1Q_ok, Pu.z_rg1, Pu.z_tupR, Pu.z_lstR, Pu.lq1_ok, Pu.lq2_ok, Pu.lq3_ok, Pu.z_callL, Pu.nq_ok, Pu.z_fnK, Pu.qs_nx, Pu.qs_rt, Pu.qs_bk, Pu.qs_ct, Pu.qs_pick, Pu.z_seq, Pu.z_next, Pu.z_bk, Pu.z_ct, Pu.eq1_ok, Pu.z_expr, Pu.rq1_ok, Pu.z_ret, Pu.z_retN, Pu.gq1_ok, Pu.gq2_ok, Pu.z_asg, Pu.z_nm, Pu.z_gt, Pu.z_gw, Pu.z_gn, Pu.gcq_ok, Pu.z_gc, Pu.sbI_ok, Pu.sbJ_ok, Pu.sbO_ok, Pu.z_sub, Pu.puI_ok, Pu.z_put, Pu.apI_ok, Pu.z_append, Pu.pq1_ok, Pu.pq2_ok, Pu.z_par, Pu.p3q1_ok, Pu.p3q2_ok, Pu.p3q3_ok, Pu.z_par3, Pu.wq_ok, Pu.iqS_ok, Pu.it_tup, Pu.it_lst, Pu.it_rl, Pu.z_iSeq, Pu.z_iRng1, Pu.enQ_tup, Pu.enQ_lst, Pu.z_iEnum, Pu.zq1_ok, Pu.zq2_ok, Pu.z_iZip, Pu.foq_ok, Pu.z_for, Pu.for_nil, Pu.toq_nx, Pu.toq_ct, Pu.toq_bk, Pu.toq_rt, Pu.toq_pick, Pu.tgq_ok, Pu.lcq_ok, Pu.z_lc, Pu.lc_nil, Pu.wp_nil', Pu.wp_cons', Pu.z_body', Pu.finP_nx, Pu.finP_rt, Pu.finP_pick, Pu.y_add, Pu.y_sub, Pu.y_lt, Pu.y_le, Pu.y_gt, Pu.y_ge, Pu.y_eqI, Pu.y_eqS, Pu.y_neI, Pu.y_neS, Pu.y_lenT, Pu.y_lenL, Pu.y_lenR, Pu.y_int, Pu.y_intB, Pu.y_tupT, Pu.y_tupL, Pu.y_lstT, Pu.y_lstL, Pu.y_isii, Pu.y_isib, Pu.y_isss, Pu.y_istt, Pu.y_ixT, Pu.y_ixW, Pu.y_ixL, Pu.at_0, Pu.at_1, Pu.at_2, Pu.tp_non, Pu.tp_bl, Pu.tp_int, Pu.tp_tup, Pu.tp_lst, List.getElem?_cons_zero, List.getElem?_cons_succ, List.set_cons_zero, List.set_cons_succ, List.map_cons, List.map_nil, List.replicate_zero, List.replicate_succ, List.cons_append, List.nil_append, List.append_nil, List.length_cons, List.length_nil, Nat.sub_self, Bool.not_true, Bool.not_false, decide_true, decide_false, Nat.zero_add, Nat.add_one_sub_one, eq_self]
theorem w_crossing {c : Bool × Nat} (hc : c.2 + 1 < n) : p_is_crossing [.int n, crV c] s = some (.bl true, s) := by
  have e1 : decide ((0 : Int) ≤ (c.2 : Int)) = true := decide_eq_true (by omega)
  have e2 : decide ((c.2 : Int) < (n : Int) - 1) = true := decide_eq_true (by omega)
  have e3 : decide (((2 : Nat) : Int) = 2) = true := rfl
  unfold p_is_crossing; unfold q_is_crossing crV
  simp only [Vm.bind_some', Vm.pick_t, Vm.pick_f, Pu.gq_ok, Pu.z_var, Pu.z_c, Pu.wr_ok, Pu.bq1_ok, Pu.bq2_ok, Pu.z_bin, Pu.iq1_ok, Pu.z_if, Pu.z_ifS, Pu.z_nil, Pu.cq1_ok, Pu.cq2_ok, Pu.z_cons, Pu.fq1_ok, Pu.z_fn, Pu.z_tup, Pu.z_lst, Pu.tupQ_0, Pu.tupQ_1, Pu.tupQ_2, Pu.tupQ_3, Pu.lstQ_0, Pu.lstQ_1, Pu.lstQ_2, Pu.lstQ_3, Pu.lstQ_4, Pu.lstQ_5, Pu.lstQ_6, Pu.bq_ok, Pu.z_b, Pu.blQ_ok, Pu.z_bV, Pu.tq1_ok, Pu.tq2_ok, Pu.z_bT, Pu.aq1_ok, Pu.z_bAnd, Pu.oq1_ok, Pu.z_bOr, Pu.nq1_ok, Pu.z_bNot, Pu.z_yes, Pu.vq1_ok, Pu.vq2_ok, Pu.z_and, Pu.uq1_ok, Pu.uq2_ok, Pu.z_or, Pu.xq1_ok, Pu.xq2_ok, Pu.z_not, Pu.ngQ_ok, Pu.z_neg, Pu.kq3_ok, Pu.kq2_ok, Pu.kq1_ok, Pu.z_chain, Pu.z_oNone, Pu.osQ_ok, Pu.z_oSome, Pu.sq1_ok, Pu.sq2_ok, Pu.sq3_ok, Pu.z_slice, Pu.z_slT, Pu.z_slL, Pu.rvQ_ok, Pu.z_revT, Pu.r1Q_ok, Pu.z_rg1, Pu.z_tupR, Pu.z_lstR, Pu.lq1_ok, Pu.lq2_ok, Pu.lq3_ok, Pu.z_callL, Pu.nq_ok, Pu.z_fnK, Pu.qs_nx, Pu.qs_rt, Pu.qs_bk, Pu.qs_ct, Pu.qs_pick, Pu.z_seq, Pu.z_next, Pu.z_bk, Pu.z_ct, Pu.eq1_ok, Pu.z_expr, Pu.rq1_ok, Pu.z_ret, Pu.z_retN, Pu.gq1_ok, Pu.gq2_ok, Pu.z_asg, Pu.z_nm, Pu.z_gt, Pu.z_gw, Pu.z_gn, Pu.gcq_ok, Pu.z_gc, Pu.sbI_ok, Pu.sbJ_ok, Pu.sbO_ok, Pu.z_sub, Pu.puI_ok, Pu.z_put, Pu.apI_ok, Pu.z_append, Pu.pq1_ok, Pu.pq2_ok, Pu.z_par, Pu.p3q1_ok, Pu.p3q2_ok, Pu.p3q3_ok, Pu.z_par3, Pu.wq_ok, Pu.iqS_ok, Pu.it_tup, Pu.it_lst, Pu.it_rl, Pu.z_iSeq, Pu.z_iRng1, Pu.enQ_tup, Pu.enQ_lst, Pu.z_iEnum, Pu.zq1_ok, Pu.zq2_ok, Pu.z_iZip, Pu.foq_ok, Pu.z_for, Pu.for_nil, Pu.toq_nx, Pu.toq_ct, Pu.toq_bk, Pu.toq_rt, Pu.toq_pick, Pu.tgq_ok, Pu.lcq_ok, Pu.z_lc, Pu.lc_nil, Pu.wp_nil', Pu.wp_cons', Pu.z_body', Pu.finP_nx, Pu.finP_rt, Pu.finP_pick, Pu.y_add, Pu.y_sub, Pu.y_lt, Pu.y_le, Pu.y_gt, Pu.y_ge, Pu.y_eqI, Pu.y_eqS, Pu.y_neI, Pu.y_neS, Pu.y_lenT, Pu.y_lenL, Pu.y_lenR, Pu.y_int, Pu.y_intB, Pu.y_tupT, Pu.y_tupL, Pu.y_lstT, Pu.y_lstL, Pu.y_isii, Pu.y_isib, Pu.y_isss, Pu.y_istt, Pu.y_ixT, Pu.y_ixW, Pu.y_ixL, Pu.at_0, Pu.at_1, Pu.at_2, Pu.tp_non, Pu.tp_bl, Pu.tp_int, Pu.tp_tup, Pu.tp_lst, List.getElem?_cons_zero, List.getElem?_cons_succ, List.set_cons_zero, List.set_cons_succ, List.map_cons, List.map_nil, List.replicate_zero, List.replicate_succ, List.cons_append, List.nil_append, List.append_nil, List.length_cons, List.length_nil, Nat.sub_self, Bool.not_true, Bool.not_false, decide_true, decide_false, Nat.zero_add, Nat.add_one_sub_one, eq_self, w_tuple_of, w_one_of, w_below, e1, e2]
  rfl
theorem w_need_cords (h1 : 2 ≤ n) (h2 : n ≤ 5) : p_need_cords [.int n] s = some (.int n, s) := by
  have e1 : decide ((2 : Int) ≤ (n : Int)) = true := decide_eq_true (by omega)
  have e2 : decide ((n : Int) ≤ 5) = true := decide_eq_true (by omega)
  unfold p_need_cords; unfold q_need_cords; simp only [Vm.bind_some', Vm.pick_t, Vm.pick_f, Pu.gq_ok, Pu.z_var, Pu.z_c, Pu.wr_ok, Pu.bq1_ok, Pu.bq2_ok, Pu.z_bin, Pu.iq1_ok, Pu.z_if, Pu.z_ifS, Pu.z_nil, Pu.cq1_ok, Pu.cq2_ok, Pu.z_cons, Pu.fq1_ok, Pu.z_fn, Pu.z_tup, Pu.z_lst, Pu.tupQ_0, Pu.tupQ_1, Pu.tupQ_2, Pu.tupQ_3, Pu.lstQ_0, Pu.lstQ_1, Pu.lstQ_2, Pu.lstQ_3, Pu.lstQ_4, Pu.lstQ_5, Pu.lstQ_6, Pu.bq_ok, Pu.z_b, Pu.blQ_ok, Pu.z_bV, Pu.tq1_ok, Pu.tq2_ok, Pu.z_bT, Pu.aq1_ok, Pu.z_bAnd, Pu.oq1_ok, Pu.z_bOr, Pu.nq1_ok, Pu.z_bNot, Pu.z_yes, Pu.vq1_ok, Pu.vq2_ok, Pu.z_and, Pu.uq1_ok, Pu.uq2_ok, Pu.z_or, Pu.xq1_ok, Pu.xq2_ok, Pu.z_not, Pu.ngQ_ok, Pu.z_neg, Pu.kq3_ok, Pu.kq2_ok, Pu.kq1_ok, Pu.z_chain, Pu.z_oNone, Pu.osQ_ok, Pu.z_oSome, Pu.sq1_ok, Pu.sq2_ok, Pu.sq3_ok, Pu.z_slice, Pu.z_slT, Pu.z_slL, Pu.rvQ_ok, Pu.z_revT, Pu.r1Q_ok, Pu.z_rg1, Pu.z_tupR, Pu.z_lstR, Pu.lq1_ok, Pu.lq2_ok, Pu.lq3_ok, Pu.z_callL, Pu.nq_ok, Pu.z_fnK, Pu.qs_nx, Pu.qs_rt, Pu.qs_bk, Pu.qs_ct, Pu.qs_pick, Pu.z_seq, Pu.z_next, Pu.z_bk, Pu.z_ct, Pu.eq1_ok, Pu.z_expr, Pu.rq1_ok, Pu.z_ret, Pu.z_retN, Pu.gq1_ok, Pu.gq2_ok, Pu.z_asg, Pu.z_nm, Pu.z_gt, Pu.z_gw, Pu.z_gn, Pu.gcq_ok, Pu.z_gc, Pu.sbI_ok, Pu.sbJ_ok, Pu.sbO_ok, Pu.z_sub, Pu.puI_ok, Pu.z_put, Pu.apI_ok, Pu.z_append, Pu.pq1_ok, Pu.pq2_ok, Pu.z_par, Pu.p3q1_ok, Pu.p3q2_ok, Pu.p3q3_ok, Pu.z_par3, Pu.wq_ok, Pu.iqS_ok, Pu.it_tup, Pu.it_lst, Pu.it_rl, Pu.z_iSeq, Pu.z_iRng1, Pu.enQ_tup, Pu.enQ_lst, Pu.z_iEnum, Pu.zq1_ok, Pu.zq2_ok, Pu.z_iZip, Pu.foq_ok, Pu.z_for, Pu.for_nil, Pu.toq_nx, Pu.toq_ct, Pu.toq_bk, Pu.toq_rt, Pu.toq_pick, Pu.tgq_ok, Pu.lcq_ok, Pu.z_lc, Pu.lc_nil, Pu.wp_nil', Pu.wp_cons', Pu.z_body', Pu.finP_nx, Pu.finP_rt, Pu.finP_pick, Pu.y_add, Pu.y_sub, Pu.y_lt, Pu.y_le, Pu.y_gt, Pu.y_ge, Pu.y_eqI, Pu.y_eqS, Pu.y_neI, Pu.y_neS, Pu.y_lenT, Pu.y_lenL, Pu.y_lenR, Pu.y_int, Pu.y_intB, Pu.y_tupT, Pu.y_tupL, Pu.y_lstT, Pu.y_lstL, Pu.y_isii, Pu.y_isib, Pu.y_isss, Pu.y_istt, Pu.y_ixT, Pu.y_ixW, Pu.y_ixL, Pu.at_0, Pu.at_1, Pu.at_2, Pu.tp_non, Pu.tp_bl, Pu.tp_int, Pu.tp_tup, Pu.tp_lst, List.getElem?_cons_zero, List.getElem?_cons_succ, List.set_cons_zero, List.set_cons_succ, List.map_cons, List.map_nil, List.replicate_zero, List.replicate_succ, List.cons_append, List.nil_append, List.append_nil, List.length_cons, List.length_nil, Nat.sub_self, Bool.not_true, Bool.not_false, decide_true, decide_false, Nat.zero_add, Nat.add_one_sub_one, eq_self, w_within, e1, e2, Bool.and_self]
theorem enum_rows : ∀ (k : Nat) (r : List (Bool × Nat)), enumQ k (r.map crV) = (r.zipIdx k).map fun p => P.wt [.int (p.2 : Int), crV p.1]
  | _, [] => rfl
  | k, c :: r => by simp [enumQ, enum_rows (k + 1) r]
theorem w_need_row (hr : Ok n r) : p_need_row [.int n, rowV r] s = some (rowV r, s) := by
  have e1 : decide ((60 : Int) < (r.length : Int)) = false := decide_eq_false (by have := hr.1; omega)
  unfold p_need_row; unfold q_need_row rowV
  have lp : ∀ (r' : List (Bool × Nat)) (k : Nat) (x y : Option P), (∀ c ∈ r', c.2 + 1 < n) → ∃ x' y', forP (qGT (qGC (qNm 2) (qGC (qNm 3) qGN))) (qSeq (qIfS (qbNot (qbT (qFn p_is_crossing (qCons (qVar 0) (qCons (qVar 3) qNil))))) (qSeq qNever qNext) qNext) qNext) (enumQ k (r'.map crV)) [some (.int n), some (.tup (r.map crV)), x, y] s = some (.nx [some (.int n), some (.tup (r.map crV)), x', y'] s) := by
    intro r'
    induction r' with
    | nil => intro k x y _; exact ⟨x, y, rfl⟩
    | cons c r' ih =>
      intro k x y hc
      obtain ⟨x', y', e⟩ := ih (k + 1) (some (.int (k : Int))) (some (crV c)) fun d m => hc d (by simp [m])
      refine ⟨x', y', ?_⟩
      rw [List.map_cons, enumQ, for_cons]
      simp only [Vm.bind_some', Vm.pick_t, Vm.pick_f, Pu.gq_ok, Pu.z_var, Pu.z_c, Pu.wr_ok, Pu.bq1_ok, Pu.bq2_ok, Pu.z_bin, Pu.iq1_ok, Pu.z_if, Pu.z_ifS, Pu.z_nil, Pu.cq1_ok, Pu.cq2_ok, Pu.z_cons, Pu.fq1_ok, Pu.z_fn, Pu.z_tup, Pu.z_lst, Pu.tupQ_0, Pu.tupQ_1, Pu.tupQ_2, Pu.tupQ_3, Pu.lstQ_0, Pu.lstQ_1, Pu.lstQ_2, Pu.lstQ_3, Pu.lstQ_4, Pu.lstQ_5, Pu.lstQ_6, Pu.bq_ok, Pu.z_b, Pu.blQ_ok, Pu.z_bV, Pu.tq1_ok, Pu.tq2_ok, Pu.z_bT, Pu.aq1_ok, Pu.z_bAnd, Pu.oq1_ok, Pu.z_bOr, Pu.nq1_ok, Pu.z_bNot, Pu.z_yes, Pu.vq1_ok, Pu.vq2_ok, Pu.z_and, Pu.uq1_ok, Pu.uq2_ok, Pu.z_or, Pu.xq1_ok, Pu.xq2_ok, Pu.z_not, Pu.ngQ_ok, Pu.z_neg, Pu.kq3_ok, Pu.kq2_ok, Pu.kq1_ok, Pu.z_chain, Pu.z_oNone, Pu.osQ_ok, Pu.z_oSome, Pu.sq1_ok, Pu.sq2_ok, Pu.sq3_ok, Pu.z_slice, Pu.z_slT, Pu.z_slL, Pu.rvQ_ok, Pu.z_revT, Pu.r1Q_ok, Pu.z_rg1, Pu.z_tupR, Pu.z_lstR, Pu.lq1_ok, Pu.lq2_ok, Pu.lq3_ok, Pu.z_callL, Pu.nq_ok, Pu.z_fnK, Pu.qs_nx, Pu.qs_rt, Pu.qs_bk, Pu.qs_ct, Pu.qs_pick, Pu.z_seq, Pu.z_next, Pu.z_bk, Pu.z_ct, Pu.eq1_ok, Pu.z_expr, Pu.rq1_ok, Pu.z_ret, Pu.z_retN, Pu.gq1_ok, Pu.gq2_ok, Pu.z_asg, Pu.z_nm, Pu.z_gt, Pu.z_gw, Pu.z_gn, Pu.gcq_ok, Pu.z_gc, Pu.sbI_ok, Pu.sbJ_ok, Pu.sbO_ok, Pu.z_sub, Pu.puI_ok, Pu.z_put, Pu.apI_ok, Pu.z_append, Pu.pq1_ok, Pu.pq2_ok, Pu.z_par, Pu.p3q1_ok, Pu.p3q2_ok, Pu.p3q3_ok, Pu.z_par3, Pu.wq_ok, Pu.iqS_ok, Pu.it_tup, Pu.it_lst, Pu.it_rl, Pu.z_iSeq, Pu.z_iRng1, Pu.enQ_tup, Pu.enQ_lst, Pu.z_iEnum, Pu.zq1_ok, Pu.zq2_ok, Pu.z_iZip, Pu.foq_ok, Pu.z_for, Pu.for_nil, Pu.toq_nx, Pu.toq_ct, Pu.toq_bk, Pu.toq_rt, Pu.toq_pick, Pu.tgq_ok, Pu.lcq_ok, Pu.z_lc, Pu.lc_nil, Pu.wp_nil', Pu.wp_cons', Pu.z_body', Pu.finP_nx, Pu.finP_rt, Pu.finP_pick, Pu.y_add, Pu.y_sub, Pu.y_lt, Pu.y_le, Pu.y_gt, Pu.y_ge, Pu.y_eqI, Pu.y_eqS, Pu.y_neI, Pu.y_neS, Pu.y_lenT, Pu.y_lenL, Pu.y_lenR, Pu.y_int, Pu.y_intB, Pu.y_tupT, Pu.y_tupL, Pu.y_lstT, Pu.y_lstL, Pu.y_isii, Pu.y_isib, Pu.y_isss, Pu.y_istt, Pu.y_ixT, Pu.y_ixW, Pu.y_ixL, Pu.at_0, Pu.at_1, Pu.at_2, Pu.tp_non, Pu.tp_bl, Pu.tp_int, Pu.tp_tup, Pu.tp_lst, List.getElem?_cons_zero, List.getElem?_cons_succ, List.set_cons_zero, List.set_cons_succ, List.map_cons, List.map_nil, List.replicate_zero, List.replicate_succ, List.cons_append, List.nil_append, List.append_nil, List.length_cons, List.length_nil, Nat.sub_self, Bool.not_true, Bool.not_false, decide_true, decide_false, Nat.zero_add, Nat.add_one_sub_one, eq_self, w_crossing (hc c (by simp)), e]
  obtain ⟨x', y', e⟩ := lp r 0 none none hr.2
  simp only [Vm.bind_some', Vm.pick_t, Vm.pick_f, Pu.gq_ok, Pu.z_var, Pu.z_c, Pu.wr_ok, Pu.bq1_ok, Pu.bq2_ok, Pu.z_bin, Pu.iq1_ok, Pu.z_if, Pu.z_ifS, Pu.z_nil, Pu.cq1_ok, Pu.cq2_ok, Pu.z_cons, Pu.fq1_ok, Pu.z_fn, Pu.z_tup, Pu.z_lst, Pu.tupQ_0, Pu.tupQ_1, Pu.tupQ_2, Pu.tupQ_3, Pu.lstQ_0, Pu.lstQ_1, Pu.lstQ_2, Pu.lstQ_3, Pu.lstQ_4, Pu.lstQ_5, Pu.lstQ_6, Pu.bq_ok, Pu.z_b, Pu.blQ_ok, Pu.z_bV, Pu.tq1_ok, Pu.tq2_ok, Pu.z_bT, Pu.aq1_ok, Pu.z_bAnd, Pu.oq1_ok, Pu.z_bOr, Pu.nq1_ok, Pu.z_bNot, Pu.z_yes, Pu.vq1_ok, Pu.vq2_ok, Pu.z_and, Pu.uq1_ok, Pu.uq2_ok, Pu.z_or, Pu.xq1_ok, Pu.xq2_ok, Pu.z_not, Pu.ngQ_ok, Pu.z_neg, Pu.kq3_ok, Pu.kq2_ok, Pu.kq1_ok, Pu.z_chain, Pu.z_oNone, Pu.osQ_ok, Pu.z_oSome, Pu.sq1_ok, Pu.sq2_ok, Pu.sq3_ok, Pu.z_slice, Pu.z_slT, Pu.z_slL, Pu.rvQ_ok, Pu.z_revT, Pu.r1Q_ok, Pu.z_rg1, Pu.z_tupR, Pu.z_lstR, Pu.lq1_ok, Pu.lq2_ok, Pu.lq3_ok, Pu.z_callL, Pu.nq_ok, Pu.z_fnK, Pu.qs_nx, Pu.qs_rt, Pu.qs_bk, Pu.qs_ct, Pu.qs_pick, Pu.z_seq, Pu.z_next, Pu.z_bk, Pu.z_ct, Pu.eq1_ok, Pu.z_expr, Pu.rq1_ok, Pu.z_ret, Pu.z_retN, Pu.gq1_ok, Pu.gq2_ok, Pu.z_asg, Pu.z_nm, Pu.z_gt, Pu.z_gw, Pu.z_gn, Pu.gcq_ok, Pu.z_gc, Pu.sbI_ok, Pu.sbJ_ok, Pu.sbO_ok, Pu.z_sub, Pu.puI_ok, Pu.z_put, Pu.apI_ok, Pu.z_append, Pu.pq1_ok, Pu.pq2_ok, Pu.z_par, Pu.p3q1_ok, Pu.p3q2_ok, Pu.p3q3_ok, Pu.z_par3, Pu.wq_ok, Pu.iqS_ok, Pu.it_tup, Pu.it_lst, Pu.it_rl, Pu.z_iSeq, Pu.z_iRng1, Pu.enQ_tup, Pu.enQ_lst, Pu.z_iEnum, Pu.zq1_ok, Pu.zq2_ok, Pu.z_iZip, Pu.foq_ok, Pu.z_for, Pu.for_nil, Pu.toq_nx, Pu.toq_ct, Pu.toq_bk, Pu.toq_rt, Pu.toq_pick, Pu.tgq_ok, Pu.lcq_ok, Pu.z_lc, Pu.lc_nil, Pu.wp_nil', Pu.wp_cons', Pu.z_body', Pu.finP_nx, Pu.finP_rt, Pu.finP_pick, Pu.y_add, Pu.y_sub, Pu.y_lt, Pu.y_le, Pu.y_gt, Pu.y_ge, Pu.y_eqI, Pu.y_eqS, Pu.y_neI, Pu.y_neS, Pu.y_lenT, Pu.y_lenL, Pu.y_lenR, Pu.y_int, Pu.y_intB, Pu.y_tupT, Pu.y_tupL, Pu.y_lstT, Pu.y_lstL, Pu.y_isii, Pu.y_isib, Pu.y_isss, Pu.y_istt, Pu.y_ixT, Pu.y_ixW, Pu.y_ixL, Pu.at_0, Pu.at_1, Pu.at_2, Pu.tp_non, Pu.tp_bl, Pu.tp_int, Pu.tp_tup, Pu.tp_lst, List.getElem?_cons_zero, List.getElem?_cons_succ, List.set_cons_zero, List.set_cons_succ, List.map_cons, List.map_nil, List.replicate_zero, List.replicate_succ, List.cons_append, List.nil_append, List.append_nil, List.length_cons, List.length_nil, Nat.sub_self, Bool.not_true, Bool.not_false, decide_true, decide_false, Nat.zero_add, Nat.add_one_sub_one, eq_self, List.length_map, e1, e]
theorem w_need (h1 : 2 ≤ n) (h2 : n ≤ 5) (hr : Ok n r) : p_need_cords_and_row [.int n, rowV r] s = some (.non, s) := by
  unfold p_need_cords_and_row; unfold q_need_cords_and_row; simp only [Vm.bind_some', Vm.pick_t, Vm.pick_f, Pu.gq_ok, Pu.z_var, Pu.z_c, Pu.wr_ok, Pu.bq1_ok, Pu.bq2_ok, Pu.z_bin, Pu.iq1_ok, Pu.z_if, Pu.z_ifS, Pu.z_nil, Pu.cq1_ok, Pu.cq2_ok, Pu.z_cons, Pu.fq1_ok, Pu.z_fn, Pu.z_tup, Pu.z_lst, Pu.tupQ_0, Pu.tupQ_1, Pu.tupQ_2, Pu.tupQ_3, Pu.lstQ_0, Pu.lstQ_1, Pu.lstQ_2, Pu.lstQ_3, Pu.lstQ_4, Pu.lstQ_5, Pu.lstQ_6, Pu.bq_ok, Pu.z_b, Pu.blQ_ok, Pu.z_bV, Pu.tq1_ok, Pu.tq2_ok, Pu.z_bT, Pu.aq1_ok, Pu.z_bAnd, Pu.oq1_ok, Pu.z_bOr, Pu.nq1_ok, Pu.z_bNot, Pu.z_yes, Pu.vq1_ok, Pu.vq2_ok, Pu.z_and, Pu.uq1_ok, Pu.uq2_ok, Pu.z_or, Pu.xq1_ok, Pu.xq2_ok, Pu.z_not, Pu.ngQ_ok, Pu.z_neg, Pu.kq3_ok, Pu.kq2_ok, Pu.kq1_ok, Pu.z_chain, Pu.z_oNone, Pu.osQ_ok, Pu.z_oSome, Pu.sq1_ok, Pu.sq2_ok, Pu.sq3_ok, Pu.z_slice, Pu.z_slT, Pu.z_slL, Pu.rvQ_ok, Pu.z_revT, Pu.r1Q_ok, Pu.z_rg1, Pu.z_tupR, Pu.z_lstR, Pu.lq1_ok, Pu.lq2_ok, Pu.lq3_ok, Pu.z_callL, Pu.nq_ok, Pu.z_fnK, Pu.qs_nx, Pu.qs_rt, Pu.qs_bk, Pu.qs_ct, Pu.qs_pick, Pu.z_seq, Pu.z_next, Pu.z_bk, Pu.z_ct, Pu.eq1_ok, Pu.z_expr, Pu.rq1_ok, Pu.z_ret, Pu.z_retN, Pu.gq1_ok, Pu.gq2_ok, Pu.z_asg, Pu.z_nm, Pu.z_gt, Pu.z_gw, Pu.z_gn, Pu.gcq_ok, Pu.z_gc, Pu.sbI_ok, Pu.sbJ_ok, Pu.sbO_ok, Pu.z_sub, Pu.puI_ok, Pu.z_put, Pu.apI_ok, Pu.z_append, Pu.pq1_ok, Pu.pq2_ok, Pu.z_par, Pu.p3q1_ok, Pu.p3q2_ok, Pu.p3q3_ok, Pu.z_par3, Pu.wq_ok, Pu.iqS_ok, Pu.it_tup, Pu.it_lst, Pu.it_rl, Pu.z_iSeq, Pu.z_iRng1, Pu.enQ_tup, Pu.enQ_lst, Pu.z_iEnum, Pu.zq1_ok, Pu.zq2_ok, Pu.z_iZip, Pu.foq_ok, Pu.z_for, Pu.for_nil, Pu.toq_nx, Pu.toq_ct, Pu.toq_bk, Pu.toq_rt, Pu.toq_pick, Pu.tgq_ok, Pu.lcq_ok, Pu.z_lc, Pu.lc_nil, Pu.wp_nil', Pu.wp_cons', Pu.z_body', Pu.finP_nx, Pu.finP_rt, Pu.finP_pick, Pu.y_add, Pu.y_sub, Pu.y_lt, Pu.y_le, Pu.y_gt, Pu.y_ge, Pu.y_eqI, Pu.y_eqS, Pu.y_neI, Pu.y_neS, Pu.y_lenT, Pu.y_lenL, Pu.y_lenR, Pu.y_int, Pu.y_intB, Pu.y_tupT, Pu.y_tupL, Pu.y_lstT, Pu.y_lstL, Pu.y_isii, Pu.y_isib, Pu.y_isss, Pu.y_istt, Pu.y_ixT, Pu.y_ixW, Pu.y_ixL, Pu.at_0, Pu.at_1, Pu.at_2, Pu.tp_non, Pu.tp_bl, Pu.tp_int, Pu.tp_tup, Pu.tp_lst, List.getElem?_cons_zero, List.getElem?_cons_succ, List.set_cons_zero, List.set_cons_succ, List.map_cons, List.map_nil, List.replicate_zero, List.replicate_succ, List.cons_append, List.nil_append, List.append_nil, List.length_cons, List.length_nil, Nat.sub_self, Bool.not_true, Bool.not_false, decide_true, decide_false, Nat.zero_add, Nat.add_one_sub_one, eq_self, w_need_cords h1 h2, w_need_row hr]
theorem w_need_cord {k : Nat} (hk : k < n) : p_need_cord [.int n, .int k] s = some (.int k, s) := by
  have e1 : decide ((0 : Int) ≤ (k : Int)) = true := decide_eq_true (by omega)
  have e2 : decide ((k : Int) < (n : Int)) = true := decide_eq_true (by omega)
  unfold p_need_cord; unfold q_need_cord; simp only [Vm.bind_some', Vm.pick_t, Vm.pick_f, Pu.gq_ok, Pu.z_var, Pu.z_c, Pu.wr_ok, Pu.bq1_ok, Pu.bq2_ok, Pu.z_bin, Pu.iq1_ok, Pu.z_if, Pu.z_ifS, Pu.z_nil, Pu.cq1_ok, Pu.cq2_ok, Pu.z_cons, Pu.fq1_ok, Pu.z_fn, Pu.z_tup, Pu.z_lst, Pu.tupQ_0, Pu.tupQ_1, Pu.tupQ_2, Pu.tupQ_3, Pu.lstQ_0, Pu.lstQ_1, Pu.lstQ_2, Pu.lstQ_3, Pu.lstQ_4, Pu.lstQ_5, Pu.lstQ_6, Pu.bq_ok, Pu.z_b, Pu.blQ_ok, Pu.z_bV, Pu.tq1_ok, Pu.tq2_ok, Pu.z_bT, Pu.aq1_ok, Pu.z_bAnd, Pu.oq1_ok, Pu.z_bOr, Pu.nq1_ok, Pu.z_bNot, Pu.z_yes, Pu.vq1_ok, Pu.vq2_ok, Pu.z_and, Pu.uq1_ok, Pu.uq2_ok, Pu.z_or, Pu.xq1_ok, Pu.xq2_ok, Pu.z_not, Pu.ngQ_ok, Pu.z_neg, Pu.kq3_ok, Pu.kq2_ok, Pu.kq1_ok, Pu.z_chain, Pu.z_oNone, Pu.osQ_ok, Pu.z_oSome, Pu.sq1_ok, Pu.sq2_ok, Pu.sq3_ok, Pu.z_slice, Pu.z_slT, Pu.z_slL, Pu.rvQ_ok, Pu.z_revT, Pu.r1Q_ok, Pu.z_rg1, Pu.z_tupR, Pu.z_lstR, Pu.lq1_ok, Pu.lq2_ok, Pu.lq3_ok, Pu.z_callL, Pu.nq_ok, Pu.z_fnK, Pu.qs_nx, Pu.qs_rt, Pu.qs_bk, Pu.qs_ct, Pu.qs_pick, Pu.z_seq, Pu.z_next, Pu.z_bk, Pu.z_ct, Pu.eq1_ok, Pu.z_expr, Pu.rq1_ok, Pu.z_ret, Pu.z_retN, Pu.gq1_ok, Pu.gq2_ok, Pu.z_asg, Pu.z_nm, Pu.z_gt, Pu.z_gw, Pu.z_gn, Pu.gcq_ok, Pu.z_gc, Pu.sbI_ok, Pu.sbJ_ok, Pu.sbO_ok, Pu.z_sub, Pu.puI_ok, Pu.z_put, Pu.apI_ok, Pu.z_append, Pu.pq1_ok, Pu.pq2_ok, Pu.z_par, Pu.p3q1_ok, Pu.p3q2_ok, Pu.p3q3_ok, Pu.z_par3, Pu.wq_ok, Pu.iqS_ok, Pu.it_tup, Pu.it_lst, Pu.it_rl, Pu.z_iSeq, Pu.z_iRng1, Pu.enQ_tup, Pu.enQ_lst, Pu.z_iEnum, Pu.zq1_ok, Pu.zq2_ok, Pu.z_iZip, Pu.foq_ok, Pu.z_for, Pu.for_nil, Pu.toq_nx, Pu.toq_ct, Pu.toq_bk, Pu.toq_rt, Pu.toq_pick, Pu.tgq_ok, Pu.lcq_ok, Pu.z_lc, Pu.lc_nil, Pu.wp_nil', Pu.wp_cons', Pu.z_body', Pu.finP_nx, Pu.finP_rt, Pu.finP_pick, Pu.y_add, Pu.y_sub, Pu.y_lt, Pu.y_le, Pu.y_gt, Pu.y_ge, Pu.y_eqI, Pu.y_eqS, Pu.y_neI, Pu.y_neS, Pu.y_lenT, Pu.y_lenL, Pu.y_lenR, Pu.y_int, Pu.y_intB, Pu.y_tupT, Pu.y_tupL, Pu.y_lstT, Pu.y_lstL, Pu.y_isii, Pu.y_isib, Pu.y_isss, Pu.y_istt, Pu.y_ixT, Pu.y_ixW, Pu.y_ixL, Pu.at_0, Pu.at_1, Pu.at_2, Pu.tp_non, Pu.tp_bl, Pu.tp_int, Pu.tp_tup, Pu.tp_lst, List.getElem?_cons_zero, List.getElem?_cons_succ, List.set_cons_zero, List.set_cons_succ, List.map_cons, List.map_nil, List.replicate_zero, List.replicate_succ, List.cons_append, List.nil_append, List.append_nil, List.length_cons, List.length_nil, Nat.sub_self, Bool.not_true, Bool.not_false, decide_true, decide_false, Nat.zero_add, Nat.add_one_sub_one, eq_self, w_below, e1, e2, Bool.and_self]
theorem w_keep {a b c : P} : p_keep_under [a, b, c] s = some (c, s) := by
  unfold p_keep_under; unfold q_keep_under; simp only [Vm.bind_some', Vm.pick_t, Vm.pick_f, Pu.gq_ok, Pu.z_var, Pu.z_c, Pu.wr_ok, Pu.bq1_ok, Pu.bq2_ok, Pu.z_bin, Pu.iq1_ok, Pu.z_if, Pu.z_ifS, Pu.z_nil, Pu.cq1_ok, Pu.cq2_ok, Pu.z_cons, Pu.fq1_ok, Pu.z_fn, Pu.z_tup, Pu.z_lst, Pu.tupQ_0, Pu.tupQ_1, Pu.tupQ_2, Pu.tupQ_3, Pu.lstQ_0, Pu.lstQ_1, Pu.lstQ_2, Pu.lstQ_3, Pu.lstQ_4, Pu.lstQ_5, Pu.lstQ_6, Pu.bq_ok, Pu.z_b, Pu.blQ_ok, Pu.z_bV, Pu.tq1_ok, Pu.tq2_ok, Pu.z_bT, Pu.aq1_ok, Pu.z_bAnd, Pu.oq1_ok, Pu.z_bOr, Pu.nq1_ok, Pu.z_bNot, Pu.z_yes, Pu.vq1_ok, Pu.vq2_ok, Pu.z_and, Pu.uq1_ok, Pu.uq2_ok, Pu.z_or, Pu.xq1_ok, Pu.xq2_ok, Pu.z_not, Pu.ngQ_ok, Pu.z_neg, Pu.kq3_ok, Pu.kq2_ok, Pu.kq1_ok, Pu.z_chain, Pu.z_oNone, Pu.osQ_ok, Pu.z_oSome, Pu.sq1_ok, Pu.sq2_ok, Pu.sq3_ok, Pu.z_slice, Pu.z_slT, Pu.z_slL, Pu.rvQ_ok, Pu.z_revT, Pu.r1Q_ok, Pu.z_rg1, Pu.z_tupR, Pu.z_lstR, Pu.lq1_ok, Pu.lq2_ok, Pu.lq3_ok, Pu.z_callL, Pu.nq_ok, Pu.z_fnK, Pu.qs_nx, Pu.qs_rt, Pu.qs_bk, Pu.qs_ct, Pu.qs_pick, Pu.z_seq, Pu.z_next, Pu.z_bk, Pu.z_ct, Pu.eq1_ok, Pu.z_expr, Pu.rq1_ok, Pu.z_ret, Pu.z_retN, Pu.gq1_ok, Pu.gq2_ok, Pu.z_asg, Pu.z_nm, Pu.z_gt, Pu.z_gw, Pu.z_gn, Pu.gcq_ok, Pu.z_gc, Pu.sbI_ok, Pu.sbJ_ok, Pu.sbO_ok, Pu.z_sub, Pu.puI_ok, Pu.z_put, Pu.apI_ok, Pu.z_append, Pu.pq1_ok, Pu.pq2_ok, Pu.z_par, Pu.p3q1_ok, Pu.p3q2_ok, Pu.p3q3_ok, Pu.z_par3, Pu.wq_ok, Pu.iqS_ok, Pu.it_tup, Pu.it_lst, Pu.it_rl, Pu.z_iSeq, Pu.z_iRng1, Pu.enQ_tup, Pu.enQ_lst, Pu.z_iEnum, Pu.zq1_ok, Pu.zq2_ok, Pu.z_iZip, Pu.foq_ok, Pu.z_for, Pu.for_nil, Pu.toq_nx, Pu.toq_ct, Pu.toq_bk, Pu.toq_rt, Pu.toq_pick, Pu.tgq_ok, Pu.lcq_ok, Pu.z_lc, Pu.lc_nil, Pu.wp_nil', Pu.wp_cons', Pu.z_body', Pu.finP_nx, Pu.finP_rt, Pu.finP_pick, Pu.y_add, Pu.y_sub, Pu.y_lt, Pu.y_le, Pu.y_gt, Pu.y_ge, Pu.y_eqI, Pu.y_eqS, Pu.y_neI, Pu.y_neS, Pu.y_lenT, Pu.y_lenL, Pu.y_lenR, Pu.y_int, Pu.y_intB, Pu.y_tupT, Pu.y_tupL, Pu.y_lstT, Pu.y_lstL, Pu.y_isii, Pu.y_isib, Pu.y_isss, Pu.y_istt, Pu.y_ixT, Pu.y_ixW, Pu.y_ixL, Pu.at_0, Pu.at_1, Pu.at_2, Pu.tp_non, Pu.tp_bl, Pu.tp_int, Pu.tp_tup, Pu.tp_lst, List.getElem?_cons_zero, List.getElem?_cons_succ, List.set_cons_zero, List.set_cons_succ, List.map_cons, List.map_nil, List.replicate_zero, List.replicate_succ, List.cons_append, List.nil_append, List.append_nil, List.length_cons, List.length_nil, Nat.sub_self, Bool.not_true, Bool.not_false, decide_true, decide_false, Nat.zero_add, Nat.add_one_sub_one, eq_self]
theorem w_other {b : Bool} : p_other_side [.str (sd b)] s = some (.str (sd (!b)), s) := by
  unfold p_other_side; unfold q_other_side; simp only [Vm.bind_some', Vm.pick_t, Vm.pick_f, Pu.gq_ok, Pu.z_var, Pu.z_c, Pu.wr_ok, Pu.bq1_ok, Pu.bq2_ok, Pu.z_bin, Pu.iq1_ok, Pu.z_if, Pu.z_ifS, Pu.z_nil, Pu.cq1_ok, Pu.cq2_ok, Pu.z_cons, Pu.fq1_ok, Pu.z_fn, Pu.z_tup, Pu.z_lst, Pu.tupQ_0, Pu.tupQ_1, Pu.tupQ_2, Pu.tupQ_3, Pu.lstQ_0, Pu.lstQ_1, Pu.lstQ_2, Pu.lstQ_3, Pu.lstQ_4, Pu.lstQ_5, Pu.lstQ_6, Pu.bq_ok, Pu.z_b, Pu.blQ_ok, Pu.z_bV, Pu.tq1_ok, Pu.tq2_ok, Pu.z_bT, Pu.aq1_ok, Pu.z_bAnd, Pu.oq1_ok, Pu.z_bOr, Pu.nq1_ok, Pu.z_bNot, Pu.z_yes, Pu.vq1_ok, Pu.vq2_ok, Pu.z_and, Pu.uq1_ok, Pu.uq2_ok, Pu.z_or, Pu.xq1_ok, Pu.xq2_ok, Pu.z_not, Pu.ngQ_ok, Pu.z_neg, Pu.kq3_ok, Pu.kq2_ok, Pu.kq1_ok, Pu.z_chain, Pu.z_oNone, Pu.osQ_ok, Pu.z_oSome, Pu.sq1_ok, Pu.sq2_ok, Pu.sq3_ok, Pu.z_slice, Pu.z_slT, Pu.z_slL, Pu.rvQ_ok, Pu.z_revT, Pu.r1Q_ok, Pu.z_rg1, Pu.z_tupR, Pu.z_lstR, Pu.lq1_ok, Pu.lq2_ok, Pu.lq3_ok, Pu.z_callL, Pu.nq_ok, Pu.z_fnK, Pu.qs_nx, Pu.qs_rt, Pu.qs_bk, Pu.qs_ct, Pu.qs_pick, Pu.z_seq, Pu.z_next, Pu.z_bk, Pu.z_ct, Pu.eq1_ok, Pu.z_expr, Pu.rq1_ok, Pu.z_ret, Pu.z_retN, Pu.gq1_ok, Pu.gq2_ok, Pu.z_asg, Pu.z_nm, Pu.z_gt, Pu.z_gw, Pu.z_gn, Pu.gcq_ok, Pu.z_gc, Pu.sbI_ok, Pu.sbJ_ok, Pu.sbO_ok, Pu.z_sub, Pu.puI_ok, Pu.z_put, Pu.apI_ok, Pu.z_append, Pu.pq1_ok, Pu.pq2_ok, Pu.z_par, Pu.p3q1_ok, Pu.p3q2_ok, Pu.p3q3_ok, Pu.z_par3, Pu.wq_ok, Pu.iqS_ok, Pu.it_tup, Pu.it_lst, Pu.it_rl, Pu.z_iSeq, Pu.z_iRng1, Pu.enQ_tup, Pu.enQ_lst, Pu.z_iEnum, Pu.zq1_ok, Pu.zq2_ok, Pu.z_iZip, Pu.foq_ok, Pu.z_for, Pu.for_nil, Pu.toq_nx, Pu.toq_ct, Pu.toq_bk, Pu.toq_rt, Pu.toq_pick, Pu.tgq_ok, Pu.lcq_ok, Pu.z_lc, Pu.lc_nil, Pu.wp_nil', Pu.wp_cons', Pu.z_body', Pu.finP_nx, Pu.finP_rt, Pu.finP_pick, Pu.y_add, Pu.y_sub, Pu.y_lt, Pu.y_le, Pu.y_gt, Pu.y_ge, Pu.y_eqI, Pu.y_eqS, Pu.y_neI, Pu.y_neS, Pu.y_lenT, Pu.y_lenL, Pu.y_lenR, Pu.y_int, Pu.y_intB, Pu.y_tupT, Pu.y_tupL, Pu.y_lstT, Pu.y_lstL, Pu.y_isii, Pu.y_isib, Pu.y_isss, Pu.y_istt, Pu.y_ixT, Pu.y_ixW, Pu.y_ixL, Pu.at_0, Pu.at_1, Pu.at_2, Pu.tp_non, Pu.tp_bl, Pu.tp_int, Pu.tp_tup, Pu.tp_lst, List.getElem?_cons_zero, List.getElem?_cons_succ, List.set_cons_zero, List.set_cons_succ, List.map_cons, List.map_nil, List.replicate_zero, List.replicate_succ, List.cons_append, List.nil_append, List.append_nil, List.length_cons, List.length_nil, Nat.sub_self, Bool.not_true, Bool.not_false, decide_true, decide_false, Nat.zero_add, Nat.add_one_sub_one, eq_self, sd_left]
  cases b <;> rfl
/-- a crossing worked, by what the change makes of the one that goes under -/
theorem w_work {xs : List P} {c : Bool × Nat} {f : String} {F : List P → S → Option (P × S)} {a b u : P} (hf : tp_work_crossing f = some (3, F)) (hc : c.2 + 1 < xs.length) (hz : xs.length ≤ 1000) (ha : xs[c.2]? = some a) (hb : xs[c.2 + 1]? = some b)
    (hu : F [.str (sd c.1), if c.1 then a else b, if c.1 then b else a] s = some (u, s)) : p_work_crossing [.tup xs, crV c, .fn f] s = some (.tup (xs.take c.2 ++ [if c.1 then u else b, if c.1 then a else u] ++ xs.drop (c.2 + 2)), s) := by
  obtain ⟨d, p⟩ := c
  simp only at hc ha hb hu
  have ea : atI xs (p : Int) = some a := at_nat ha
  have eb : atI xs ((p : Int) + 1) = some b := by
    have e : ((p : Int) + 1) = ((p + 1 : Nat) : Int) := by omega
    rw [e]; exact at_nat hb
  have c1 := cutP_take (xs := xs) (p := p) (by omega)
  have c2 := cutP_drop (xs := xs) (p := p + 2) (by omega)
  have e2 : ((p : Int) + 2) = ((p + 2 : Nat) : Int) := by omega
  have a1 : ∀ {u v : P}, pAdd (.tup (xs.take p)) (.tup [u, v]) = some (.tup (xs.take p ++ [u, v])) := fun {u v} => y_addT (by simp; omega)
  have a2 : ∀ {u v : P}, pAdd (.tup (xs.take p ++ [u, v])) (.tup (xs.drop (p + 2))) = some (.tup (xs.take p ++ [u, v] ++ xs.drop (p + 2))) := fun {u v} => y_addT (by simp; omega)
  have l3 : decide (([.str (sd d), a, b] : List P).length = 3) = true := rfl
  unfold p_work_crossing; unfold q_work_crossing crV
  cases d with
  | true =>
    have hs : decide (sd true = ("left" : Str)) = true := by decide
    simp only [if_true] at hu
    simp only [Vm.bind_some', Vm.pick_t, Vm.pick_f, Pu.gq_ok, Pu.z_var, Pu.z_c, Pu.wr_ok, Pu.bq1_ok, Pu.bq2_ok, Pu.z_bin, Pu.iq1_ok, Pu.z_if, Pu.z_ifS, Pu.z_nil, Pu.cq1_ok, Pu.cq2_ok, Pu.z_cons, Pu.fq1_ok, Pu.z_fn, Pu.z_tup, Pu.z_lst, Pu.tupQ_0, Pu.tupQ_1, Pu.tupQ_2, Pu.tupQ_3, Pu.lstQ_0, Pu.lstQ_1, Pu.lstQ_2, Pu.lstQ_3, Pu.lstQ_4, Pu.lstQ_5, Pu.lstQ_6, Pu.bq_ok, Pu.z_b, Pu.blQ_ok, Pu.z_bV, Pu.tq1_ok, Pu.tq2_ok, Pu.z_bT, Pu.aq1_ok, Pu.z_bAnd, Pu.oq1_ok, Pu.z_bOr, Pu.nq1_ok, Pu.z_bNot, Pu.z_yes, Pu.vq1_ok, Pu.vq2_ok, Pu.z_and, Pu.uq1_ok, Pu.uq2_ok, Pu.z_or, Pu.xq1_ok, Pu.xq2_ok, Pu.z_not, Pu.ngQ_ok, Pu.z_neg, Pu.kq3_ok, Pu.kq2_ok, Pu.kq1_ok, Pu.z_chain, Pu.z_oNone, Pu.osQ_ok, Pu.z_oSome, Pu.sq1_ok, Pu.sq2_ok, Pu.sq3_ok, Pu.z_slice, Pu.z_slT, Pu.z_slL, Pu.rvQ_ok, Pu.z_revT, Pu.r1Q_ok, Pu.z_rg1, Pu.z_tupR, Pu.z_lstR, Pu.lq1_ok, Pu.lq2_ok, Pu.lq3_ok, Pu.z_callL, Pu.nq_ok, Pu.z_fnK, Pu.qs_nx, Pu.qs_rt, Pu.qs_bk, Pu.qs_ct, Pu.qs_pick, Pu.z_seq, Pu.z_next, Pu.z_bk, Pu.z_ct, Pu.eq1_ok, Pu.z_expr, Pu.rq1_ok, Pu.z_ret, Pu.z_retN, Pu.gq1_ok, Pu.gq2_ok, Pu.z_asg, Pu.z_nm, Pu.z_gt, Pu.z_gw, Pu.z_gn, Pu.gcq_ok, Pu.z_gc, Pu.sbI_ok, Pu.sbJ_ok, Pu.sbO_ok, Pu.z_sub, Pu.puI_ok, Pu.z_put, Pu.apI_ok, Pu.z_append, Pu.pq1_ok, Pu.pq2_ok, Pu.z_par, Pu.p3q1_ok, Pu.p3q2_ok, Pu.p3q3_ok, Pu.z_par3, Pu.wq_ok, Pu.iqS_ok, Pu.it_tup, Pu.it_lst, Pu.it_rl, Pu.z_iSeq, Pu.z_iRng1, Pu.enQ_tup, Pu.enQ_lst, Pu.z_iEnum, Pu.zq1_ok, Pu.zq2_ok, Pu.z_iZip, Pu.foq_ok, Pu.z_for, Pu.for_nil, Pu.toq_nx, Pu.toq_ct, Pu.toq_bk, Pu.toq_rt, Pu.toq_pick, Pu.tgq_ok, Pu.lcq_ok, Pu.z_lc, Pu.lc_nil, Pu.wp_nil', Pu.wp_cons', Pu.z_body', Pu.finP_nx, Pu.finP_rt, Pu.finP_pick, Pu.y_add, Pu.y_sub, Pu.y_lt, Pu.y_le, Pu.y_gt, Pu.y_ge, Pu.y_eqI, Pu.y_eqS, Pu.y_neI, Pu.y_neS, Pu.y_lenT, Pu.y_lenL, Pu.y_lenR, Pu.y_int, Pu.y_intB, Pu.y_tupT, Pu.y_tupL, Pu.y_lstT, Pu.y_lstL, Pu.y_isii, Pu.y_isib, Pu.y_isss, Pu.y_istt, Pu.y_ixT, Pu.y_ixW, Pu.y_ixL, Pu.at_0, Pu.at_1, Pu.at_2, Pu.tp_non, Pu.tp_bl, Pu.tp_int, Pu.tp_tup, Pu.tp_lst, List.getElem?_cons_zero, List.getElem?_cons_succ, List.set_cons_zero, List.set_cons_succ, List.map_cons, List.map_nil, List.replicate_zero, List.replicate_succ, List.cons_append, List.nil_append, List.append_nil, List.length_cons, List.length_nil, Nat.sub_self, Bool.not_true, Bool.not_false, decide_true, decide_false, Nat.zero_add, Nat.add_one_sub_one, eq_self, ea, eb, hs, hf, hu, c1, e2, c2, a1, a2]
    rfl
  | false =>
    have hs : decide (sd false = ("left" : Str)) = false := by decide
    simp only [Bool.false_eq_true, if_false] at hu
    simp only [Vm.bind_some', Vm.pick_t, Vm.pick_f, Pu.gq_ok, Pu.z_var, Pu.z_c, Pu.wr_ok, Pu.bq1_ok, Pu.bq2_ok, Pu.z_bin, Pu.iq1_ok, Pu.z_if, Pu.z_ifS, Pu.z_nil, Pu.cq1_ok, Pu.cq2_ok, Pu.z_cons, Pu.fq1_ok, Pu.z_fn, Pu.z_tup, Pu.z_lst, Pu.tupQ_0, Pu.tupQ_1, Pu.tupQ_2, Pu.tupQ_3, Pu.lstQ_0, Pu.lstQ_1, Pu.lstQ_2, Pu.lstQ_3, Pu.lstQ_4, Pu.lstQ_5, Pu.lstQ_6, Pu.bq_ok, Pu.z_b, Pu.blQ_ok, Pu.z_bV, Pu.tq1_ok, Pu.tq2_ok, Pu.z_bT, Pu.aq1_ok, Pu.z_bAnd, Pu.oq1_ok, Pu.z_bOr, Pu.nq1_ok, Pu.z_bNot, Pu.z_yes, Pu.vq1_ok, Pu.vq2_ok, Pu.z_and, Pu.uq1_ok, Pu.uq2_ok, Pu.z_or, Pu.xq1_ok, Pu.xq2_ok, Pu.z_not, Pu.ngQ_ok, Pu.z_neg, Pu.kq3_ok, Pu.kq2_ok, Pu.kq1_ok, Pu.z_chain, Pu.z_oNone, Pu.osQ_ok, Pu.z_oSome, Pu.sq1_ok, Pu.sq2_ok, Pu.sq3_ok, Pu.z_slice, Pu.z_slT, Pu.z_slL, Pu.rvQ_ok, Pu.z_revT, Pu.r1Q_ok, Pu.z_rg1, Pu.z_tupR, Pu.z_lstR, Pu.lq1_ok, Pu.lq2_ok, Pu.lq3_ok, Pu.z_callL, Pu.nq_ok, Pu.z_fnK, Pu.qs_nx, Pu.qs_rt, Pu.qs_bk, Pu.qs_ct, Pu.qs_pick, Pu.z_seq, Pu.z_next, Pu.z_bk, Pu.z_ct, Pu.eq1_ok, Pu.z_expr, Pu.rq1_ok, Pu.z_ret, Pu.z_retN, Pu.gq1_ok, Pu.gq2_ok, Pu.z_asg, Pu.z_nm, Pu.z_gt, Pu.z_gw, Pu.z_gn, Pu.gcq_ok, Pu.z_gc, Pu.sbI_ok, Pu.sbJ_ok, Pu.sbO_ok, Pu.z_sub, Pu.puI_ok, Pu.z_put, Pu.apI_ok, Pu.z_append, Pu.pq1_ok, Pu.pq2_ok, Pu.z_par, Pu.p3q1_ok, Pu.p3q2_ok, Pu.p3q3_ok, Pu.z_par3, Pu.wq_ok, Pu.iqS_ok, Pu.it_tup, Pu.it_lst, Pu.it_rl, Pu.z_iSeq, Pu.z_iRng1, Pu.enQ_tup, Pu.enQ_lst, Pu.z_iEnum, Pu.zq1_ok, Pu.zq2_ok, Pu.z_iZip, Pu.foq_ok, Pu.z_for, Pu.for_nil, Pu.toq_nx, Pu.toq_ct, Pu.toq_bk, Pu.toq_rt, Pu.toq_pick, Pu.tgq_ok, Pu.lcq_ok, Pu.z_lc, Pu.lc_nil, Pu.wp_nil', Pu.wp_cons', Pu.z_body', Pu.finP_nx, Pu.finP_rt, Pu.finP_pick, Pu.y_add, Pu.y_sub, Pu.y_lt, Pu.y_le, Pu.y_gt, Pu.y_ge, Pu.y_eqI, Pu.y_eqS, Pu.y_neI, Pu.y_neS, Pu.y_lenT, Pu.y_lenL, Pu.y_lenR, Pu.y_int, Pu.y_intB, Pu.y_tupT, Pu.y_tupL, Pu.y_lstT, Pu.y_lstL, Pu.y_isii, Pu.y_isib, Pu.y_isss, Pu.y_istt, Pu.y_ixT, Pu.y_ixW, Pu.y_ixL, Pu.at_0, Pu.at_1, Pu.at_2, Pu.tp_non, Pu.tp_bl, Pu.tp_int, Pu.tp_tup, Pu.tp_lst, List.getElem?_cons_zero, List.getElem?_cons_succ, List.set_cons_zero, List.set_cons_succ, List.map_cons, List.map_nil, List.replicate_zero, List.replicate_succ, List.cons_append, List.nil_append, List.append_nil, List.length_cons, List.length_nil, Nat.sub_self, Bool.not_true, Bool.not_false, decide_true, decide_false, Nat.zero_add, Nat.add_one_sub_one, eq_self, ea, eb, hs, hf, hu, c1, e2, c2, a1, a2]
    rfl
theorem w_work_keep {xs : List P} {c : Bool × Nat} (hc : c.2 + 1 < xs.length) (hz : xs.length ≤ 1000) : p_work_crossing [.tup xs, crV c, .fn "keep_under"] s = some (.tup (swp xs c.2), s) := by
  have ha := List.getElem?_eq_getElem (show c.2 < xs.length by omega)
  have hb := List.getElem?_eq_getElem hc
  rw [w_work (f := "keep_under") (u := if c.1 then xs[c.2 + 1] else xs[c.2]) rfl hc hz ha hb (by rw [w_keep]), ← swp_eq xs c.2 _ _ ha hb]
  cases c.1 <;> rfl
end
end K01
namespace K01
open PySem PySem.Spec PyProof.Rows L2 Vm Pu Rw
section
variable {s : S} {n : Nat} {r : List (Bool × Nat)}
theorem at_last {xs : List P} {d : P} : atI (xs ++ [d]) (-1) = some d := at_ok (ixN_last (by simp)) (by simp)
def wayV (xs : List P) (r : List (Bool × Nat)) : List P := (way xs r).map .tup
theorem w_work_way {xs : List P} (hc : ∀ c ∈ r, c.2 + 1 < xs.length) (hz : xs.length ≤ 1000) (hr : r.length ≤ 1000) : p_work_way [.tup xs, rowV r, .fn "keep_under"] s = some (.tup (wayV xs r), s) := by
  have lp : ∀ (r : List (Bool × Nat)) (xs acc : List P) (t row : Option P) (x : Option P), (∀ c ∈ r, c.2 + 1 < xs.length) → xs.length ≤ 1000 → acc.length + r.length < 100000 →
      ∃ x', forP (qNm 4) (qSeq (qAppend 3 (qFn p_work_crossing (qCons (qBin pIx (qVar 3) (qNeg (qC (.int 1)))) (qCons (qVar 4) (qCons (qVar 2) qNil))))) qNext) (r.map crV) [t, row, some (.fn "keep_under"), some (.lst (acc ++ [.tup xs])), x] s = some (.nx [t, row, some (.fn "keep_under"), some (.lst (acc ++ wayV xs r)), x'] s) := by
    intro r
    induction r with
    | nil => intro xs acc t row x _ _ _; exact ⟨x, rfl⟩
    | cons c r ih =>
      intro xs acc t row x hc hz hl
      simp only [List.length_cons] at hl
      have h1 := hc c (by simp)
      obtain ⟨x', e⟩ := ih (swp xs c.2) (acc ++ [.tup xs]) t row (some (crV c)) (fun d m => by rw [swp_len]; exact hc d (by simp [m])) (by rw [swp_len]; exact hz) (by simp; omega)
      refine ⟨x', ?_⟩
      rw [List.map_cons, for_cons]
      have ap := apO_ok (x := 3) (d := .tup (swp xs c.2)) (pe := [t, row, some (.fn "keep_under"), some (.lst (acc ++ [.tup xs])), some (crV c)]) (s := s) (xs := acc ++ [.tup xs]) (by simp; omega)
      simp only [Vm.bind_some', Vm.pick_t, Vm.pick_f, Pu.gq_ok, Pu.z_var, Pu.z_c, Pu.wr_ok, Pu.bq1_ok, Pu.bq2_ok, Pu.z_bin, Pu.iq1_ok, Pu.z_if, Pu.z_ifS, Pu.z_nil, Pu.cq1_ok, Pu.cq2_ok, Pu.z_cons, Pu.fq1_ok, Pu.z_fn, Pu.z_tup, Pu.z_lst, Pu.tupQ_0, Pu.tupQ_1, Pu.tupQ_2, Pu.tupQ_3, Pu.lstQ_0, Pu.lstQ_1, Pu.lstQ_2, Pu.lstQ_3, Pu.lstQ_4, Pu.lstQ_5, Pu.lstQ_6, Pu.bq_ok, Pu.z_b, Pu.blQ_ok, Pu.z_bV, Pu.tq1_ok, Pu.tq2_ok, Pu.z_bT, Pu.aq1_ok, Pu.z_bAnd, Pu.oq1_ok, Pu.z_bOr, Pu.nq1_ok, Pu.z_bNot, Pu.z_yes, Pu.vq1_ok, Pu.vq2_ok, Pu.z_and, Pu.uq1_ok, Pu.uq2_ok, Pu.z_or, Pu.xq1_ok, Pu.xq2_ok, Pu.z_not, Pu.ngQ_ok, Pu.z_neg, Pu.kq3_ok, Pu.kq2_ok, Pu.kq1_ok, Pu.z_chain, Pu.z_oNone, Pu.osQ_ok, Pu.z_oSome, Pu.sq1_ok, Pu.sq2_ok, Pu.sq3_ok, Pu.z_slice, Pu.z_slT, Pu.z_slL, Pu.rvQ_ok, Pu.z_revT, Pu.r1Q_ok, Pu.z_rg1, Pu.z_tupR, Pu.z_lstR, Pu.lq1_ok, Pu.lq2_ok, Pu.lq3_ok, Pu.z_callL, Pu.nq_ok, Pu.z_fnK, Pu.qs_nx, Pu.qs_rt, Pu.qs_bk, Pu.qs_ct, Pu.qs_pick, Pu.z_seq, Pu.z_next, Pu.z_bk, Pu.z_ct, Pu.eq1_ok, Pu.z_expr, Pu.rq1_ok, Pu.z_ret, Pu.z_retN, Pu.gq1_ok, Pu.gq2_ok, Pu.z_asg, Pu.z_nm, Pu.z_gt, Pu.z_gw, Pu.z_gn, Pu.gcq_ok, Pu.z_gc, Pu.sbI_ok, Pu.sbJ_ok, Pu.sbO_ok, Pu.z_sub, Pu.puI_ok, Pu.z_put, Pu.apI_ok, Pu.z_append, Pu.pq1_ok, Pu.pq2_ok, Pu.z_par, Pu.p3q1_ok, Pu.p3q2_ok, Pu.p3q3_ok, Pu.z_par3, Pu.wq_ok, Pu.iqS_ok, Pu.it_tup, Pu.it_lst, Pu.it_rl, Pu.z_iSeq, Pu.z_iRng1, Pu.enQ_tup, Pu.enQ_lst, Pu.z_iEnum, Pu.zq1_ok, Pu.zq2_ok, Pu.z_iZip, Pu.foq_ok, Pu.z_for, Pu.for_nil, Pu.toq_nx, Pu.toq_ct, Pu.toq_bk, Pu.toq_rt, Pu.toq_pick, Pu.tgq_ok, Pu.lcq_ok, Pu.z_lc, Pu.lc_nil, Pu.wp_nil', Pu.wp_cons', Pu.z_body', Pu.finP_nx, Pu.finP_rt, Pu.finP_pick, Pu.y_add, Pu.y_sub, Pu.y_lt, Pu.y_le, Pu.y_gt, Pu.y_ge, Pu.y_eqI, Pu.y_eqS, Pu.y_neI, Pu.y_neS, Pu.y_lenT, Pu.y_lenL, Pu.y_lenR, Pu.y_int, Pu.y_intB, Pu.y_tupT, Pu.y_tupL, Pu.y_lstT, Pu.y_lstL, Pu.y_isii, Pu.y_isib, Pu.y_isss, Pu.y_istt, Pu.y_ixT, Pu.y_ixW, Pu.y_ixL, Pu.at_0, Pu.at_1, Pu.at_2, Pu.tp_non, Pu.tp_bl, Pu.tp_int, Pu.tp_tup, Pu.tp_lst, List.getElem?_cons_zero, List.getElem?_cons_succ, List.set_cons_zero, List.set_cons_succ, List.map_cons, List.map_nil, List.replicate_zero, List.replicate_succ, List.cons_append, List.nil_append, List.append_nil, List.length_cons, List.length_nil, Nat.sub_self, Bool.not_true, Bool.not_false, decide_true, decide_false, Nat.zero_add, Nat.add_one_sub_one, eq_self, at_last, w_work_keep h1 hz, ap, e]
      simp [wayV, way]
  obtain ⟨x', e⟩ := lp r xs [] (some (.tup xs)) (some (rowV r)) none hc hz (by simp; omega)
  have e' := e
  rw [List.nil_append, List.nil_append] at e'
  unfold p_work_way q_work_way
  unfold rowV at e' ⊢
  simp only [Vm.bind_some', Vm.pick_t, Vm.pick_f, Pu.gq_ok, Pu.z_var, Pu.z_c, Pu.wr_ok, Pu.bq1_ok, Pu.bq2_ok, Pu.z_bin, Pu.iq1_ok, Pu.z_if, Pu.z_ifS, Pu.z_nil, Pu.cq1_ok, Pu.cq2_ok, Pu.z_cons, Pu.fq1_ok, Pu.z_fn, Pu.z_tup, Pu.z_lst, Pu.tupQ_0, Pu.tupQ_1, Pu.tupQ_2, Pu.tupQ_3, Pu.lstQ_0, Pu.lstQ_1, Pu.lstQ_2, Pu.lstQ_3, Pu.lstQ_4, Pu.lstQ_5, Pu.lstQ_6, Pu.bq_ok, Pu.z_b, Pu.blQ_ok, Pu.z_bV, Pu.tq1_ok, Pu.tq2_ok, Pu.z_bT, Pu.aq1_ok, Pu.z_bAnd, Pu.oq1_ok, Pu.z_bOr, Pu.nq1_ok, Pu.z_bNot, Pu.z_yes, Pu.vq1_ok, Pu.vq2_ok, Pu.z_and, Pu.uq1_ok, Pu.uq2_ok, Pu.z_or, Pu.xq1_ok, Pu.xq2_ok, Pu.z_not, Pu.ngQ_ok, Pu.z_neg, Pu.kq3_ok, Pu.kq2_ok, Pu.kq1_ok, Pu.z_chain, Pu.z_oNone, Pu.osQ_ok, Pu.z_oSome, Pu.sq1_ok, Pu.sq2_ok, Pu.sq3_ok, Pu.z_slice, Pu.z_slT, Pu.z_slL, Pu.rvQ_ok, Pu.z_revT, Pu.r1Q_ok, Pu.z_rg1, Pu.z_tupR, Pu.z_lstR, Pu.lq1_ok, Pu.lq2_ok, Pu.lq3_ok, Pu.z_callL, Pu.nq_ok, Pu.z_fnK, Pu.qs_nx, Pu.qs_rt, Pu.qs_bk, Pu.qs_ct, Pu.qs_pick, Pu.z_seq, Pu.z_next, Pu.z_bk, Pu.z_ct, Pu.eq1_ok, Pu.z_expr, Pu.rq1_ok, Pu.z_ret, Pu.z_retN, Pu.gq1_ok, Pu.gq2_ok, Pu.z_asg, Pu.z_nm, Pu.z_gt, Pu.z_gw, Pu.z_gn, Pu.gcq_ok, Pu.z_gc, Pu.sbI_ok, Pu.sbJ_ok, Pu.sbO_ok, Pu.z_sub, Pu.puI_ok, Pu.z_put, Pu.apI_ok, Pu.z_append, Pu.pq1_ok, Pu.pq2_ok, Pu.z_par, Pu.p3q1_ok, Pu.p3q2_ok, Pu.p3q3_ok, Pu.z_par3, Pu.wq_ok, Pu.iqS_ok, Pu.it_tup, Pu.it_lst, Pu.it_rl, Pu.z_iSeq, Pu.z_iRng1, Pu.enQ_tup, Pu.enQ_lst, Pu.z_iEnum, Pu.zq1_ok, Pu.zq2_ok, Pu.z_iZip, Pu.foq_ok, Pu.z_for, Pu.for_nil, Pu.toq_nx, Pu.toq_ct, Pu.toq_bk, Pu.toq_rt, Pu.toq_pick, Pu.tgq_ok, Pu.lcq_ok, Pu.z_lc, Pu.lc_nil, Pu.wp_nil', Pu.wp_cons', Pu.z_body', Pu.finP_nx, Pu.finP_rt, Pu.finP_pick, Pu.y_add, Pu.y_sub, Pu.y_lt, Pu.y_le, Pu.y_gt, Pu.y_ge, Pu.y_eqI, Pu.y_eqS, Pu.y_neI, Pu.y_neS, Pu.y_lenT, Pu.y_lenL, Pu.y_lenR, Pu.y_int, Pu.y_intB, Pu.y_tupT, Pu.y_tupL, Pu.y_lstT, Pu.y_lstL, Pu.y_isii, Pu.y_isib, Pu.y_isss, Pu.y_istt, Pu.y_ixT, Pu.y_ixW, Pu.y_ixL, Pu.at_0, Pu.at_1, Pu.at_2, Pu.tp_non, Pu.tp_bl, Pu.tp_int, Pu.tp_tup, Pu.tp_lst, List.getElem?_cons_zero, List.getElem?_cons_succ, List.set_cons_zero, List.set_cons_succ, List.map_cons, List.map_nil, List.replicate_zero, List.replicate_succ, List.cons_append, List.nil_append, List.append_nil, List.length_cons, List.length_nil, Nat.sub_self, Bool.not_true, Bool.not_false, decide_true, decide_false, Nat.zero_add, Nat.add_one_sub_one, eq_self, e']
theorem w_work_row {xs : List P} (hc : ∀ c ∈ r, c.2 + 1 < xs.length) (hz : xs.length ≤ 1000) : p_work_row [.tup xs, rowV r, .fn "keep_under"] s = some (.tup (back_ xs r), s) := by
  have lp : ∀ (r : List (Bool × Nat)) (xs : List P) (row x : Option P), (∀ c ∈ r, c.2 + 1 < xs.length) → xs.length ≤ 1000 →
      ∃ x', forP (qNm 3) (qSeq (qAsg (qFn p_work_crossing (qCons (qVar 0) (qCons (qVar 3) (qCons (qVar 2) qNil)))) (qNm 0)) qNext) (r.map crV) [some (.tup xs), row, some (.fn "keep_under"), x] s = some (.nx [some (.tup (back_ xs r)), row, some (.fn "keep_under"), x'] s) := by
    intro r
    induction r with
    | nil => intro xs row x _ _; exact ⟨x, rfl⟩
    | cons c r ih =>
      intro xs row x hc hz
      have h1 := hc c (by simp)
      obtain ⟨x', e⟩ := ih (swp xs c.2) row (some (crV c)) (fun d m => by rw [swp_len]; exact hc d (by simp [m])) (by rw [swp_len]; exact hz)
      refine ⟨x', ?_⟩
      rw [List.map_cons, for_cons]
      simp only [Vm.bind_some', Vm.pick_t, Vm.pick_f, Pu.gq_ok, Pu.z_var, Pu.z_c, Pu.wr_ok, Pu.bq1_ok, Pu.bq2_ok, Pu.z_bin, Pu.iq1_ok, Pu.z_if, Pu.z_ifS, Pu.z_nil, Pu.cq1_ok, Pu.cq2_ok, Pu.z_cons, Pu.fq1_ok, Pu.z_fn, Pu.z_tup, Pu.z_lst, Pu.tupQ_0, Pu.tupQ_1, Pu.tupQ_2, Pu.tupQ_3, Pu.lstQ_0, Pu.lstQ_1, Pu.lstQ_2, Pu.lstQ_3, Pu.lstQ_4, Pu.lstQ_5, Pu.lstQ_6, Pu.bq_ok, Pu.z_b, Pu.blQ_ok, Pu.z_bV, Pu.tq1_ok, Pu.tq2_ok, Pu.z_bT, Pu.aq1_ok, Pu.z_bAnd, Pu.oq1_ok, Pu.z_bOr, Pu.nq1_ok, Pu.z_bNot, Pu.z_yes, Pu.vq1_ok, Pu.vq2_ok, Pu.z_and, Pu.uq1_ok, Pu.uq2_ok, Pu.z_or, Pu.xq1_ok, Pu.xq2_ok, Pu.z_not, Pu.ngQ_ok, Pu.z_neg, Pu.kq3_ok, Pu.kq2_ok, Pu.kq1_ok, Pu.z_chain, Pu.z_oNone, Pu.osQ_ok, Pu.z_oSome, Pu.sq1_ok, Pu.sq2_ok, Pu.sq3_ok, Pu.z_slice, Pu.z_slT, Pu.z_slL, Pu.rvQ_ok, Pu.z_revT, Pu.r1Q_ok, Pu.z_rg1, Pu.z_tupR, Pu.z_lstR, Pu.lq1_ok, Pu.lq2_ok, Pu.lq3_ok, Pu.z_callL, Pu.nq_ok, Pu.z_fnK, Pu.qs_nx, Pu.qs_rt, Pu.qs_bk, Pu.qs_ct, Pu.qs_pick, Pu.z_seq, Pu.z_next, Pu.z_bk, Pu.z_ct, Pu.eq1_ok, Pu.z_expr, Pu.rq1_ok, Pu.z_ret, Pu.z_retN, Pu.gq1_ok, Pu.gq2_ok, Pu.z_asg, Pu.z_nm, Pu.z_gt, Pu.z_gw, Pu.z_gn, Pu.gcq_ok, Pu.z_gc, Pu.sbI_ok, Pu.sbJ_ok, Pu.sbO_ok, Pu.z_sub, Pu.puI_ok, Pu.z_put, Pu.apI_ok, Pu.z_append, Pu.pq1_ok, Pu.pq2_ok, Pu.z_par, Pu.p3q1_ok, Pu.p3q2_ok, Pu.p3q3_ok, Pu.z_par3, Pu.wq_ok, Pu.iqS_ok, Pu.it_tup, Pu.it_lst, Pu.it_rl, Pu.z_iSeq, Pu.z_iRng1, Pu.enQ_tup, Pu.enQ_lst, Pu.z_iEnum, Pu.zq1_ok, Pu.zq2_ok, Pu.z_iZip, Pu.foq_ok, Pu.z_for, Pu.for_nil, Pu.toq_nx, Pu.toq_ct, Pu.toq_bk, Pu.toq_rt, Pu.toq_pick, Pu.tgq_ok, Pu.lcq_ok, Pu.z_lc, Pu.lc_nil, Pu.wp_nil', Pu.wp_cons', Pu.z_body', Pu.finP_nx, Pu.finP_rt, Pu.finP_pick, Pu.y_add, Pu.y_sub, Pu.y_lt, Pu.y_le, Pu.y_gt, Pu.y_ge, Pu.y_eqI, Pu.y_eqS, Pu.y_neI, Pu.y_neS, Pu.y_lenT, Pu.y_lenL, Pu.y_lenR, Pu.y_int, Pu.y_intB, Pu.y_tupT, Pu.y_tupL, Pu.y_lstT, Pu.y_lstL, Pu.y_isii, Pu.y_isib, Pu.y_isss, Pu.y_istt, Pu.y_ixT, Pu.y_ixW, Pu.y_ixL, Pu.at_0, Pu.at_1, Pu.at_2, Pu.tp_non, Pu.tp_bl, Pu.tp_int, Pu.tp_tup, Pu.tp_lst, List.getElem?_cons_zero, List.getElem?_cons_succ, List.set_cons_zero, List.set_cons_succ, List.map_cons, List.map_nil, List.replicate_zero, List.replicate_succ, List.cons_append, List.nil_append, List.append_nil, List.length_cons, List.length_nil, Nat.sub_self, Bool.not_true, Bool.not_false, decide_true, decide_false, Nat.zero_add, Nat.add_one_sub_one, eq_self, w_work_keep h1 hz, e]
      rfl
  obtain ⟨x', e⟩ := lp r xs (some (rowV r)) none hc hz
  unfold p_work_row q_work_row
  unfold rowV at e ⊢
  simp only [Vm.bind_some', Vm.pick_t, Vm.pick_f, Pu.gq_ok, Pu.z_var, Pu.z_c, Pu.wr_ok, Pu.bq1_ok, Pu.bq2_ok, Pu.z_bin, Pu.iq1_ok, Pu.z_if, Pu.z_ifS, Pu.z_nil, Pu.cq1_ok, Pu.cq2_ok, Pu.z_cons, Pu.fq1_ok, Pu.z_fn, Pu.z_tup, Pu.z_lst, Pu.tupQ_0, Pu.tupQ_1, Pu.tupQ_2, Pu.tupQ_3, Pu.lstQ_0, Pu.lstQ_1, Pu.lstQ_2, Pu.lstQ_3, Pu.lstQ_4, Pu.lstQ_5, Pu.lstQ_6, Pu.bq_ok, Pu.z_b, Pu.blQ_ok, Pu.z_bV, Pu.tq1_ok, Pu.tq2_ok, Pu.z_bT, Pu.aq1_ok, Pu.z_bAnd, Pu.oq1_ok, Pu.z_bOr, Pu.nq1_ok, Pu.z_bNot, Pu.z_yes, Pu.vq1_ok, Pu.vq2_ok, Pu.z_and, Pu.uq1_ok, Pu.uq2_ok, Pu.z_or, Pu.xq1_ok, Pu.xq2_ok, Pu.z_not, Pu.ngQ_ok, Pu.z_neg, Pu.kq3_ok, Pu.kq2_ok, Pu.kq1_ok, Pu.z_chain, Pu.z_oNone, Pu.osQ_ok, Pu.z_oSome, Pu.sq1_ok, Pu.sq2_ok, Pu.sq3_ok, Pu.z_slice, Pu.z_slT, Pu.z_slL, Pu.rvQ_ok, Pu.z_revT, Pu.r1Q_ok, Pu.z_rg1, Pu.z_tupR, Pu.z_lstR, Pu.lq1_ok, Pu.lq2_ok, Pu.lq3_ok, Pu.z_callL, Pu.nq_ok, Pu.z_fnK, Pu.qs_nx, Pu.qs_rt, Pu.qs_bk, Pu.qs_ct, Pu.qs_pick, Pu.z_seq, Pu.z_next, Pu.z_bk, Pu.z_ct, Pu.eq1_ok, Pu.z_expr, Pu.rq1_ok, Pu.z_ret, Pu.z_retN, Pu.gq1_ok, Pu.gq2_ok, Pu.z_asg, Pu.z_nm, Pu.z_gt, Pu.z_gw, Pu.z_gn, Pu.gcq_ok, Pu.z_gc, Pu.sbI_ok, Pu.sbJ_ok, Pu.sbO_ok, Pu.z_sub, Pu.puI_ok, Pu.z_put, Pu.apI_ok, Pu.z_append, Pu.pq1_ok, Pu.pq2_ok, Pu.z_par, Pu.p3q1_ok, Pu.p3q2_ok, Pu.p3q3_ok, Pu.z_par3, Pu.wq_ok, Pu.iqS_ok, Pu.it_tup, Pu.it_lst, Pu.it_rl, Pu.z_iSeq, Pu.z_iRng1, Pu.enQ_tup, Pu.enQ_lst, Pu.z_iEnum, Pu.zq1_ok, Pu.zq2_ok, Pu.z_iZip, Pu.foq_ok, Pu.z_for, Pu.for_nil, Pu.toq_nx, Pu.toq_ct, Pu.toq_bk, Pu.toq_rt, Pu.toq_pick, Pu.tgq_ok, Pu.lcq_ok, Pu.z_lc, Pu.lc_nil, Pu.wp_nil', Pu.wp_cons', Pu.z_body', Pu.finP_nx, Pu.finP_rt, Pu.finP_pick, Pu.y_add, Pu.y_sub, Pu.y_lt, Pu.y_le, Pu.y_gt, Pu.y_ge, Pu.y_eqI, Pu.y_eqS, Pu.y_neI, Pu.y_neS, Pu.y_lenT, Pu.y_lenL, Pu.y_lenR, Pu.y_int, Pu.y_intB, Pu.y_tupT, Pu.y_tupL, Pu.y_lstT, Pu.y_lstL, Pu.y_isii, Pu.y_isib, Pu.y_isss, Pu.y_istt, Pu.y_ixT, Pu.y_ixW, Pu.y_ixL, Pu.at_0, Pu.at_1, Pu.at_2, Pu.tp_non, Pu.tp_bl, Pu.tp_int, Pu.tp_tup, Pu.tp_lst, List.getElem?_cons_zero, List.getElem?_cons_succ, List.set_cons_zero, List.set_cons_succ, List.map_cons, List.map_nil, List.replicate_zero, List.replicate_succ, List.cons_append, List.nil_append, List.append_nil, List.length_cons, List.length_nil, Nat.sub_self, Bool.not_true, Bool.not_false, decide_true, decide_false, Nat.zero_add, Nat.add_one_sub_one, eq_self, e]
theorem w_range (h : n ≤ 1000) : trQ ((0, (n : Int)), s) = some (.tup (nv (List.range n)), s) := by rw [trQ_n h, prng_nv]
theorem w_rangeL (h : n ≤ 1000) : lrQ ((0, (n : Int)), s) = some (.lst (nv (List.range n)), s) := by rw [lrQ_n h, prng_nv]
theorem back_nv (l : List Nat) (r : List (Bool × Nat)) : back_ (nv l) r = nv (back_ l r) := back_map _ r l
theorem ok_nv (hr : Ok n r) : ∀ c ∈ r, c.2 + 1 < (nv (List.range n)).length := by rw [nv_len, List.length_range]; exact hr.2
def ordV (n : Nat) (r : List (Bool × Nat)) : P := .tup (nv (back_ (List.range n) r))
theorem w_order_behind (h2 : n ≤ 5) (hr : Ok n r) : p_order_behind [.int n, rowV r] s = some (ordV n r, s) := by
  unfold p_order_behind q_order_behind ordV
  simp only [Vm.bind_some', Vm.pick_t, Vm.pick_f, Pu.gq_ok, Pu.z_var, Pu.z_c, Pu.wr_ok, Pu.bq1_ok, Pu.bq2_ok, Pu.z_bin, Pu.iq1_ok, Pu.z_if, Pu.z_ifS, Pu.z_nil, Pu.cq1_ok, Pu.cq2_ok, Pu.z_cons, Pu.fq1_ok, Pu.z_fn, Pu.z_tup, Pu.z_lst, Pu.tupQ_0, Pu.tupQ_1, Pu.tupQ_2, Pu.tupQ_3, Pu.lstQ_0, Pu.lstQ_1, Pu.lstQ_2, Pu.lstQ_3, Pu.lstQ_4, Pu.lstQ_5, Pu.lstQ_6, Pu.bq_ok, Pu.z_b, Pu.blQ_ok, Pu.z_bV, Pu.tq1_ok, Pu.tq2_ok, Pu.z_bT, Pu.aq1_ok, Pu.z_bAnd, Pu.oq1_ok, Pu.z_bOr, Pu.nq1_ok, Pu.z_bNot, Pu.z_yes, Pu.vq1_ok, Pu.vq2_ok, Pu.z_and, Pu.uq1_ok, Pu.uq2_ok, Pu.z_or, Pu.xq1_ok, Pu.xq2_ok, Pu.z_not, Pu.ngQ_ok, Pu.z_neg, Pu.kq3_ok, Pu.kq2_ok, Pu.kq1_ok, Pu.z_chain, Pu.z_oNone, Pu.osQ_ok, Pu.z_oSome, Pu.sq1_ok, Pu.sq2_ok, Pu.sq3_ok, Pu.z_slice, Pu.z_slT, Pu.z_slL, Pu.rvQ_ok, Pu.z_revT, Pu.r1Q_ok, Pu.z_rg1, Pu.z_tupR, Pu.z_lstR, Pu.lq1_ok, Pu.lq2_ok, Pu.lq3_ok, Pu.z_callL, Pu.nq_ok, Pu.z_fnK, Pu.qs_nx, Pu.qs_rt, Pu.qs_bk, Pu.qs_ct, Pu.qs_pick, Pu.z_seq, Pu.z_next, Pu.z_bk, Pu.z_ct, Pu.eq1_ok, Pu.z_expr, Pu.rq1_ok, Pu.z_ret, Pu.z_retN, Pu.gq1_ok, Pu.gq2_ok, Pu.z_asg, Pu.z_nm, Pu.z_gt, Pu.z_gw, Pu.z_gn, Pu.gcq_ok, Pu.z_gc, Pu.sbI_ok, Pu.sbJ_ok, Pu.sbO_ok, Pu.z_sub, Pu.puI_ok, Pu.z_put, Pu.apI_ok, Pu.z_append, Pu.pq1_ok, Pu.pq2_ok, Pu.z_par, Pu.p3q1_ok, Pu.p3q2_ok, Pu.p3q3_ok, Pu.z_par3, Pu.wq_ok, Pu.iqS_ok, Pu.it_tup, Pu.it_lst, Pu.it_rl, Pu.z_iSeq, Pu.z_iRng1, Pu.enQ_tup, Pu.enQ_lst, Pu.z_iEnum, Pu.zq1_ok, Pu.zq2_ok, Pu.z_iZip, Pu.foq_ok, Pu.z_for, Pu.for_nil, Pu.toq_nx, Pu.toq_ct, Pu.toq_bk, Pu.toq_rt, Pu.toq_pick, Pu.tgq_ok, Pu.lcq_ok, Pu.z_lc, Pu.lc_nil, Pu.wp_nil', Pu.wp_cons', Pu.z_body', Pu.finP_nx, Pu.finP_rt, Pu.finP_pick, Pu.y_add, Pu.y_sub, Pu.y_lt, Pu.y_le, Pu.y_gt, Pu.y_ge, Pu.y_eqI, Pu.y_eqS, Pu.y_neI, Pu.y_neS, Pu.y_lenT, Pu.y_lenL, Pu.y_lenR, Pu.y_int, Pu.y_intB, Pu.y_tupT, Pu.y_tupL, Pu.y_lstT, Pu.y_lstL, Pu.y_isii, Pu.y_isib, Pu.y_isss, Pu.y_istt, Pu.y_ixT, Pu.y_ixW, Pu.y_ixL, Pu.at_0, Pu.at_1, Pu.at_2, Pu.tp_non, Pu.tp_bl, Pu.tp_int, Pu.tp_tup, Pu.tp_lst, List.getElem?_cons_zero, List.getElem?_cons_succ, List.set_cons_zero, List.set_cons_succ, List.map_cons, List.map_nil, List.replicate_zero, List.replicate_succ, List.cons_append, List.nil_append, List.append_nil, List.length_cons, List.length_nil, Nat.sub_self, Bool.not_true, Bool.not_false, decide_true, decide_false, Nat.zero_add, Nat.add_one_sub_one, eq_self, w_range (show n ≤ 1000 by omega), w_work_row (ok_nv hr) (by rw [nv_len, List.length_range]; omega), back_nv]
theorem w_order_of (h1 : 2 ≤ n) (h2 : n ≤ 5) (hr : Ok n r) : p_order_of [.int n, rowV r] s = some (ordV n r, s) := by
  unfold p_order_of q_order_of
  simp only [Vm.bind_some', Vm.pick_t, Vm.pick_f, Pu.gq_ok, Pu.z_var, Pu.z_c, Pu.wr_ok, Pu.bq1_ok, Pu.bq2_ok, Pu.z_bin, Pu.iq1_ok, Pu.z_if, Pu.z_ifS, Pu.z_nil, Pu.cq1_ok, Pu.cq2_ok, Pu.z_cons, Pu.fq1_ok, Pu.z_fn, Pu.z_tup, Pu.z_lst, Pu.tupQ_0, Pu.tupQ_1, Pu.tupQ_2, Pu.tupQ_3, Pu.lstQ_0, Pu.lstQ_1, Pu.lstQ_2, Pu.lstQ_3, Pu.lstQ_4, Pu.lstQ_5, Pu.lstQ_6, Pu.bq_ok, Pu.z_b, Pu.blQ_ok, Pu.z_bV, Pu.tq1_ok, Pu.tq2_ok, Pu.z_bT, Pu.aq1_ok, Pu.z_bAnd, Pu.oq1_ok, Pu.z_bOr, Pu.nq1_ok, Pu.z_bNot, Pu.z_yes, Pu.vq1_ok, Pu.vq2_ok, Pu.z_and, Pu.uq1_ok, Pu.uq2_ok, Pu.z_or, Pu.xq1_ok, Pu.xq2_ok, Pu.z_not, Pu.ngQ_ok, Pu.z_neg, Pu.kq3_ok, Pu.kq2_ok, Pu.kq1_ok, Pu.z_chain, Pu.z_oNone, Pu.osQ_ok, Pu.z_oSome, Pu.sq1_ok, Pu.sq2_ok, Pu.sq3_ok, Pu.z_slice, Pu.z_slT, Pu.z_slL, Pu.rvQ_ok, Pu.z_revT, Pu.r1Q_ok, Pu.z_rg1, Pu.z_tupR, Pu.z_lstR, Pu.lq1_ok, Pu.lq2_ok, Pu.lq3_ok, Pu.z_callL, Pu.nq_ok, Pu.z_fnK, Pu.qs_nx, Pu.qs_rt, Pu.qs_bk, Pu.qs_ct, Pu.qs_pick, Pu.z_seq, Pu.z_next, Pu.z_bk, Pu.z_ct, Pu.eq1_ok, Pu.z_expr, Pu.rq1_ok, Pu.z_ret, Pu.z_retN, Pu.gq1_ok, Pu.gq2_ok, Pu.z_asg, Pu.z_nm, Pu.z_gt, Pu.z_gw, Pu.z_gn, Pu.gcq_ok, Pu.z_gc, Pu.sbI_ok, Pu.sbJ_ok, Pu.sbO_ok, Pu.z_sub, Pu.puI_ok, Pu.z_put, Pu.apI_ok, Pu.z_append, Pu.pq1_ok, Pu.pq2_ok, Pu.z_par, Pu.p3q1_ok, Pu.p3q2_ok, Pu.p3q3_ok, Pu.z_par3, Pu.wq_ok, Pu.iqS_ok, Pu.it_tup, Pu.it_lst, Pu.it_rl, Pu.z_iSeq, Pu.z_iRng1, Pu.enQ_tup, Pu.enQ_lst, Pu.z_iEnum, Pu.zq1_ok, Pu.zq2_ok, Pu.z_iZip, Pu.foq_ok, Pu.z_for, Pu.for_nil, Pu.toq_nx, Pu.toq_ct, Pu.toq_bk, Pu.toq_rt, Pu.toq_pick, Pu.tgq_ok, Pu.lcq_ok, Pu.z_lc, Pu.lc_nil, Pu.wp_nil', Pu.wp_cons', Pu.z_body', Pu.finP_nx, Pu.finP_rt, Pu.finP_pick, Pu.y_add, Pu.y_sub, Pu.y_lt, Pu.y_le, Pu.y_gt, Pu.y_ge, Pu.y_eqI, Pu.y_eqS, Pu.y_neI, Pu.y_neS, Pu.y_lenT, Pu.y_lenL, Pu.y_lenR, Pu.y_int, Pu.y_intB, Pu.y_tupT, Pu.y_tupL, Pu.y_lstT, Pu.y_lstL, Pu.y_isii, Pu.y_isib, Pu.y_isss, Pu.y_istt, Pu.y_ixT, Pu.y_ixW, Pu.y_ixL, Pu.at_0, Pu.at_1, Pu.at_2, Pu.tp_non, Pu.tp_bl, Pu.tp_int, Pu.tp_tup, Pu.tp_lst, List.getElem?_cons_zero, List.getElem?_cons_succ, List.set_cons_zero, List.set_cons_succ, List.map_cons, List.map_nil, List.replicate_zero, List.replicate_succ, List.cons_append, List.nil_append, List.append_nil, List.length_cons, List.length_nil, Nat.sub_self, Bool.not_true, Bool.not_false, decide_true, decide_false, Nat.zero_add, Nat.add_one_sub_one, eq_self, w_need h1 h2 hr, w_order_behind h2 hr]
def wysV (n : Nat) (r : List (Bool × Nat)) : P := .tup ((way (List.range n) r).map fun l => .tup (nv l))
theorem wayV_nv (l : List Nat) (r : List (Bool × Nat)) : wayV (nv l) r = (way l r).map fun l => .tup (nv l) := by
  unfold wayV nv
  rw [way_map, List.map_map]
  rfl
theorem w_wy (h2 : n ≤ 5) (hr : Ok n r) : p_work_way [.tup (nv (List.range n)), rowV r, .fn "keep_under"] s = some (wysV n r, s) := by
  rw [w_work_way (ok_nv hr) (by rw [nv_len, List.length_range]; omega) (by have := hr.1; omega), wayV_nv]; rfl
theorem w_order_on_way (h1 : 2 ≤ n) (h2 : n ≤ 5) (hr : Ok n r) : p_order_on_way [.int n, rowV r] s = some (wysV n r, s) := by
  unfold p_order_on_way q_order_on_way
  simp only [Vm.bind_some', Vm.pick_t, Vm.pick_f, Pu.gq_ok, Pu.z_var, Pu.z_c, Pu.wr_ok, Pu.bq1_ok, Pu.bq2_ok, Pu.z_bin, Pu.iq1_ok, Pu.z_if, Pu.z_ifS, Pu.z_nil, Pu.cq1_ok, Pu.cq2_ok, Pu.z_cons, Pu.fq1_ok, Pu.z_fn, Pu.z_tup, Pu.z_lst, Pu.tupQ_0, Pu.tupQ_1, Pu.tupQ_2, Pu.tupQ_3, Pu.lstQ_0, Pu.lstQ_1, Pu.lstQ_2, Pu.lstQ_3, Pu.lstQ_4, Pu.lstQ_5, Pu.lstQ_6, Pu.bq_ok, Pu.z_b, Pu.blQ_ok, Pu.z_bV, Pu.tq1_ok, Pu.tq2_ok, Pu.z_bT, Pu.aq1_ok, Pu.z_bAnd, Pu.oq1_ok, Pu.z_bOr, Pu.nq1_ok, Pu.z_bNot, Pu.z_yes, Pu.vq1_ok, Pu.vq2_ok, Pu.z_and, Pu.uq1_ok, Pu.uq2_ok, Pu.z_or, Pu.xq1_ok, Pu.xq2_ok, Pu.z_not, Pu.ngQ_ok, Pu.z_neg, Pu.kq3_ok, Pu.kq2_ok, Pu.kq1_ok, Pu.z_chain, Pu.z_oNone, Pu.osQ_ok, Pu.z_oSome, Pu.sq1_ok, Pu.sq2_ok, Pu.sq3_ok, Pu.z_slice, Pu.z_slT, Pu.z_slL, Pu.rvQ_ok, Pu.z_revT, Pu.r1Q_ok, Pu.z_rg1, Pu.z_tupR, Pu.z_lstR, Pu.lq1_ok, Pu.lq2_ok, Pu.lq3_ok, Pu.z_callL, Pu.nq_ok, Pu.z_fnK, Pu.qs_nx, Pu.qs_rt, Pu.qs_bk, Pu.qs_ct, Pu.qs_pick, Pu.z_seq, Pu.z_next, Pu.z_bk, Pu.z_ct, Pu.eq1_ok, Pu.z_expr, Pu.rq1_ok, Pu.z_ret, Pu.z_retN, Pu.gq1_ok, Pu.gq2_ok, Pu.z_asg, Pu.z_nm, Pu.z_gt, Pu.z_gw, Pu.z_gn, Pu.gcq_ok, Pu.z_gc, Pu.sbI_ok, Pu.sbJ_ok, Pu.sbO_ok, Pu.z_sub, Pu.puI_ok, Pu.z_put, Pu.apI_ok, Pu.z_append, Pu.pq1_ok, Pu.pq2_ok, Pu.z_par, Pu.p3q1_ok, Pu.p3q2_ok, Pu.p3q3_ok, Pu.z_par3, Pu.wq_ok, Pu.iqS_ok, Pu.it_tup, Pu.it_lst, Pu.it_rl, Pu.z_iSeq, Pu.z_iRng1, Pu.enQ_tup, Pu.enQ_lst, Pu.z_iEnum, Pu.zq1_ok, Pu.zq2_ok, Pu.z_iZip, Pu.foq_ok, Pu.z_for, Pu.for_nil, Pu.toq_nx, Pu.toq_ct, Pu.toq_bk, Pu.toq_rt, Pu.toq_pick, Pu.tgq_ok, Pu.lcq_ok, Pu.z_lc, Pu.lc_nil, Pu.wp_nil', Pu.wp_cons', Pu.z_body', Pu.finP_nx, Pu.finP_rt, Pu.finP_pick, Pu.y_add, Pu.y_sub, Pu.y_lt, Pu.y_le, Pu.y_gt, Pu.y_ge, Pu.y_eqI, Pu.y_eqS, Pu.y_neI, Pu.y_neS, Pu.y_lenT, Pu.y_lenL, Pu.y_lenR, Pu.y_int, Pu.y_intB, Pu.y_tupT, Pu.y_tupL, Pu.y_lstT, Pu.y_lstL, Pu.y_isii, Pu.y_isib, Pu.y_isss, Pu.y_istt, Pu.y_ixT, Pu.y_ixW, Pu.y_ixL, Pu.at_0, Pu.at_1, Pu.at_2, Pu.tp_non, Pu.tp_bl, Pu.tp_int, Pu.tp_tup, Pu.tp_lst, List.getElem?_cons_zero, List.getElem?_cons_succ, List.set_cons_zero, List.set_cons_succ, List.map_cons, List.map_nil, List.replicate_zero, List.replicate_succ, List.cons_append, List.nil_append, List.append_nil, List.length_cons, List.length_nil, Nat.sub_self, Bool.not_true, Bool.not_false, decide_true, decide_false, Nat.zero_add, Nat.add_one_sub_one, eq_self, w_need h1 h2 hr, w_range (show n ≤ 1000 by omega), w_wy h2 hr]
def wofV (n : Nat) (r : List (Bool × Nat)) (k : Nat) : P := .tup (nv (wayOf n r k))
theorem w_way_of {k : Nat} (h1 : 2 ≤ n) (h2 : n ≤ 5) (hr : Ok n r) (hk : k < n) : p_way_of [.int n, rowV r, .int k] s = some (wofV n r k, s) := by
  have lc : lcP [3] (qNm 3) qbYes (qBin pIndex (qVar 3) (qVar 2)) [some (.int n), some (rowV r), some (.int k), none] ((way (List.range n) r).map fun l => .tup (nv l)) s = some (((way (List.range n) r).map fun l => P.int (l.idxOf k : Nat)), s) :=
    lc_all _ fun l m => ⟨_, rfl, by
      have : k ∈ l := (mem_way m).mpr (List.mem_range.mpr hk)
      simp only [Vm.bind_some', Vm.pick_t, Vm.pick_f, Pu.gq_ok, Pu.z_var, Pu.z_c, Pu.wr_ok, Pu.bq1_ok, Pu.bq2_ok, Pu.z_bin, Pu.iq1_ok, Pu.z_if, Pu.z_ifS, Pu.z_nil, Pu.cq1_ok, Pu.cq2_ok, Pu.z_cons, Pu.fq1_ok, Pu.z_fn, Pu.z_tup, Pu.z_lst, Pu.tupQ_0, Pu.tupQ_1, Pu.tupQ_2, Pu.tupQ_3, Pu.lstQ_0, Pu.lstQ_1, Pu.lstQ_2, Pu.lstQ_3, Pu.lstQ_4, Pu.lstQ_5, Pu.lstQ_6, Pu.bq_ok, Pu.z_b, Pu.blQ_ok, Pu.z_bV, Pu.tq1_ok, Pu.tq2_ok, Pu.z_bT, Pu.aq1_ok, Pu.z_bAnd, Pu.oq1_ok, Pu.z_bOr, Pu.nq1_ok, Pu.z_bNot, Pu.z_yes, Pu.vq1_ok, Pu.vq2_ok, Pu.z_and, Pu.uq1_ok, Pu.uq2_ok, Pu.z_or, Pu.xq1_ok, Pu.xq2_ok, Pu.z_not, Pu.ngQ_ok, Pu.z_neg, Pu.kq3_ok, Pu.kq2_ok, Pu.kq1_ok, Pu.z_chain, Pu.z_oNone, Pu.osQ_ok, Pu.z_oSome, Pu.sq1_ok, Pu.sq2_ok, Pu.sq3_ok, Pu.z_slice, Pu.z_slT, Pu.z_slL, Pu.rvQ_ok, Pu.z_revT, Pu.r1Q_ok, Pu.z_rg1, Pu.z_tupR, Pu.z_lstR, Pu.lq1_ok, Pu.lq2_ok, Pu.lq3_ok, Pu.z_callL, Pu.nq_ok, Pu.z_fnK, Pu.qs_nx, Pu.qs_rt, Pu.qs_bk, Pu.qs_ct, Pu.qs_pick, Pu.z_seq, Pu.z_next, Pu.z_bk, Pu.z_ct, Pu.eq1_ok, Pu.z_expr, Pu.rq1_ok, Pu.z_ret, Pu.z_retN, Pu.gq1_ok, Pu.gq2_ok, Pu.z_asg, Pu.z_nm, Pu.z_gt, Pu.z_gw, Pu.z_gn, Pu.gcq_ok, Pu.z_gc, Pu.sbI_ok, Pu.sbJ_ok, Pu.sbO_ok, Pu.z_sub, Pu.puI_ok, Pu.z_put, Pu.apI_ok, Pu.z_append, Pu.pq1_ok, Pu.pq2_ok, Pu.z_par, Pu.p3q1_ok, Pu.p3q2_ok, Pu.p3q3_ok, Pu.z_par3, Pu.wq_ok, Pu.iqS_ok, Pu.it_tup, Pu.it_lst, Pu.it_rl, Pu.z_iSeq, Pu.z_iRng1, Pu.enQ_tup, Pu.enQ_lst, Pu.z_iEnum, Pu.zq1_ok, Pu.zq2_ok, Pu.z_iZip, Pu.foq_ok, Pu.z_for, Pu.for_nil, Pu.toq_nx, Pu.toq_ct, Pu.toq_bk, Pu.toq_rt, Pu.toq_pick, Pu.tgq_ok, Pu.lcq_ok, Pu.z_lc, Pu.lc_nil, Pu.wp_nil', Pu.wp_cons', Pu.z_body', Pu.finP_nx, Pu.finP_rt, Pu.finP_pick, Pu.y_add, Pu.y_sub, Pu.y_lt, Pu.y_le, Pu.y_gt, Pu.y_ge, Pu.y_eqI, Pu.y_eqS, Pu.y_neI, Pu.y_neS, Pu.y_lenT, Pu.y_lenL, Pu.y_lenR, Pu.y_int, Pu.y_intB, Pu.y_tupT, Pu.y_tupL, Pu.y_lstT, Pu.y_lstL, Pu.y_isii, Pu.y_isib, Pu.y_isss, Pu.y_istt, Pu.y_ixT, Pu.y_ixW, Pu.y_ixL, Pu.at_0, Pu.at_1, Pu.at_2, Pu.tp_non, Pu.tp_bl, Pu.tp_int, Pu.tp_tup, Pu.tp_lst, List.getElem?_cons_zero, List.getElem?_cons_succ, List.set_cons_zero, List.set_cons_succ, List.map_cons, List.map_nil, List.replicate_zero, List.replicate_succ, List.cons_append, List.nil_append, List.append_nil, List.length_cons, List.length_nil, Nat.sub_self, Bool.not_true, Bool.not_false, decide_true, decide_false, Nat.zero_add, Nat.add_one_sub_one, eq_self, y_index this]⟩
  have sz : ((way (List.range n) r).map fun l => P.tup (nv l)).length ≤ 1000000 := by rw [List.length_map, way_len]; have := hr.1; omega
  unfold p_way_of q_way_of
  simp only [Vm.bind_some', Vm.pick_t, Vm.pick_f, Pu.gq_ok, Pu.z_var, Pu.z_c, Pu.wr_ok, Pu.bq1_ok, Pu.bq2_ok, Pu.z_bin, Pu.iq1_ok, Pu.z_if, Pu.z_ifS, Pu.z_nil, Pu.cq1_ok, Pu.cq2_ok, Pu.z_cons, Pu.fq1_ok, Pu.z_fn, Pu.z_tup, Pu.z_lst, Pu.tupQ_0, Pu.tupQ_1, Pu.tupQ_2, Pu.tupQ_3, Pu.lstQ_0, Pu.lstQ_1, Pu.lstQ_2, Pu.lstQ_3, Pu.lstQ_4, Pu.lstQ_5, Pu.lstQ_6, Pu.bq_ok, Pu.z_b, Pu.blQ_ok, Pu.z_bV, Pu.tq1_ok, Pu.tq2_ok, Pu.z_bT, Pu.aq1_ok, Pu.z_bAnd, Pu.oq1_ok, Pu.z_bOr, Pu.nq1_ok, Pu.z_bNot, Pu.z_yes, Pu.vq1_ok, Pu.vq2_ok, Pu.z_and, Pu.uq1_ok, Pu.uq2_ok, Pu.z_or, Pu.xq1_ok, Pu.xq2_ok, Pu.z_not, Pu.ngQ_ok, Pu.z_neg, Pu.kq3_ok, Pu.kq2_ok, Pu.kq1_ok, Pu.z_chain, Pu.z_oNone, Pu.osQ_ok, Pu.z_oSome, Pu.sq1_ok, Pu.sq2_ok, Pu.sq3_ok, Pu.z_slice, Pu.z_slT, Pu.z_slL, Pu.rvQ_ok, Pu.z_revT, Pu.r1Q_ok, Pu.z_rg1, Pu.z_tupR, Pu.z_lstR, Pu.lq1_ok, Pu.lq2_ok, Pu.lq3_ok, Pu.z_callL, Pu.nq_ok, Pu.z_fnK, Pu.qs_nx, Pu.qs_rt, Pu.qs_bk, Pu.qs_ct, Pu.qs_pick, Pu.z_seq, Pu.z_next, Pu.z_bk, Pu.z_ct, Pu.eq1_ok, Pu.z_expr, Pu.rq1_ok, Pu.z_ret, Pu.z_retN, Pu.gq1_ok, Pu.gq2_ok, Pu.z_asg, Pu.z_nm, Pu.z_gt, Pu.z_gw, Pu.z_gn, Pu.gcq_ok, Pu.z_gc, Pu.sbI_ok, Pu.sbJ_ok, Pu.sbO_ok, Pu.z_sub, Pu.puI_ok, Pu.z_put, Pu.apI_ok, Pu.z_append, Pu.pq1_ok, Pu.pq2_ok, Pu.z_par, Pu.p3q1_ok, Pu.p3q2_ok, Pu.p3q3_ok, Pu.z_par3, Pu.wq_ok, Pu.iqS_ok, Pu.it_tup, Pu.it_lst, Pu.it_rl, Pu.z_iSeq, Pu.z_iRng1, Pu.enQ_tup, Pu.enQ_lst, Pu.z_iEnum, Pu.zq1_ok, Pu.zq2_ok, Pu.z_iZip, Pu.foq_ok, Pu.z_for, Pu.for_nil, Pu.toq_nx, Pu.toq_ct, Pu.toq_bk, Pu.toq_rt, Pu.toq_pick, Pu.tgq_ok, Pu.lcq_ok, Pu.z_lc, Pu.lc_nil, Pu.wp_nil', Pu.wp_cons', Pu.z_body', Pu.finP_nx, Pu.finP_rt, Pu.finP_pick, Pu.y_add, Pu.y_sub, Pu.y_lt, Pu.y_le, Pu.y_gt, Pu.y_ge, Pu.y_eqI, Pu.y_eqS, Pu.y_neI, Pu.y_neS, Pu.y_lenT, Pu.y_lenL, Pu.y_lenR, Pu.y_int, Pu.y_intB, Pu.y_tupT, Pu.y_tupL, Pu.y_lstT, Pu.y_lstL, Pu.y_isii, Pu.y_isib, Pu.y_isss, Pu.y_istt, Pu.y_ixT, Pu.y_ixW, Pu.y_ixL, Pu.at_0, Pu.at_1, Pu.at_2, Pu.tp_non, Pu.tp_bl, Pu.tp_int, Pu.tp_tup, Pu.tp_lst, List.getElem?_cons_zero, List.getElem?_cons_succ, List.set_cons_zero, List.set_cons_succ, List.map_cons, List.map_nil, List.replicate_zero, List.replicate_succ, List.cons_append, List.nil_append, List.append_nil, List.length_cons, List.length_nil, Nat.sub_self, Bool.not_true, Bool.not_false, decide_true, decide_false, Nat.zero_add, Nat.add_one_sub_one, eq_self, w_need h1 h2 hr, w_need_cord hk, w_range (show n ≤ 1000 by omega), w_wy h2 hr]
  unfold wysV
  simp only [Vm.bind_some', Vm.pick_t, Vm.pick_f, Pu.gq_ok, Pu.z_var, Pu.z_c, Pu.wr_ok, Pu.bq1_ok, Pu.bq2_ok, Pu.z_bin, Pu.iq1_ok, Pu.z_if, Pu.z_ifS, Pu.z_nil, Pu.cq1_ok, Pu.cq2_ok, Pu.z_cons, Pu.fq1_ok, Pu.z_fn, Pu.z_tup, Pu.z_lst, Pu.tupQ_0, Pu.tupQ_1, Pu.tupQ_2, Pu.tupQ_3, Pu.lstQ_0, Pu.lstQ_1, Pu.lstQ_2, Pu.lstQ_3, Pu.lstQ_4, Pu.lstQ_5, Pu.lstQ_6, Pu.bq_ok, Pu.z_b, Pu.blQ_ok, Pu.z_bV, Pu.tq1_ok, Pu.tq2_ok, Pu.z_bT, Pu.aq1_ok, Pu.z_bAnd, Pu.oq1_ok, Pu.z_bOr, Pu.nq1_ok, Pu.z_bNot, Pu.z_yes, Pu.vq1_ok, Pu.vq2_ok, Pu.z_and, Pu.uq1_ok, Pu.uq2_ok, Pu.z_or, Pu.xq1_ok, Pu.xq2_ok, Pu.z_not, Pu.ngQ_ok, Pu.z_neg, Pu.kq3_ok, Pu.kq2_ok, Pu.kq1_ok, Pu.z_chain, Pu.z_oNone, Pu.osQ_ok, Pu.z_oSome, Pu.sq1_ok, Pu.sq2_ok, Pu.sq3_ok, Pu.z_slice, Pu.z_slT, Pu.z_slL, Pu.rvQ_ok, Pu.z_revT, Pu.r1Q_ok, Pu.z_rg1, Pu.z_tupR, Pu.z_lstR, Pu.lq1_ok, Pu.lq2_ok, Pu.lq3_ok, Pu.z_callL, Pu.nq_ok, Pu.z_fnK, Pu.qs_nx, Pu.qs_rt, Pu.qs_bk, Pu.qs_ct, Pu.qs_pick, Pu.z_seq, Pu.z_next, Pu.z_bk, Pu.z_ct, Pu.eq1_ok, Pu.z_expr, Pu.rq1_ok, Pu.z_ret, Pu.z_retN, Pu.gq1_ok, Pu.gq2_ok, Pu.z_asg, Pu.z_nm, Pu.z_gt, Pu.z_gw, Pu.z_gn, Pu.gcq_ok, Pu.z_gc, Pu.sbI_ok, Pu.sbJ_ok, Pu.sbO_ok, Pu.z_sub, Pu.puI_ok, Pu.z_put, Pu.apI_ok, Pu.z_append, Pu.pq1_ok, Pu.pq2_ok, Pu.z_par, Pu.p3q1_ok, Pu.p3q2_ok, Pu.p3q3_ok, Pu.z_par3, Pu.wq_ok, Pu.iqS_ok, Pu.it_tup, Pu.it_lst, Pu.it_rl, Pu.z_iSeq, Pu.z_iRng1, Pu.enQ_tup, Pu.enQ_lst, Pu.z_iEnum, Pu.zq1_ok, Pu.zq2_ok, Pu.z_iZip, Pu.foq_ok, Pu.z_for, Pu.for_nil, Pu.toq_nx, Pu.toq_ct, Pu.toq_bk, Pu.toq_rt, Pu.toq_pick, Pu.tgq_ok, Pu.lcq_ok, Pu.z_lc, Pu.lc_nil, Pu.wp_nil', Pu.wp_cons', Pu.z_body', Pu.finP_nx, Pu.finP_rt, Pu.finP_pick, Pu.y_add, Pu.y_sub, Pu.y_lt, Pu.y_le, Pu.y_gt, Pu.y_ge, Pu.y_eqI, Pu.y_eqS, Pu.y_neI, Pu.y_neS, Pu.y_lenT, Pu.y_lenL, Pu.y_lenR, Pu.y_int, Pu.y_intB, Pu.y_tupT, Pu.y_tupL, Pu.y_lstT, Pu.y_lstL, Pu.y_isii, Pu.y_isib, Pu.y_isss, Pu.y_istt, Pu.y_ixT, Pu.y_ixW, Pu.y_ixL, Pu.at_0, Pu.at_1, Pu.at_2, Pu.tp_non, Pu.tp_bl, Pu.tp_int, Pu.tp_tup, Pu.tp_lst, List.getElem?_cons_zero, List.getElem?_cons_succ, List.set_cons_zero, List.set_cons_succ, List.map_cons, List.map_nil, List.replicate_zero, List.replicate_succ, List.cons_append, List.nil_append, List.append_nil, List.length_cons, List.length_nil, Nat.sub_self, Bool.not_true, Bool.not_false, decide_true, decide_false, Nat.zero_add, Nat.add_one_sub_one, eq_self, lc, lcJ_ok sz]
  simp [wofV, wayOf, nv]
end
end K01
namespace K01
open PySem PySem.Spec PyProof.Rows L2 Vm Pu Rw
section
variable {s : S} {n : Nat} {r : List (Bool × Nat)}
theorem getD_eq {l : List Nat} {p : Nat} (h : p < l.length) : l.getD p 0 = l[p] := by simp [List.getD, List.getElem?_eq_getElem h]
def pairsV (l : List Nat) (r : List (Bool × Nat)) : List P := zipQ ((way l r).map fun l => .tup (nv l)) (r.map crV)
theorem pairsV_cons (l : List Nat) (c : Bool × Nat) (r : List (Bool × Nat)) : pairsV l (c :: r) = .wt [.tup (nv l), crV c] :: pairsV (swp l c.2) r := rfl
def metV (n : Nat) (r : List (Bool × Nat)) : P := .tup ((mts (List.range n) r).map mtV)
theorem w_meetings (h2 : n ≤ 5) (hr : Ok n r) : p_meetings [.int n, rowV r] s = some (metV n r, s) := by
  have lp : ∀ (r : List (Bool × Nat)) (l : List Nat) (acc : List P) (a b e3 e4 e5 e6 e7 e8 : Option P), (∀ c ∈ r, c.2 + 1 < l.length) → acc.length + r.length < 100000 →
      ∃ f3 f4 f5 f6 f7 f8, forP (qGT (qGC (qNm 3) (qGC (qNm 4) qGN))) (qSeq (qAsg (qVar 4) (qGT (qGC (qNm 5) (qGC (qNm 6) qGN)))) (qSeq (qPar 7 8 (qBin pIx (qVar 3) (qVar 6)) (qBin pIx (qVar 3) (qBin pAdd (qVar 6) (qC (.int 1))))) (qSeq (qIfS (qbV (qBin pEq (qVar 5) (qC (.str "left")))) (qSeq (qAppend 2 (qTup (qCons (qVar 7) (qCons (qVar 8) (qCons (qVar 5) qNil))))) qNext) (qSeq (qAppend 2 (qTup (qCons (qVar 8) (qCons (qVar 7) (qCons (qVar 5) qNil))))) qNext)) qNext))) (pairsV l r) [a, b, some (.lst acc), e3, e4, e5, e6, e7, e8] s
        = some (.nx [a, b, some (.lst (acc ++ (mts l r).map mtV)), f3, f4, f5, f6, f7, f8] s) := by
    intro r
    induction r with
    | nil => intro l acc a b e3 e4 e5 e6 e7 e8 _ _; exact ⟨e3, e4, e5, e6, e7, e8, by rw [mts, List.map_nil, List.append_nil]; unfold pairsV; cases (way l []) <;> rfl⟩
    | cons c r ih =>
      intro l acc a b e3 e4 e5 e6 e7 e8 hc hl
      simp only [List.length_cons] at hl
      have h1 := hc c (by simp)
      obtain ⟨d, p⟩ := c
      simp only at h1
      have ga := at_nv (show p < l.length by omega)
      have gb := at_nv1 h1
      obtain ⟨f3, f4, f5, f6, f7, f8, e⟩ := ih (swp l p) (acc ++ [mtV (mt l (d, p))]) a b (some (.tup (nv l))) (some (crV (d, p))) (some (.str (sd d))) (some (.int (p : Int))) (some (.int (l[p] : Nat))) (some (.int (l[p + 1] : Nat))) (fun x m => by rw [swp_len]; exact hc x (by simp [m])) (by simp; omega)
      refine ⟨f3, f4, f5, f6, f7, f8, ?_⟩
      rw [pairsV_cons, for_cons]
      have ap : ∀ (x : P) (E3 E4 E5 E6 E7 E8 : Option P), apO 2 x [a, b, some (.lst acc), E3, E4, E5, E6, E7, E8] s (some (some (.lst acc))) = some (.nx [a, b, some (.lst (acc ++ [x])), E3, E4, E5, E6, E7, E8] s) := fun x E3 E4 E5 E6 E7 E8 => apO_ok (by omega)
      cases d with
      | true =>
        have em : mtV (mt l (true, p)) = .tup [.int (l[p] : Nat), .int (l[p + 1] : Nat), .str (sd true)] := by
          simp only [Rw.mt, mtV, if_true, getD_eq (show p < l.length by omega), getD_eq h1]
        have cr : crV (true, p) = .tup [.str (sd true), .int (p : Int)] := rfl
        rw [em, cr] at e
        rw [cr]
        simp only [Vm.bind_some', Vm.pick_t, Vm.pick_f, Pu.gq_ok, Pu.z_var, Pu.z_c, Pu.wr_ok, Pu.bq1_ok, Pu.bq2_ok, Pu.z_bin, Pu.iq1_ok, Pu.z_if, Pu.z_ifS, Pu.z_nil, Pu.cq1_ok, Pu.cq2_ok, Pu.z_cons, Pu.fq1_ok, Pu.z_fn, Pu.z_tup, Pu.z_lst, Pu.tupQ_0, Pu.tupQ_1, Pu.tupQ_2, Pu.tupQ_3, Pu.lstQ_0, Pu.lstQ_1, Pu.lstQ_2, Pu.lstQ_3, Pu.lstQ_4, Pu.lstQ_5, Pu.lstQ_6, Pu.bq_ok, Pu.z_b, Pu.blQ_ok, Pu.z_bV, Pu.tq1_ok, Pu.tq2_ok, Pu.z_bT, Pu.aq1_ok, Pu.z_bAnd, Pu.oq1_ok, Pu.z_bOr, Pu.nq1_ok, Pu.z_bNot, Pu.z_yes, Pu.vq1_ok, Pu.vq2_ok, Pu.z_and, Pu.uq1_ok, Pu.uq2_ok, Pu.z_or, Pu.xq1_ok, Pu.xq2_ok, Pu.z_not, Pu.ngQ_ok, Pu.z_neg, Pu.kq3_ok, Pu.kq2_ok, Pu.kq1_ok, Pu.z_chain, Pu.z_oNone, Pu.osQ_ok, Pu.z_oSome, Pu.sq1_ok, Pu.sq2_ok, Pu.sq3_ok, Pu.z_slice, Pu.z_slT, Pu.z_slL, Pu.rvQ_ok, Pu.z_revT, Pu.r1Q_ok, Pu.z_rg1, Pu.z_tupR, Pu.z_lstR, Pu.lq1_ok, Pu.lq2_ok, Pu.lq3_ok, Pu.z_callL, Pu.nq_ok, Pu.z_fnK, Pu.qs_nx, Pu.qs_rt, Pu.qs_bk, Pu.qs_ct, Pu.qs_pick, Pu.z_seq, Pu.z_next, Pu.z_bk, Pu.z_ct, Pu.eq1_ok, Pu.z_expr, Pu.rq1_ok, Pu.z_ret, Pu.z_retN, Pu.gq1_ok, Pu.gq2_ok, Pu.z_asg, Pu.z_nm, Pu.z_gt, Pu.z_gw, Pu.z_gn, Pu.gcq_ok, Pu.z_gc, Pu.sbI_ok, Pu.sbJ_ok, Pu.sbO_ok, Pu.z_sub, Pu.puI_ok, Pu.z_put, Pu.apI_ok, Pu.z_append, Pu.pq1_ok, Pu.pq2_ok, Pu.z_par, Pu.p3q1_ok, Pu.p3q2_ok, Pu.p3q3_ok, Pu.z_par3, Pu.wq_ok, Pu.iqS_ok, Pu.it_tup, Pu.it_lst, Pu.it_rl, Pu.z_iSeq, Pu.z_iRng1, Pu.enQ_tup, Pu.enQ_lst, Pu.z_iEnum, Pu.zq1_ok, Pu.zq2_ok, Pu.z_iZip, Pu.foq_ok, Pu.z_for, Pu.for_nil, Pu.toq_nx, Pu.toq_ct, Pu.toq_bk, Pu.toq_rt, Pu.toq_pick, Pu.tgq_ok, Pu.lcq_ok, Pu.z_lc, Pu.lc_nil, Pu.wp_nil', Pu.wp_cons', Pu.z_body', Pu.finP_nx, Pu.finP_rt, Pu.finP_pick, Pu.y_add, Pu.y_sub, Pu.y_lt, Pu.y_le, Pu.y_gt, Pu.y_ge, Pu.y_eqI, Pu.y_eqS, Pu.y_neI, Pu.y_neS, Pu.y_lenT, Pu.y_lenL, Pu.y_lenR, Pu.y_int, Pu.y_intB, Pu.y_tupT, Pu.y_tupL, Pu.y_lstT, Pu.y_lstL, Pu.y_isii, Pu.y_isib, Pu.y_isss, Pu.y_istt, Pu.y_ixT, Pu.y_ixW, Pu.y_ixL, Pu.at_0, Pu.at_1, Pu.at_2, Pu.tp_non, Pu.tp_bl, Pu.tp_int, Pu.tp_tup, Pu.tp_lst, List.getElem?_cons_zero, List.getElem?_cons_succ, List.set_cons_zero, List.set_cons_succ, List.map_cons, List.map_nil, List.replicate_zero, List.replicate_succ, List.cons_append, List.nil_append, List.append_nil, List.length_cons, List.length_nil, Nat.sub_self, Bool.not_true, Bool.not_false, decide_true, decide_false, Nat.zero_add, Nat.add_one_sub_one, eq_self, ga, gb, sd_left, ap, e]
        simp [mts, em]
      | false =>
        have em : mtV (mt l (false, p)) = .tup [.int (l[p + 1] : Nat), .int (l[p] : Nat), .str (sd false)] := by
          simp only [Rw.mt, mtV, Bool.false_eq_true, if_false, getD_eq (show p < l.length by omega), getD_eq h1]
        have cr : crV (false, p) = .tup [.str (sd false), .int (p : Int)] := rfl
        rw [em, cr] at e
        rw [cr]
        simp only [Vm.bind_some', Vm.pick_t, Vm.pick_f, Pu.gq_ok, Pu.z_var, Pu.z_c, Pu.wr_ok, Pu.bq1_ok, Pu.bq2_ok, Pu.z_bin, Pu.iq1_ok, Pu.z_if, Pu.z_ifS, Pu.z_nil, Pu.cq1_ok, Pu.cq2_ok, Pu.z_cons, Pu.fq1_ok, Pu.z_fn, Pu.z_tup, Pu.z_lst, Pu.tupQ_0, Pu.tupQ_1, Pu.tupQ_2, Pu.tupQ_3, Pu.lstQ_0, Pu.lstQ_1, Pu.lstQ_2, Pu.lstQ_3, Pu.lstQ_4, Pu.lstQ_5, Pu.lstQ_6, Pu.bq_ok, Pu.z_b, Pu.blQ_ok, Pu.z_bV, Pu.tq1_ok, Pu.tq2_ok, Pu.z_bT, Pu.aq1_ok, Pu.z_bAnd, Pu.oq1_ok, Pu.z_bOr, Pu.nq1_ok, Pu.z_bNot, Pu.z_yes, Pu.vq1_ok, Pu.vq2_ok, Pu.z_and, Pu.uq1_ok, Pu.uq2_ok, Pu.z_or, Pu.xq1_ok, Pu.xq2_ok, Pu.z_not, Pu.ngQ_ok, Pu.z_neg, Pu.kq3_ok, Pu.kq2_ok, Pu.kq1_ok, Pu.z_chain, Pu.z_oNone, Pu.osQ_ok, Pu.z_oSome, Pu.sq1_ok, Pu.sq2_ok, Pu.sq3_ok, Pu.z_slice, Pu.z_slT, Pu.z_slL, Pu.rvQ_ok, Pu.z_revT, Pu.r1Q_ok, Pu.z_rg1, Pu.z_tupR, Pu.z_lstR, Pu.lq1_ok, Pu.lq2_ok, Pu.lq3_ok, Pu.z_callL, Pu.nq_ok, Pu.z_fnK, Pu.qs_nx, Pu.qs_rt, Pu.qs_bk, Pu.qs_ct, Pu.qs_pick, Pu.z_seq, Pu.z_next, Pu.z_bk, Pu.z_ct, Pu.eq1_ok, Pu.z_expr, Pu.rq1_ok, Pu.z_ret, Pu.z_retN, Pu.gq1_ok, Pu.gq2_ok, Pu.z_asg, Pu.z_nm, Pu.z_gt, Pu.z_gw, Pu.z_gn, Pu.gcq_ok, Pu.z_gc, Pu.sbI_ok, Pu.sbJ_ok, Pu.sbO_ok, Pu.z_sub, Pu.puI_ok, Pu.z_put, Pu.apI_ok, Pu.z_append, Pu.pq1_ok, Pu.pq2_ok, Pu.z_par, Pu.p3q1_ok, Pu.p3q2_ok, Pu.p3q3_ok, Pu.z_par3, Pu.wq_ok, Pu.iqS_ok, Pu.it_tup, Pu.it_lst, Pu.it_rl, Pu.z_iSeq, Pu.z_iRng1, Pu.enQ_tup, Pu.enQ_lst, Pu.z_iEnum, Pu.zq1_ok, Pu.zq2_ok, Pu.z_iZip, Pu.foq_ok, Pu.z_for, Pu.for_nil, Pu.toq_nx, Pu.toq_ct, Pu.toq_bk, Pu.toq_rt, Pu.toq_pick, Pu.tgq_ok, Pu.lcq_ok, Pu.z_lc, Pu.lc_nil, Pu.wp_nil', Pu.wp_cons', Pu.z_body', Pu.finP_nx, Pu.finP_rt, Pu.finP_pick, Pu.y_add, Pu.y_sub, Pu.y_lt, Pu.y_le, Pu.y_gt, Pu.y_ge, Pu.y_eqI, Pu.y_eqS, Pu.y_neI, Pu.y_neS, Pu.y_lenT, Pu.y_lenL, Pu.y_lenR, Pu.y_int, Pu.y_intB, Pu.y_tupT, Pu.y_tupL, Pu.y_lstT, Pu.y_lstL, Pu.y_isii, Pu.y_isib, Pu.y_isss, Pu.y_istt, Pu.y_ixT, Pu.y_ixW, Pu.y_ixL, Pu.at_0, Pu.at_1, Pu.at_2, Pu.tp_non, Pu.tp_bl, Pu.tp_int, Pu.tp_tup, Pu.tp_lst, List.getElem?_cons_zero, List.getElem?_cons_succ, List.set_cons_zero, List.set_cons_succ, List.map_cons, List.map_nil, List.replicate_zero, List.replicate_succ, List.cons_append, List.nil_append, List.append_nil, List.length_cons, List.length_nil, Nat.sub_self, Bool.not_true, Bool.not_false, decide_true, decide_false, Nat.zero_add, Nat.add_one_sub_one, eq_self, ga, gb, sd_left, ap, e]
        simp [mts, em]
  obtain ⟨f3, f4, f5, f6, f7, f8, e⟩ := lp r (List.range n) [] (some (.int n)) (some (rowV r)) none none none none none none (by rw [List.length_range]; exact hr.2) (by have := hr.1; simp; omega)
  rw [List.nil_append] at e
  unfold p_meetings q_meetings
  unfold pairsV at e
  simp only [Vm.bind_some', Vm.pick_t, Vm.pick_f, Pu.gq_ok, Pu.z_var, Pu.z_c, Pu.wr_ok, Pu.bq1_ok, Pu.bq2_ok, Pu.z_bin, Pu.iq1_ok, Pu.z_if, Pu.z_ifS, Pu.z_nil, Pu.cq1_ok, Pu.cq2_ok, Pu.z_cons, Pu.fq1_ok, Pu.z_fn, Pu.z_tup, Pu.z_lst, Pu.tupQ_0, Pu.tupQ_1, Pu.tupQ_2, Pu.tupQ_3, Pu.lstQ_0, Pu.lstQ_1, Pu.lstQ_2, Pu.lstQ_3, Pu.lstQ_4, Pu.lstQ_5, Pu.lstQ_6, Pu.bq_ok, Pu.z_b, Pu.blQ_ok, Pu.z_bV, Pu.tq1_ok, Pu.tq2_ok, Pu.z_bT, Pu.aq1_ok, Pu.z_bAnd, Pu.oq1_ok, Pu.z_bOr, Pu.nq1_ok, Pu.z_bNot, Pu.z_yes, Pu.vq1_ok, Pu.vq2_ok, Pu.z_and, Pu.uq1_ok, Pu.uq2_ok, Pu.z_or, Pu.xq1_ok, Pu.xq2_ok, Pu.z_not, Pu.ngQ_ok, Pu.z_neg, Pu.kq3_ok, Pu.kq2_ok, Pu.kq1_ok, Pu.z_chain, Pu.z_oNone, Pu.osQ_ok, Pu.z_oSome, Pu.sq1_ok, Pu.sq2_ok, Pu.sq3_ok, Pu.z_slice, Pu.z_slT, Pu.z_slL, Pu.rvQ_ok, Pu.z_revT, Pu.r1Q_ok, Pu.z_rg1, Pu.z_tupR, Pu.z_lstR, Pu.lq1_ok, Pu.lq2_ok, Pu.lq3_ok, Pu.z_callL, Pu.nq_ok, Pu.z_fnK, Pu.qs_nx, Pu.qs_rt, Pu.qs_bk, Pu.qs_ct, Pu.qs_pick, Pu.z_seq, Pu.z_next, Pu.z_bk, Pu.z_ct, Pu.eq1_ok, Pu.z_expr, Pu.rq1_ok, Pu.z_ret, Pu.z_retN, Pu.gq1_ok, Pu.gq2_ok, Pu.z_asg, Pu.z_nm, Pu.z_gt, Pu.z_gw, Pu.z_gn, Pu.gcq_ok, Pu.z_gc, Pu.sbI_ok, Pu.sbJ_ok, Pu.sbO_ok, Pu.z_sub, Pu.puI_ok, Pu.z_put, Pu.apI_ok, Pu.z_append, Pu.pq1_ok, Pu.pq2_ok, Pu.z_par, Pu.p3q1_ok, Pu.p3q2_ok, Pu.p3q3_ok, Pu.z_par3, Pu.wq_ok, Pu.iqS_ok, Pu.it_tup, Pu.it_lst, Pu.it_rl, Pu.z_iSeq, Pu.z_iRng1, Pu.enQ_tup, Pu.enQ_lst, Pu.z_iEnum, Pu.zq1_ok, Pu.zq2_ok, Pu.z_iZip, Pu.foq_ok, Pu.z_for, Pu.for_nil, Pu.toq_nx, Pu.toq_ct, Pu.toq_bk, Pu.toq_rt, Pu.toq_pick, Pu.tgq_ok, Pu.lcq_ok, Pu.z_lc, Pu.lc_nil, Pu.wp_nil', Pu.wp_cons', Pu.z_body', Pu.finP_nx, Pu.finP_rt, Pu.finP_pick, Pu.y_add, Pu.y_sub, Pu.y_lt, Pu.y_le, Pu.y_gt, Pu.y_ge, Pu.y_eqI, Pu.y_eqS, Pu.y_neI, Pu.y_neS, Pu.y_lenT, Pu.y_lenL, Pu.y_lenR, Pu.y_int, Pu.y_intB, Pu.y_tupT, Pu.y_tupL, Pu.y_lstT, Pu.y_lstL, Pu.y_isii, Pu.y_isib, Pu.y_isss, Pu.y_istt, Pu.y_ixT, Pu.y_ixW, Pu.y_ixL, Pu.at_0, Pu.at_1, Pu.at_2, Pu.tp_non, Pu.tp_bl, Pu.tp_int, Pu.tp_tup, Pu.tp_lst, List.getElem?_cons_zero, List.getElem?_cons_succ, List.set_cons_zero, List.set_cons_succ, List.map_cons, List.map_nil, List.replicate_zero, List.replicate_succ, List.cons_append, List.nil_append, List.append_nil, List.length_cons, List.length_nil, Nat.sub_self, Bool.not_true, Bool.not_false, decide_true, decide_false, Nat.zero_add, Nat.add_one_sub_one, eq_self, w_range (show n ≤ 1000 by omega), w_wy h2 hr]
  unfold wysV rowV at *
  simp only [Vm.bind_some', Vm.pick_t, Vm.pick_f, Pu.gq_ok, Pu.z_var, Pu.z_c, Pu.wr_ok, Pu.bq1_ok, Pu.bq2_ok, Pu.z_bin, Pu.iq1_ok, Pu.z_if, Pu.z_ifS, Pu.z_nil, Pu.cq1_ok, Pu.cq2_ok, Pu.z_cons, Pu.fq1_ok, Pu.z_fn, Pu.z_tup, Pu.z_lst, Pu.tupQ_0, Pu.tupQ_1, Pu.tupQ_2, Pu.tupQ_3, Pu.lstQ_0, Pu.lstQ_1, Pu.lstQ_2, Pu.lstQ_3, Pu.lstQ_4, Pu.lstQ_5, Pu.lstQ_6, Pu.bq_ok, Pu.z_b, Pu.blQ_ok, Pu.z_bV, Pu.tq1_ok, Pu.tq2_ok, Pu.z_bT, Pu.aq1_ok, Pu.z_bAnd, Pu.oq1_ok, Pu.z_bOr, Pu.nq1_ok, Pu.z_bNot, Pu.z_yes, Pu.vq1_ok, Pu.vq2_ok, Pu.z_and, Pu.uq1_ok, Pu.uq2_ok, Pu.z_or, Pu.xq1_ok, Pu.xq2_ok, Pu.z_not, Pu.ngQ_ok, Pu.z_neg, Pu.kq3_ok, Pu.kq2_ok, Pu.kq1_ok, Pu.z_chain, Pu.z_oNone, Pu.osQ_ok, Pu.z_oSome, Pu.sq1_ok, Pu.sq2_ok, Pu.sq3_ok, Pu.z_slice, Pu.z_slT, Pu.z_slL, Pu.rvQ_ok, Pu.z_revT, Pu.r1Q_ok, Pu.z_rg1, Pu.z_tupR, Pu.z_lstR, Pu.lq1_ok, Pu.lq2_ok, Pu.lq3_ok, Pu.z_callL, Pu.nq_ok, Pu.z_fnK, Pu.qs_nx, Pu.qs_rt, Pu.qs_bk, Pu.qs_ct, Pu.qs_pick, Pu.z_seq, Pu.z_next, Pu.z_bk, Pu.z_ct, Pu.eq1_ok, Pu.z_expr, Pu.rq1_ok, Pu.z_ret, Pu.z_retN, Pu.gq1_ok, Pu.gq2_ok, Pu.z_asg, Pu.z_nm, Pu.z_gt, Pu.z_gw, Pu.z_gn, Pu.gcq_ok, Pu.z_gc, Pu.sbI_ok, Pu.sbJ_ok, Pu.sbO_ok, Pu.z_sub, Pu.puI_ok, Pu.z_put, Pu.apI_ok, Pu.z_append, Pu.pq1_ok, Pu.pq2_ok, Pu.z_par, Pu.p3q1_ok, Pu.p3q2_ok, Pu.p3q3_ok, Pu.z_par3, Pu.wq_ok, Pu.iqS_ok, Pu.it_tup, Pu.it_lst, Pu.it_rl, Pu.z_iSeq, Pu.z_iRng1, Pu.enQ_tup, Pu.enQ_lst, Pu.z_iEnum, Pu.zq1_ok, Pu.zq2_ok, Pu.z_iZip, Pu.foq_ok, Pu.z_for, Pu.for_nil, Pu.toq_nx, Pu.toq_ct, Pu.toq_bk, Pu.toq_rt, Pu.toq_pick, Pu.tgq_ok, Pu.lcq_ok, Pu.z_lc, Pu.lc_nil, Pu.wp_nil', Pu.wp_cons', Pu.z_body', Pu.finP_nx, Pu.finP_rt, Pu.finP_pick, Pu.y_add, Pu.y_sub, Pu.y_lt, Pu.y_le, Pu.y_gt, Pu.y_ge, Pu.y_eqI, Pu.y_eqS, Pu.y_neI, Pu.y_neS, Pu.y_lenT, Pu.y_lenL, Pu.y_lenR, Pu.y_int, Pu.y_intB, Pu.y_tupT, Pu.y_tupL, Pu.y_lstT, Pu.y_lstL, Pu.y_isii, Pu.y_isib, Pu.y_isss, Pu.y_istt, Pu.y_ixT, Pu.y_ixW, Pu.y_ixL, Pu.at_0, Pu.at_1, Pu.at_2, Pu.tp_non, Pu.tp_bl, Pu.tp_int, Pu.tp_tup, Pu.tp_lst, List.getElem?_cons_zero, List.getElem?_cons_succ, List.set_cons_zero, List.set_cons_succ, List.map_cons, List.map_nil, List.replicate_zero, List.replicate_succ, List.cons_append, List.nil_append, List.append_nil, List.length_cons, List.length_nil, Nat.sub_self, Bool.not_true, Bool.not_false, decide_true, decide_false, Nat.zero_add, Nat.add_one_sub_one, eq_self, e]
  rfl
theorem w_met (h1 : 2 ≤ n) (h2 : n ≤ 5) (hr : Ok n r) : p_met [.int n, rowV r] s = some (metV n r, s) := by
  unfold p_met q_met
  simp only [Vm.bind_some', Vm.pick_t, Vm.pick_f, Pu.gq_ok, Pu.z_var, Pu.z_c, Pu.wr_ok, Pu.bq1_ok, Pu.bq2_ok, Pu.z_bin, Pu.iq1_ok, Pu.z_if, Pu.z_ifS, Pu.z_nil, Pu.cq1_ok, Pu.cq2_ok, Pu.z_cons, Pu.fq1_ok, Pu.z_fn, Pu.z_tup, Pu.z_lst, Pu.tupQ_0, Pu.tupQ_1, Pu.tupQ_2, Pu.tupQ_3, Pu.lstQ_0, Pu.lstQ_1, Pu.lstQ_2, Pu.lstQ_3, Pu.lstQ_4, Pu.lstQ_5, Pu.lstQ_6, Pu.bq_ok, Pu.z_b, Pu.blQ_ok, Pu.z_bV, Pu.tq1_ok, Pu.tq2_ok, Pu.z_bT, Pu.aq1_ok, Pu.z_bAnd, Pu.oq1_ok, Pu.z_bOr, Pu.nq1_ok, Pu.z_bNot, Pu.z_yes, Pu.vq1_ok, Pu.vq2_ok, Pu.z_and, Pu.uq1_ok, Pu.uq2_ok, Pu.z_or, Pu.xq1_ok, Pu.xq2_ok, Pu.z_not, Pu.ngQ_ok, Pu.z_neg, Pu.kq3_ok, Pu.kq2_ok, Pu.kq1_ok, Pu.z_chain, Pu.z_oNone, Pu.osQ_ok, Pu.z_oSome, Pu.sq1_ok, Pu.sq2_ok, Pu.sq3_ok, Pu.z_slice, Pu.z_slT, Pu.z_slL, Pu.rvQ_ok, Pu.z_revT, Pu.r1Q_ok, Pu.z_rg1, Pu.z_tupR, Pu.z_lstR, Pu.lq1_ok, Pu.lq2_ok, Pu.lq3_ok, Pu.z_callL, Pu.nq_ok, Pu.z_fnK, Pu.qs_nx, Pu.qs_rt, Pu.qs_bk, Pu.qs_ct, Pu.qs_pick, Pu.z_seq, Pu.z_next, Pu.z_bk, Pu.z_ct, Pu.eq1_ok, Pu.z_expr, Pu.rq1_ok, Pu.z_ret, Pu.z_retN, Pu.gq1_ok, Pu.gq2_ok, Pu.z_asg, Pu.z_nm, Pu.z_gt, Pu.z_gw, Pu.z_gn, Pu.gcq_ok, Pu.z_gc, Pu.sbI_ok, Pu.sbJ_ok, Pu.sbO_ok, Pu.z_sub, Pu.puI_ok, Pu.z_put, Pu.apI_ok, Pu.z_append, Pu.pq1_ok, Pu.pq2_ok, Pu.z_par, Pu.p3q1_ok, Pu.p3q2_ok, Pu.p3q3_ok, Pu.z_par3, Pu.wq_ok, Pu.iqS_ok, Pu.it_tup, Pu.it_lst, Pu.it_rl, Pu.z_iSeq, Pu.z_iRng1, Pu.enQ_tup, Pu.enQ_lst, Pu.z_iEnum, Pu.zq1_ok, Pu.zq2_ok, Pu.z_iZip, Pu.foq_ok, Pu.z_for, Pu.for_nil, Pu.toq_nx, Pu.toq_ct, Pu.toq_bk, Pu.toq_rt, Pu.toq_pick, Pu.tgq_ok, Pu.lcq_ok, Pu.z_lc, Pu.lc_nil, Pu.wp_nil', Pu.wp_cons', Pu.z_body', Pu.finP_nx, Pu.finP_rt, Pu.finP_pick, Pu.y_add, Pu.y_sub, Pu.y_lt, Pu.y_le, Pu.y_gt, Pu.y_ge, Pu.y_eqI, Pu.y_eqS, Pu.y_neI, Pu.y_neS, Pu.y_lenT, Pu.y_lenL, Pu.y_lenR, Pu.y_int, Pu.y_intB, Pu.y_tupT, Pu.y_tupL, Pu.y_lstT, Pu.y_lstL, Pu.y_isii, Pu.y_isib, Pu.y_isss, Pu.y_istt, Pu.y_ixT, Pu.y_ixW, Pu.y_ixL, Pu.at_0, Pu.at_1, Pu.at_2, Pu.tp_non, Pu.tp_bl, Pu.tp_int, Pu.tp_tup, Pu.tp_lst, List.getElem?_cons_zero, List.getElem?_cons_succ, List.set_cons_zero, List.set_cons_succ, List.map_cons, List.map_nil, List.replicate_zero, List.replicate_succ, List.cons_append, List.nil_append, List.append_nil, List.length_cons, List.length_nil, Nat.sub_self, Bool.not_true, Bool.not_false, decide_true, decide_false, Nat.zero_add, Nat.add_one_sub_one, eq_self, w_need h1 h2 hr, w_meetings h2 hr]
theorem y_in_pair {a b x y : Nat} : pIn (.tup [.int (x : Int), .int (y : Int)]) (.tup [.tup [.int (a : Int), .int (b : Int)], .tup [.int (b : Int), .int (a : Int)]]) = some (.bl ((x == a && y == b) || (x == b && y == a))) := by
  simp [pIn, pyP, deep, SeqAt.shaped, PyData.canLay0, PyData.canLayAll0, PyData.depth, PyData.depthAll, PyData.eqv, PyData.eqvAll, beq_cast]
theorem w_crossed {a b : Nat} (h1 : 2 ≤ n) (h2 : n ≤ 5) (hr : Ok n r) (ha : a < n) (hb : b < n) (hab : a ≠ b) : p_crossed [.int n, rowV r, .int a, .int b] s = some (.int (cnt n r a b : Nat), s) := by
  have lc : lcP [5, 6, 7] (qGT (qGC (qNm 5) (qGC (qNm 6) (qGC (qNm 7) qGN)))) (qbV (qBin pIn (qTup (qCons (qVar 5) (qCons (qVar 6) qNil))) (qVar 4))) (qVar 5)
      [some (.int n), some (rowV r), some (.int a), some (.int b), some (.tup [.tup [.int a, .int b], .tup [.int b, .int a]]), none, none, none] ((mts (List.range n) r).map mtV) s = some (((mts (List.range n) r).filter (among a b)).map fun m => P.int (m.1 : Nat), s) :=
    lc_some _ fun m _ => ⟨_, rfl, by
      simp only [Vm.bind_some', Vm.pick_t, Vm.pick_f, Pu.gq_ok, Pu.z_var, Pu.z_c, Pu.wr_ok, Pu.bq1_ok, Pu.bq2_ok, Pu.z_bin, Pu.iq1_ok, Pu.z_if, Pu.z_ifS, Pu.z_nil, Pu.cq1_ok, Pu.cq2_ok, Pu.z_cons, Pu.fq1_ok, Pu.z_fn, Pu.z_tup, Pu.z_lst, Pu.tupQ_0, Pu.tupQ_1, Pu.tupQ_2, Pu.tupQ_3, Pu.lstQ_0, Pu.lstQ_1, Pu.lstQ_2, Pu.lstQ_3, Pu.lstQ_4, Pu.lstQ_5, Pu.lstQ_6, Pu.bq_ok, Pu.z_b, Pu.blQ_ok, Pu.z_bV, Pu.tq1_ok, Pu.tq2_ok, Pu.z_bT, Pu.aq1_ok, Pu.z_bAnd, Pu.oq1_ok, Pu.z_bOr, Pu.nq1_ok, Pu.z_bNot, Pu.z_yes, Pu.vq1_ok, Pu.vq2_ok, Pu.z_and, Pu.uq1_ok, Pu.uq2_ok, Pu.z_or, Pu.xq1_ok, Pu.xq2_ok, Pu.z_not, Pu.ngQ_ok, Pu.z_neg, Pu.kq3_ok, Pu.kq2_ok, Pu.kq1_ok, Pu.z_chain, Pu.z_oNone, Pu.osQ_ok, Pu.z_oSome, Pu.sq1_ok, Pu.sq2_ok, Pu.sq3_ok, Pu.z_slice, Pu.z_slT, Pu.z_slL, Pu.rvQ_ok, Pu.z_revT, Pu.r1Q_ok, Pu.z_rg1, Pu.z_tupR, Pu.z_lstR, Pu.lq1_ok, Pu.lq2_ok, Pu.lq3_ok, Pu.z_callL, Pu.nq_ok, Pu.z_fnK, Pu.qs_nx, Pu.qs_rt, Pu.qs_bk, Pu.qs_ct, Pu.qs_pick, Pu.z_seq, Pu.z_next, Pu.z_bk, Pu.z_ct, Pu.eq1_ok, Pu.z_expr, Pu.rq1_ok, Pu.z_ret, Pu.z_retN, Pu.gq1_ok, Pu.gq2_ok, Pu.z_asg, Pu.z_nm, Pu.z_gt, Pu.z_gw, Pu.z_gn, Pu.gcq_ok, Pu.z_gc, Pu.sbI_ok, Pu.sbJ_ok, Pu.sbO_ok, Pu.z_sub, Pu.puI_ok, Pu.z_put, Pu.apI_ok, Pu.z_append, Pu.pq1_ok, Pu.pq2_ok, Pu.z_par, Pu.p3q1_ok, Pu.p3q2_ok, Pu.p3q3_ok, Pu.z_par3, Pu.wq_ok, Pu.iqS_ok, Pu.it_tup, Pu.it_lst, Pu.it_rl, Pu.z_iSeq, Pu.z_iRng1, Pu.enQ_tup, Pu.enQ_lst, Pu.z_iEnum, Pu.zq1_ok, Pu.zq2_ok, Pu.z_iZip, Pu.foq_ok, Pu.z_for, Pu.for_nil, Pu.toq_nx, Pu.toq_ct, Pu.toq_bk, Pu.toq_rt, Pu.toq_pick, Pu.tgq_ok, Pu.lcq_ok, Pu.z_lc, Pu.lc_nil, Pu.wp_nil', Pu.wp_cons', Pu.z_body', Pu.finP_nx, Pu.finP_rt, Pu.finP_pick, Pu.y_add, Pu.y_sub, Pu.y_lt, Pu.y_le, Pu.y_gt, Pu.y_ge, Pu.y_eqI, Pu.y_eqS, Pu.y_neI, Pu.y_neS, Pu.y_lenT, Pu.y_lenL, Pu.y_lenR, Pu.y_int, Pu.y_intB, Pu.y_tupT, Pu.y_tupL, Pu.y_lstT, Pu.y_lstL, Pu.y_isii, Pu.y_isib, Pu.y_isss, Pu.y_istt, Pu.y_ixT, Pu.y_ixW, Pu.y_ixL, Pu.at_0, Pu.at_1, Pu.at_2, Pu.tp_non, Pu.tp_bl, Pu.tp_int, Pu.tp_tup, Pu.tp_lst, List.getElem?_cons_zero, List.getElem?_cons_succ, List.set_cons_zero, List.set_cons_succ, List.map_cons, List.map_nil, List.replicate_zero, List.replicate_succ, List.cons_append, List.nil_append, List.append_nil, List.length_cons, List.length_nil, Nat.sub_self, Bool.not_true, Bool.not_false, decide_true, decide_false, Nat.zero_add, Nat.add_one_sub_one, eq_self, y_in_pair]
      rfl, fun _ => by simp only [Vm.bind_some', Vm.pick_t, Vm.pick_f, Pu.gq_ok, Pu.z_var, Pu.z_c, Pu.wr_ok, Pu.bq1_ok, Pu.bq2_ok, Pu.z_bin, Pu.iq1_ok, Pu.z_if, Pu.z_ifS, Pu.z_nil, Pu.cq1_ok, Pu.cq2_ok, Pu.z_cons, Pu.fq1_ok, Pu.z_fn, Pu.z_tup, Pu.z_lst, Pu.tupQ_0, Pu.tupQ_1, Pu.tupQ_2, Pu.tupQ_3, Pu.lstQ_0, Pu.lstQ_1, Pu.lstQ_2, Pu.lstQ_3, Pu.lstQ_4, Pu.lstQ_5, Pu.lstQ_6, Pu.bq_ok, Pu.z_b, Pu.blQ_ok, Pu.z_bV, Pu.tq1_ok, Pu.tq2_ok, Pu.z_bT, Pu.aq1_ok, Pu.z_bAnd, Pu.oq1_ok, Pu.z_bOr, Pu.nq1_ok, Pu.z_bNot, Pu.z_yes, Pu.vq1_ok, Pu.vq2_ok, Pu.z_and, Pu.uq1_ok, Pu.uq2_ok, Pu.z_or, Pu.xq1_ok, Pu.xq2_ok, Pu.z_not, Pu.ngQ_ok, Pu.z_neg, Pu.kq3_ok, Pu.kq2_ok, Pu.kq1_ok, Pu.z_chain, Pu.z_oNone, Pu.osQ_ok, Pu.z_oSome, Pu.sq1_ok, Pu.sq2_ok, Pu.sq3_ok, Pu.z_slice, Pu.z_slT, Pu.z_slL, Pu.rvQ_ok, Pu.z_revT, Pu.r1Q_ok, Pu.z_rg1, Pu.z_tupR, Pu.z_lstR, Pu.lq1_ok, Pu.lq2_ok, Pu.lq3_ok, Pu.z_callL, Pu.nq_ok, Pu.z_fnK, Pu.qs_nx, Pu.qs_rt, Pu.qs_bk, Pu.qs_ct, Pu.qs_pick, Pu.z_seq, Pu.z_next, Pu.z_bk, Pu.z_ct, Pu.eq1_ok, Pu.z_expr, Pu.rq1_ok, Pu.z_ret, Pu.z_retN, Pu.gq1_ok, Pu.gq2_ok, Pu.z_asg, Pu.z_nm, Pu.z_gt, Pu.z_gw, Pu.z_gn, Pu.gcq_ok, Pu.z_gc, Pu.sbI_ok, Pu.sbJ_ok, Pu.sbO_ok, Pu.z_sub, Pu.puI_ok, Pu.z_put, Pu.apI_ok, Pu.z_append, Pu.pq1_ok, Pu.pq2_ok, Pu.z_par, Pu.p3q1_ok, Pu.p3q2_ok, Pu.p3q3_ok, Pu.z_par3, Pu.wq_ok, Pu.iqS_ok, Pu.it_tup, Pu.it_lst, Pu.it_rl, Pu.z_iSeq, Pu.z_iRng1, Pu.enQ_tup, Pu.enQ_lst, Pu.z_iEnum, Pu.zq1_ok, Pu.zq2_ok, Pu.z_iZip, Pu.foq_ok, Pu.z_for, Pu.for_nil, Pu.toq_nx, Pu.toq_ct, Pu.toq_bk, Pu.toq_rt, Pu.toq_pick, Pu.tgq_ok, Pu.lcq_ok, Pu.z_lc, Pu.lc_nil, Pu.wp_nil', Pu.wp_cons', Pu.z_body', Pu.finP_nx, Pu.finP_rt, Pu.finP_pick, Pu.y_add, Pu.y_sub, Pu.y_lt, Pu.y_le, Pu.y_gt, Pu.y_ge, Pu.y_eqI, Pu.y_eqS, Pu.y_neI, Pu.y_neS, Pu.y_lenT, Pu.y_lenL, Pu.y_lenR, Pu.y_int, Pu.y_intB, Pu.y_tupT, Pu.y_tupL, Pu.y_lstT, Pu.y_lstL, Pu.y_isii, Pu.y_isib, Pu.y_isss, Pu.y_istt, Pu.y_ixT, Pu.y_ixW, Pu.y_ixL, Pu.at_0, Pu.at_1, Pu.at_2, Pu.tp_non, Pu.tp_bl, Pu.tp_int, Pu.tp_tup, Pu.tp_lst, List.getElem?_cons_zero, List.getElem?_cons_succ, List.set_cons_zero, List.set_cons_succ, List.map_cons, List.map_nil, List.replicate_zero, List.replicate_succ, List.cons_append, List.nil_append, List.append_nil, List.length_cons, List.length_nil, Nat.sub_self, Bool.not_true, Bool.not_false, decide_true, decide_false, Nat.zero_add, Nat.add_one_sub_one, eq_self]⟩
  have sz : (mts (List.range n) r).length ≤ 1000000 := by rw [mts_len]; have := hr.1; omega
  have ne : decide ((b : Int) = (a : Int)) = false := decide_eq_false (by omega)
  unfold p_crossed q_crossed
  simp only [Vm.bind_some', Vm.pick_t, Vm.pick_f, Pu.gq_ok, Pu.z_var, Pu.z_c, Pu.wr_ok, Pu.bq1_ok, Pu.bq2_ok, Pu.z_bin, Pu.iq1_ok, Pu.z_if, Pu.z_ifS, Pu.z_nil, Pu.cq1_ok, Pu.cq2_ok, Pu.z_cons, Pu.fq1_ok, Pu.z_fn, Pu.z_tup, Pu.z_lst, Pu.tupQ_0, Pu.tupQ_1, Pu.tupQ_2, Pu.tupQ_3, Pu.lstQ_0, Pu.lstQ_1, Pu.lstQ_2, Pu.lstQ_3, Pu.lstQ_4, Pu.lstQ_5, Pu.lstQ_6, Pu.bq_ok, Pu.z_b, Pu.blQ_ok, Pu.z_bV, Pu.tq1_ok, Pu.tq2_ok, Pu.z_bT, Pu.aq1_ok, Pu.z_bAnd, Pu.oq1_ok, Pu.z_bOr, Pu.nq1_ok, Pu.z_bNot, Pu.z_yes, Pu.vq1_ok, Pu.vq2_ok, Pu.z_and, Pu.uq1_ok, Pu.uq2_ok, Pu.z_or, Pu.xq1_ok, Pu.xq2_ok, Pu.z_not, Pu.ngQ_ok, Pu.z_neg, Pu.kq3_ok, Pu.kq2_ok, Pu.kq1_ok, Pu.z_chain, Pu.z_oNone, Pu.osQ_ok, Pu.z_oSome, Pu.sq1_ok, Pu.sq2_ok, Pu.sq3_ok, Pu.z_slice, Pu.z_slT, Pu.z_slL, Pu.rvQ_ok, Pu.z_revT, Pu.r1Q_ok, Pu.z_rg1, Pu.z_tupR, Pu.z_lstR, Pu.lq1_ok, Pu.lq2_ok, Pu.lq3_ok, Pu.z_callL, Pu.nq_ok, Pu.z_fnK, Pu.qs_nx, Pu.qs_rt, Pu.qs_bk, Pu.qs_ct, Pu.qs_pick, Pu.z_seq, Pu.z_next, Pu.z_bk, Pu.z_ct, Pu.eq1_ok, Pu.z_expr, Pu.rq1_ok, Pu.z_ret, Pu.z_retN, Pu.gq1_ok, Pu.gq2_ok, Pu.z_asg, Pu.z_nm, Pu.z_gt, Pu.z_gw, Pu.z_gn, Pu.gcq_ok, Pu.z_gc, Pu.sbI_ok, Pu.sbJ_ok, Pu.sbO_ok, Pu.z_sub, Pu.puI_ok, Pu.z_put, Pu.apI_ok, Pu.z_append, Pu.pq1_ok, Pu.pq2_ok, Pu.z_par, Pu.p3q1_ok, Pu.p3q2_ok, Pu.p3q3_ok, Pu.z_par3, Pu.wq_ok, Pu.iqS_ok, Pu.it_tup, Pu.it_lst, Pu.it_rl, Pu.z_iSeq, Pu.z_iRng1, Pu.enQ_tup, Pu.enQ_lst, Pu.z_iEnum, Pu.zq1_ok, Pu.zq2_ok, Pu.z_iZip, Pu.foq_ok, Pu.z_for, Pu.for_nil, Pu.toq_nx, Pu.toq_ct, Pu.toq_bk, Pu.toq_rt, Pu.toq_pick, Pu.tgq_ok, Pu.lcq_ok, Pu.z_lc, Pu.lc_nil, Pu.wp_nil', Pu.wp_cons', Pu.z_body', Pu.finP_nx, Pu.finP_rt, Pu.finP_pick, Pu.y_add, Pu.y_sub, Pu.y_lt, Pu.y_le, Pu.y_gt, Pu.y_ge, Pu.y_eqI, Pu.y_eqS, Pu.y_neI, Pu.y_neS, Pu.y_lenT, Pu.y_lenL, Pu.y_lenR, Pu.y_int, Pu.y_intB, Pu.y_tupT, Pu.y_tupL, Pu.y_lstT, Pu.y_lstL, Pu.y_isii, Pu.y_isib, Pu.y_isss, Pu.y_istt, Pu.y_ixT, Pu.y_ixW, Pu.y_ixL, Pu.at_0, Pu.at_1, Pu.at_2, Pu.tp_non, Pu.tp_bl, Pu.tp_int, Pu.tp_tup, Pu.tp_lst, List.getElem?_cons_zero, List.getElem?_cons_succ, List.set_cons_zero, List.set_cons_succ, List.map_cons, List.map_nil, List.replicate_zero, List.replicate_succ, List.cons_append, List.nil_append, List.append_nil, List.length_cons, List.length_nil, Nat.sub_self, Bool.not_true, Bool.not_false, decide_true, decide_false, Nat.zero_add, Nat.add_one_sub_one, eq_self, w_need h1 h2 hr, w_need_cord ha, w_need_cord hb, ne, w_meetings h2 hr]
  unfold metV
  simp only [Vm.bind_some', Vm.pick_t, Vm.pick_f, Pu.gq_ok, Pu.z_var, Pu.z_c, Pu.wr_ok, Pu.bq1_ok, Pu.bq2_ok, Pu.z_bin, Pu.iq1_ok, Pu.z_if, Pu.z_ifS, Pu.z_nil, Pu.cq1_ok, Pu.cq2_ok, Pu.z_cons, Pu.fq1_ok, Pu.z_fn, Pu.z_tup, Pu.z_lst, Pu.tupQ_0, Pu.tupQ_1, Pu.tupQ_2, Pu.tupQ_3, Pu.lstQ_0, Pu.lstQ_1, Pu.lstQ_2, Pu.lstQ_3, Pu.lstQ_4, Pu.lstQ_5, Pu.lstQ_6, Pu.bq_ok, Pu.z_b, Pu.blQ_ok, Pu.z_bV, Pu.tq1_ok, Pu.tq2_ok, Pu.z_bT, Pu.aq1_ok, Pu.z_bAnd, Pu.oq1_ok, Pu.z_bOr, Pu.nq1_ok, Pu.z_bNot, Pu.z_yes, Pu.vq1_ok, Pu.vq2_ok, Pu.z_and, Pu.uq1_ok, Pu.uq2_ok, Pu.z_or, Pu.xq1_ok, Pu.xq2_ok, Pu.z_not, Pu.ngQ_ok, Pu.z_neg, Pu.kq3_ok, Pu.kq2_ok, Pu.kq1_ok, Pu.z_chain, Pu.z_oNone, Pu.osQ_ok, Pu.z_oSome, Pu.sq1_ok, Pu.sq2_ok, Pu.sq3_ok, Pu.z_slice, Pu.z_slT, Pu.z_slL, Pu.rvQ_ok, Pu.z_revT, Pu.r1Q_ok, Pu.z_rg1, Pu.z_tupR, Pu.z_lstR, Pu.lq1_ok, Pu.lq2_ok, Pu.lq3_ok, Pu.z_callL, Pu.nq_ok, Pu.z_fnK, Pu.qs_nx, Pu.qs_rt, Pu.qs_bk, Pu.qs_ct, Pu.qs_pick, Pu.z_seq, Pu.z_next, Pu.z_bk, Pu.z_ct, Pu.eq1_ok, Pu.z_expr, Pu.rq1_ok, Pu.z_ret, Pu.z_retN, Pu.gq1_ok, Pu.gq2_ok, Pu.z_asg, Pu.z_nm, Pu.z_gt, Pu.z_gw, Pu.z_gn, Pu.gcq_ok, Pu.z_gc, Pu.sbI_ok, Pu.sbJ_ok, Pu.sbO_ok, Pu.z_sub, Pu.puI_ok, Pu.z_put, Pu.apI_ok, Pu.z_append, Pu.pq1_ok, Pu.pq2_ok, Pu.z_par, Pu.p3q1_ok, Pu.p3q2_ok, Pu.p3q3_ok, Pu.z_par3, Pu.wq_ok, Pu.iqS_ok, Pu.it_tup, Pu.it_lst, Pu.it_rl, Pu.z_iSeq, Pu.z_iRng1, Pu.enQ_tup, Pu.enQ_lst, Pu.z_iEnum, Pu.zq1_ok, Pu.zq2_ok, Pu.z_iZip, Pu.foq_ok, Pu.z_for, Pu.for_nil, Pu.toq_nx, Pu.toq_ct, Pu.toq_bk, Pu.toq_rt, Pu.toq_pick, Pu.tgq_ok, Pu.lcq_ok, Pu.z_lc, Pu.lc_nil, Pu.wp_nil', Pu.wp_cons', Pu.z_body', Pu.finP_nx, Pu.finP_rt, Pu.finP_pick, Pu.y_add, Pu.y_sub, Pu.y_lt, Pu.y_le, Pu.y_gt, Pu.y_ge, Pu.y_eqI, Pu.y_eqS, Pu.y_neI, Pu.y_neS, Pu.y_lenT, Pu.y_lenL, Pu.y_lenR, Pu.y_int, Pu.y_intB, Pu.y_tupT, Pu.y_tupL, Pu.y_lstT, Pu.y_lstL, Pu.y_isii, Pu.y_isib, Pu.y_isss, Pu.y_istt, Pu.y_ixT, Pu.y_ixW, Pu.y_ixL, Pu.at_0, Pu.at_1, Pu.at_2, Pu.tp_non, Pu.tp_bl, Pu.tp_int, Pu.tp_tup, Pu.tp_lst, List.getElem?_cons_zero, List.getElem?_cons_succ, List.set_cons_zero, List.set_cons_succ, List.map_cons, List.map_nil, List.replicate_zero, List.replicate_succ, List.cons_append, List.nil_append, List.append_nil, List.length_cons, List.length_nil, Nat.sub_self, Bool.not_true, Bool.not_false, decide_true, decide_false, Nat.zero_add, Nat.add_one_sub_one, eq_self, lc, lcJ_ok sz, List.length_map]
  rfl
/-! rows flipped -/
theorem lc_flip {own : List Nat} {e : PM} {pe : PEn} {f : Nat → Nat} (i j : Nat) (hm : ∀ (c : Bool × Nat), c.2 + 1 < n → ∃ pe', qGT (qGC (qNm i) (qGC (qNm j) qGN)) (crV c) (wipeP pe own) s = some (pe', s) ∧ e pe' s = some (.tup [.str (sd (!c.1)), .int (f c.2 : Nat)], s)) (r : List (Bool × Nat)) (hr : ∀ c ∈ r, c.2 + 1 < n) :
    lcP own (qGT (qGC (qNm i) (qGC (qNm j) qGN))) qbYes e pe (r.map crV) s = some ((r.map fun c => (!c.1, f c.2)).map crV, s) := by
  rw [lc_all (F := fun c => crV (!c.1, f c.2)) r fun c m => hm c (hr c m), List.map_map]
  rfl
theorem row_sz (hr : Ok n r) : (r.map crV).length ≤ 1000000 := by rw [List.length_map]; have := hr.1; omega
theorem ok_rev (hr : Ok n r) : Ok n r.reverse := ⟨by rw [List.length_reverse]; exact hr.1, fun c m => hr.2 c (by simpa using m)⟩
theorem w_back_of (hr : Ok n r) : p_back_of [rowV r] s = some (rowV (backR r), s) := by
  unfold p_back_of q_back_of rowV
  have lc := lc_flip (s := s) (n := n) (own := [1, 2]) (e := qTup (qCons (qFn p_other_side (qCons (qVar 1) qNil)) (qCons (qVar 2) qNil))) (pe := [some (.tup (r.map crV)), none, none]) (f := id) 1 2 (fun c hc => ⟨_, rfl, by simp only [Vm.bind_some', Vm.pick_t, Vm.pick_f, Pu.gq_ok, Pu.z_var, Pu.z_c, Pu.wr_ok, Pu.bq1_ok, Pu.bq2_ok, Pu.z_bin, Pu.iq1_ok, Pu.z_if, Pu.z_ifS, Pu.z_nil, Pu.cq1_ok, Pu.cq2_ok, Pu.z_cons, Pu.fq1_ok, Pu.z_fn, Pu.z_tup, Pu.z_lst, Pu.tupQ_0, Pu.tupQ_1, Pu.tupQ_2, Pu.tupQ_3, Pu.lstQ_0, Pu.lstQ_1, Pu.lstQ_2, Pu.lstQ_3, Pu.lstQ_4, Pu.lstQ_5, Pu.lstQ_6, Pu.bq_ok, Pu.z_b, Pu.blQ_ok, Pu.z_bV, Pu.tq1_ok, Pu.tq2_ok, Pu.z_bT, Pu.aq1_ok, Pu.z_bAnd, Pu.oq1_ok, Pu.z_bOr, Pu.nq1_ok, Pu.z_bNot, Pu.z_yes, Pu.vq1_ok, Pu.vq2_ok, Pu.z_and, Pu.uq1_ok, Pu.uq2_ok, Pu.z_or, Pu.xq1_ok, Pu.xq2_ok, Pu.z_not, Pu.ngQ_ok, Pu.z_neg, Pu.kq3_ok, Pu.kq2_ok, Pu.kq1_ok, Pu.z_chain, Pu.z_oNone, Pu.osQ_ok, Pu.z_oSome, Pu.sq1_ok, Pu.sq2_ok, Pu.sq3_ok, Pu.z_slice, Pu.z_slT, Pu.z_slL, Pu.rvQ_ok, Pu.z_revT, Pu.r1Q_ok, Pu.z_rg1, Pu.z_tupR, Pu.z_lstR, Pu.lq1_ok, Pu.lq2_ok, Pu.lq3_ok, Pu.z_callL, Pu.nq_ok, Pu.z_fnK, Pu.qs_nx, Pu.qs_rt, Pu.qs_bk, Pu.qs_ct, Pu.qs_pick, Pu.z_seq, Pu.z_next, Pu.z_bk, Pu.z_ct, Pu.eq1_ok, Pu.z_expr, Pu.rq1_ok, Pu.z_ret, Pu.z_retN, Pu.gq1_ok, Pu.gq2_ok, Pu.z_asg, Pu.z_nm, Pu.z_gt, Pu.z_gw, Pu.z_gn, Pu.gcq_ok, Pu.z_gc, Pu.sbI_ok, Pu.sbJ_ok, Pu.sbO_ok, Pu.z_sub, Pu.puI_ok, Pu.z_put, Pu.apI_ok, Pu.z_append, Pu.pq1_ok, Pu.pq2_ok, Pu.z_par, Pu.p3q1_ok, Pu.p3q2_ok, Pu.p3q3_ok, Pu.z_par3, Pu.wq_ok, Pu.iqS_ok, Pu.it_tup, Pu.it_lst, Pu.it_rl, Pu.z_iSeq, Pu.z_iRng1, Pu.enQ_tup, Pu.enQ_lst, Pu.z_iEnum, Pu.zq1_ok, Pu.zq2_ok, Pu.z_iZip, Pu.foq_ok, Pu.z_for, Pu.for_nil, Pu.toq_nx, Pu.toq_ct, Pu.toq_bk, Pu.toq_rt, Pu.toq_pick, Pu.tgq_ok, Pu.lcq_ok, Pu.z_lc, Pu.lc_nil, Pu.wp_nil', Pu.wp_cons', Pu.z_body', Pu.finP_nx, Pu.finP_rt, Pu.finP_pick, Pu.y_add, Pu.y_sub, Pu.y_lt, Pu.y_le, Pu.y_gt, Pu.y_ge, Pu.y_eqI, Pu.y_eqS, Pu.y_neI, Pu.y_neS, Pu.y_lenT, Pu.y_lenL, Pu.y_lenR, Pu.y_int, Pu.y_intB, Pu.y_tupT, Pu.y_tupL, Pu.y_lstT, Pu.y_lstL, Pu.y_isii, Pu.y_isib, Pu.y_isss, Pu.y_istt, Pu.y_ixT, Pu.y_ixW, Pu.y_ixL, Pu.at_0, Pu.at_1, Pu.at_2, Pu.tp_non, Pu.tp_bl, Pu.tp_int, Pu.tp_tup, Pu.tp_lst, List.getElem?_cons_zero, List.getElem?_cons_succ, List.set_cons_zero, List.set_cons_succ, List.map_cons, List.map_nil, List.replicate_zero, List.replicate_succ, List.cons_append, List.nil_append, List.append_nil, List.length_cons, List.length_nil, Nat.sub_self, Bool.not_true, Bool.not_false, decide_true, decide_false, Nat.zero_add, Nat.add_one_sub_one, eq_self, w_other]; rfl⟩) r.reverse (ok_rev hr).2
  rw [List.map_reverse] at lc
  simp only [Vm.bind_some', Vm.pick_t, Vm.pick_f, Pu.gq_ok, Pu.z_var, Pu.z_c, Pu.wr_ok, Pu.bq1_ok, Pu.bq2_ok, Pu.z_bin, Pu.iq1_ok, Pu.z_if, Pu.z_ifS, Pu.z_nil, Pu.cq1_ok, Pu.cq2_ok, Pu.z_cons, Pu.fq1_ok, Pu.z_fn, Pu.z_tup, Pu.z_lst, Pu.tupQ_0, Pu.tupQ_1, Pu.tupQ_2, Pu.tupQ_3, Pu.lstQ_0, Pu.lstQ_1, Pu.lstQ_2, Pu.lstQ_3, Pu.lstQ_4, Pu.lstQ_5, Pu.lstQ_6, Pu.bq_ok, Pu.z_b, Pu.blQ_ok, Pu.z_bV, Pu.tq1_ok, Pu.tq2_ok, Pu.z_bT, Pu.aq1_ok, Pu.z_bAnd, Pu.oq1_ok, Pu.z_bOr, Pu.nq1_ok, Pu.z_bNot, Pu.z_yes, Pu.vq1_ok, Pu.vq2_ok, Pu.z_and, Pu.uq1_ok, Pu.uq2_ok, Pu.z_or, Pu.xq1_ok, Pu.xq2_ok, Pu.z_not, Pu.ngQ_ok, Pu.z_neg, Pu.kq3_ok, Pu.kq2_ok, Pu.kq1_ok, Pu.z_chain, Pu.z_oNone, Pu.osQ_ok, Pu.z_oSome, Pu.sq1_ok, Pu.sq2_ok, Pu.sq3_ok, Pu.z_slice, Pu.z_slT, Pu.z_slL, Pu.rvQ_ok, Pu.z_revT, Pu.r1Q_ok, Pu.z_rg1, Pu.z_tupR, Pu.z_lstR, Pu.lq1_ok, Pu.lq2_ok, Pu.lq3_ok, Pu.z_callL, Pu.nq_ok, Pu.z_fnK, Pu.qs_nx, Pu.qs_rt, Pu.qs_bk, Pu.qs_ct, Pu.qs_pick, Pu.z_seq, Pu.z_next, Pu.z_bk, Pu.z_ct, Pu.eq1_ok, Pu.z_expr, Pu.rq1_ok, Pu.z_ret, Pu.z_retN, Pu.gq1_ok, Pu.gq2_ok, Pu.z_asg, Pu.z_nm, Pu.z_gt, Pu.z_gw, Pu.z_gn, Pu.gcq_ok, Pu.z_gc, Pu.sbI_ok, Pu.sbJ_ok, Pu.sbO_ok, Pu.z_sub, Pu.puI_ok, Pu.z_put, Pu.apI_ok, Pu.z_append, Pu.pq1_ok, Pu.pq2_ok, Pu.z_par, Pu.p3q1_ok, Pu.p3q2_ok, Pu.p3q3_ok, Pu.z_par3, Pu.wq_ok, Pu.iqS_ok, Pu.it_tup, Pu.it_lst, Pu.it_rl, Pu.z_iSeq, Pu.z_iRng1, Pu.enQ_tup, Pu.enQ_lst, Pu.z_iEnum, Pu.zq1_ok, Pu.zq2_ok, Pu.z_iZip, Pu.foq_ok, Pu.z_for, Pu.for_nil, Pu.toq_nx, Pu.toq_ct, Pu.toq_bk, Pu.toq_rt, Pu.toq_pick, Pu.tgq_ok, Pu.lcq_ok, Pu.z_lc, Pu.lc_nil, Pu.wp_nil', Pu.wp_cons', Pu.z_body', Pu.finP_nx, Pu.finP_rt, Pu.finP_pick, Pu.y_add, Pu.y_sub, Pu.y_lt, Pu.y_le, Pu.y_gt, Pu.y_ge, Pu.y_eqI, Pu.y_eqS, Pu.y_neI, Pu.y_neS, Pu.y_lenT, Pu.y_lenL, Pu.y_lenR, Pu.y_int, Pu.y_intB, Pu.y_tupT, Pu.y_tupL, Pu.y_lstT, Pu.y_lstL, Pu.y_isii, Pu.y_isib, Pu.y_isss, Pu.y_istt, Pu.y_ixT, Pu.y_ixW, Pu.y_ixL, Pu.at_0, Pu.at_1, Pu.at_2, Pu.tp_non, Pu.tp_bl, Pu.tp_int, Pu.tp_tup, Pu.tp_lst, List.getElem?_cons_zero, List.getElem?_cons_succ, List.set_cons_zero, List.set_cons_succ, List.map_cons, List.map_nil, List.replicate_zero, List.replicate_succ, List.cons_append, List.nil_append, List.append_nil, List.length_cons, List.length_nil, Nat.sub_self, Bool.not_true, Bool.not_false, decide_true, decide_false, Nat.zero_add, Nat.add_one_sub_one, eq_self, lc, lcJ_ok (show (r.map crV).reverse.length ≤ 1000000 by rw [List.length_reverse]; exact row_sz hr)]
  simp [backR, turned]
theorem w_back_row (h1 : 2 ≤ n) (h2 : n ≤ 5) (hr : Ok n r) : p_back_row [.int n, rowV r] s = some (rowV (backR r), s) := by
  unfold p_back_row q_back_row
  simp only [Vm.bind_some', Vm.pick_t, Vm.pick_f, Pu.gq_ok, Pu.z_var, Pu.z_c, Pu.wr_ok, Pu.bq1_ok, Pu.bq2_ok, Pu.z_bin, Pu.iq1_ok, Pu.z_if, Pu.z_ifS, Pu.z_nil, Pu.cq1_ok, Pu.cq2_ok, Pu.z_cons, Pu.fq1_ok, Pu.z_fn, Pu.z_tup, Pu.z_lst, Pu.tupQ_0, Pu.tupQ_1, Pu.tupQ_2, Pu.tupQ_3, Pu.lstQ_0, Pu.lstQ_1, Pu.lstQ_2, Pu.lstQ_3, Pu.lstQ_4, Pu.lstQ_5, Pu.lstQ_6, Pu.bq_ok, Pu.z_b, Pu.blQ_ok, Pu.z_bV, Pu.tq1_ok, Pu.tq2_ok, Pu.z_bT, Pu.aq1_ok, Pu.z_bAnd, Pu.oq1_ok, Pu.z_bOr, Pu.nq1_ok, Pu.z_bNot, Pu.z_yes, Pu.vq1_ok, Pu.vq2_ok, Pu.z_and, Pu.uq1_ok, Pu.uq2_ok, Pu.z_or, Pu.xq1_ok, Pu.xq2_ok, Pu.z_not, Pu.ngQ_ok, Pu.z_neg, Pu.kq3_ok, Pu.kq2_ok, Pu.kq1_ok, Pu.z_chain, Pu.z_oNone, Pu.osQ_ok, Pu.z_oSome, Pu.sq1_ok, Pu.sq2_ok, Pu.sq3_ok, Pu.z_slice, Pu.z_slT, Pu.z_slL, Pu.rvQ_ok, Pu.z_revT, Pu.r1Q_ok, Pu.z_rg1, Pu.z_tupR, Pu.z_lstR, Pu.lq1_ok, Pu.lq2_ok, Pu.lq3_ok, Pu.z_callL, Pu.nq_ok, Pu.z_fnK, Pu.qs_nx, Pu.qs_rt, Pu.qs_bk, Pu.qs_ct, Pu.qs_pick, Pu.z_seq, Pu.z_next, Pu.z_bk, Pu.z_ct, Pu.eq1_ok, Pu.z_expr, Pu.rq1_ok, Pu.z_ret, Pu.z_retN, Pu.gq1_ok, Pu.gq2_ok, Pu.z_asg, Pu.z_nm, Pu.z_gt, Pu.z_gw, Pu.z_gn, Pu.gcq_ok, Pu.z_gc, Pu.sbI_ok, Pu.sbJ_ok, Pu.sbO_ok, Pu.z_sub, Pu.puI_ok, Pu.z_put, Pu.apI_ok, Pu.z_append, Pu.pq1_ok, Pu.pq2_ok, Pu.z_par, Pu.p3q1_ok, Pu.p3q2_ok, Pu.p3q3_ok, Pu.z_par3, Pu.wq_ok, Pu.iqS_ok, Pu.it_tup, Pu.it_lst, Pu.it_rl, Pu.z_iSeq, Pu.z_iRng1, Pu.enQ_tup, Pu.enQ_lst, Pu.z_iEnum, Pu.zq1_ok, Pu.zq2_ok, Pu.z_iZip, Pu.foq_ok, Pu.z_for, Pu.for_nil, Pu.toq_nx, Pu.toq_ct, Pu.toq_bk, Pu.toq_rt, Pu.toq_pick, Pu.tgq_ok, Pu.lcq_ok, Pu.z_lc, Pu.lc_nil, Pu.wp_nil', Pu.wp_cons', Pu.z_body', Pu.finP_nx, Pu.finP_rt, Pu.finP_pick, Pu.y_add, Pu.y_sub, Pu.y_lt, Pu.y_le, Pu.y_gt, Pu.y_ge, Pu.y_eqI, Pu.y_eqS, Pu.y_neI, Pu.y_neS, Pu.y_lenT, Pu.y_lenL, Pu.y_lenR, Pu.y_int, Pu.y_intB, Pu.y_tupT, Pu.y_tupL, Pu.y_lstT, Pu.y_lstL, Pu.y_isii, Pu.y_isib, Pu.y_isss, Pu.y_istt, Pu.y_ixT, Pu.y_ixW, Pu.y_ixL, Pu.at_0, Pu.at_1, Pu.at_2, Pu.tp_non, Pu.tp_bl, Pu.tp_int, Pu.tp_tup, Pu.tp_lst, List.getElem?_cons_zero, List.getElem?_cons_succ, List.set_cons_zero, List.set_cons_succ, List.map_cons, List.map_nil, List.replicate_zero, List.replicate_succ, List.cons_append, List.nil_append, List.append_nil, List.length_cons, List.length_nil, Nat.sub_self, Bool.not_true, Bool.not_false, decide_true, decide_false, Nat.zero_add, Nat.add_one_sub_one, eq_self, w_need h1 h2 hr, w_back_of hr]
theorem w_turned (h1 : 2 ≤ n) (h2 : n ≤ 5) (hr : Ok n r) : p_turned_over [.int n, rowV r] s = some (rowV (turned r), s) := by
  have lc := lc_flip (s := s) (n := n) (own := [2, 3]) (e := qTup (qCons (qFn p_other_side (qCons (qVar 2) qNil)) (qCons (qVar 3) qNil))) (pe := [some (.int n), some (.tup (r.map crV)), none, none]) (f := id) 2 3 (fun c hc => ⟨_, rfl, by simp only [Vm.bind_some', Vm.pick_t, Vm.pick_f, Pu.gq_ok, Pu.z_var, Pu.z_c, Pu.wr_ok, Pu.bq1_ok, Pu.bq2_ok, Pu.z_bin, Pu.iq1_ok, Pu.z_if, Pu.z_ifS, Pu.z_nil, Pu.cq1_ok, Pu.cq2_ok, Pu.z_cons, Pu.fq1_ok, Pu.z_fn, Pu.z_tup, Pu.z_lst, Pu.tupQ_0, Pu.tupQ_1, Pu.tupQ_2, Pu.tupQ_3, Pu.lstQ_0, Pu.lstQ_1, Pu.lstQ_2, Pu.lstQ_3, Pu.lstQ_4, Pu.lstQ_5, Pu.lstQ_6, Pu.bq_ok, Pu.z_b, Pu.blQ_ok, Pu.z_bV, Pu.tq1_ok, Pu.tq2_ok, Pu.z_bT, Pu.aq1_ok, Pu.z_bAnd, Pu.oq1_ok, Pu.z_bOr, Pu.nq1_ok, Pu.z_bNot, Pu.z_yes, Pu.vq1_ok, Pu.vq2_ok, Pu.z_and, Pu.uq1_ok, Pu.uq2_ok, Pu.z_or, Pu.xq1_ok, Pu.xq2_ok, Pu.z_not, Pu.ngQ_ok, Pu.z_neg, Pu.kq3_ok, Pu.kq2_ok, Pu.kq1_ok, Pu.z_chain, Pu.z_oNone, Pu.osQ_ok, Pu.z_oSome, Pu.sq1_ok, Pu.sq2_ok, Pu.sq3_ok, Pu.z_slice, Pu.z_slT, Pu.z_slL, Pu.rvQ_ok, Pu.z_revT, Pu.r1Q_ok, Pu.z_rg1, Pu.z_tupR, Pu.z_lstR, Pu.lq1_ok, Pu.lq2_ok, Pu.lq3_ok, Pu.z_callL, Pu.nq_ok, Pu.z_fnK, Pu.qs_nx, Pu.qs_rt, Pu.qs_bk, Pu.qs_ct, Pu.qs_pick, Pu.z_seq, Pu.z_next, Pu.z_bk, Pu.z_ct, Pu.eq1_ok, Pu.z_expr, Pu.rq1_ok, Pu.z_ret, Pu.z_retN, Pu.gq1_ok, Pu.gq2_ok, Pu.z_asg, Pu.z_nm, Pu.z_gt, Pu.z_gw, Pu.z_gn, Pu.gcq_ok, Pu.z_gc, Pu.sbI_ok, Pu.sbJ_ok, Pu.sbO_ok, Pu.z_sub, Pu.puI_ok, Pu.z_put, Pu.apI_ok, Pu.z_append, Pu.pq1_ok, Pu.pq2_ok, Pu.z_par, Pu.p3q1_ok, Pu.p3q2_ok, Pu.p3q3_ok, Pu.z_par3, Pu.wq_ok, Pu.iqS_ok, Pu.it_tup, Pu.it_lst, Pu.it_rl, Pu.z_iSeq, Pu.z_iRng1, Pu.enQ_tup, Pu.enQ_lst, Pu.z_iEnum, Pu.zq1_ok, Pu.zq2_ok, Pu.z_iZip, Pu.foq_ok, Pu.z_for, Pu.for_nil, Pu.toq_nx, Pu.toq_ct, Pu.toq_bk, Pu.toq_rt, Pu.toq_pick, Pu.tgq_ok, Pu.lcq_ok, Pu.z_lc, Pu.lc_nil, Pu.wp_nil', Pu.wp_cons', Pu.z_body', Pu.finP_nx, Pu.finP_rt, Pu.finP_pick, Pu.y_add, Pu.y_sub, Pu.y_lt, Pu.y_le, Pu.y_gt, Pu.y_ge, Pu.y_eqI, Pu.y_eqS, Pu.y_neI, Pu.y_neS, Pu.y_lenT, Pu.y_lenL, Pu.y_lenR, Pu.y_int, Pu.y_intB, Pu.y_tupT, Pu.y_tupL, Pu.y_lstT, Pu.y_lstL, Pu.y_isii, Pu.y_isib, Pu.y_isss, Pu.y_istt, Pu.y_ixT, Pu.y_ixW, Pu.y_ixL, Pu.at_0, Pu.at_1, Pu.at_2, Pu.tp_non, Pu.tp_bl, Pu.tp_int, Pu.tp_tup, Pu.tp_lst, List.getElem?_cons_zero, List.getElem?_cons_succ, List.set_cons_zero, List.set_cons_succ, List.map_cons, List.map_nil, List.replicate_zero, List.replicate_succ, List.cons_append, List.nil_append, List.append_nil, List.length_cons, List.length_nil, Nat.sub_self, Bool.not_true, Bool.not_false, decide_true, decide_false, Nat.zero_add, Nat.add_one_sub_one, eq_self, w_other]; rfl⟩) r hr.2
  unfold p_turned_over q_turned_over
  simp only [Vm.bind_some', Vm.pick_t, Vm.pick_f, Pu.gq_ok, Pu.z_var, Pu.z_c, Pu.wr_ok, Pu.bq1_ok, Pu.bq2_ok, Pu.z_bin, Pu.iq1_ok, Pu.z_if, Pu.z_ifS, Pu.z_nil, Pu.cq1_ok, Pu.cq2_ok, Pu.z_cons, Pu.fq1_ok, Pu.z_fn, Pu.z_tup, Pu.z_lst, Pu.tupQ_0, Pu.tupQ_1, Pu.tupQ_2, Pu.tupQ_3, Pu.lstQ_0, Pu.lstQ_1, Pu.lstQ_2, Pu.lstQ_3, Pu.lstQ_4, Pu.lstQ_5, Pu.lstQ_6, Pu.bq_ok, Pu.z_b, Pu.blQ_ok, Pu.z_bV, Pu.tq1_ok, Pu.tq2_ok, Pu.z_bT, Pu.aq1_ok, Pu.z_bAnd, Pu.oq1_ok, Pu.z_bOr, Pu.nq1_ok, Pu.z_bNot, Pu.z_yes, Pu.vq1_ok, Pu.vq2_ok, Pu.z_and, Pu.uq1_ok, Pu.uq2_ok, Pu.z_or, Pu.xq1_ok, Pu.xq2_ok, Pu.z_not, Pu.ngQ_ok, Pu.z_neg, Pu.kq3_ok, Pu.kq2_ok, Pu.kq1_ok, Pu.z_chain, Pu.z_oNone, Pu.osQ_ok, Pu.z_oSome, Pu.sq1_ok, Pu.sq2_ok, Pu.sq3_ok, Pu.z_slice, Pu.z_slT, Pu.z_slL, Pu.rvQ_ok, Pu.z_revT, Pu.r1Q_ok, Pu.z_rg1, Pu.z_tupR, Pu.z_lstR, Pu.lq1_ok, Pu.lq2_ok, Pu.lq3_ok, Pu.z_callL, Pu.nq_ok, Pu.z_fnK, Pu.qs_nx, Pu.qs_rt, Pu.qs_bk, Pu.qs_ct, Pu.qs_pick, Pu.z_seq, Pu.z_next, Pu.z_bk, Pu.z_ct, Pu.eq1_ok, Pu.z_expr, Pu.rq1_ok, Pu.z_ret, Pu.z_retN, Pu.gq1_ok, Pu.gq2_ok, Pu.z_asg, Pu.z_nm, Pu.z_gt, Pu.z_gw, Pu.z_gn, Pu.gcq_ok, Pu.z_gc, Pu.sbI_ok, Pu.sbJ_ok, Pu.sbO_ok, Pu.z_sub, Pu.puI_ok, Pu.z_put, Pu.apI_ok, Pu.z_append, Pu.pq1_ok, Pu.pq2_ok, Pu.z_par, Pu.p3q1_ok, Pu.p3q2_ok, Pu.p3q3_ok, Pu.z_par3, Pu.wq_ok, Pu.iqS_ok, Pu.it_tup, Pu.it_lst, Pu.it_rl, Pu.z_iSeq, Pu.z_iRng1, Pu.enQ_tup, Pu.enQ_lst, Pu.z_iEnum, Pu.zq1_ok, Pu.zq2_ok, Pu.z_iZip, Pu.foq_ok, Pu.z_for, Pu.for_nil, Pu.toq_nx, Pu.toq_ct, Pu.toq_bk, Pu.toq_rt, Pu.toq_pick, Pu.tgq_ok, Pu.lcq_ok, Pu.z_lc, Pu.lc_nil, Pu.wp_nil', Pu.wp_cons', Pu.z_body', Pu.finP_nx, Pu.finP_rt, Pu.finP_pick, Pu.y_add, Pu.y_sub, Pu.y_lt, Pu.y_le, Pu.y_gt, Pu.y_ge, Pu.y_eqI, Pu.y_eqS, Pu.y_neI, Pu.y_neS, Pu.y_lenT, Pu.y_lenL, Pu.y_lenR, Pu.y_int, Pu.y_intB, Pu.y_tupT, Pu.y_tupL, Pu.y_lstT, Pu.y_lstL, Pu.y_isii, Pu.y_isib, Pu.y_isss, Pu.y_istt, Pu.y_ixT, Pu.y_ixW, Pu.y_ixL, Pu.at_0, Pu.at_1, Pu.at_2, Pu.tp_non, Pu.tp_bl, Pu.tp_int, Pu.tp_tup, Pu.tp_lst, List.getElem?_cons_zero, List.getElem?_cons_succ, List.set_cons_zero, List.set_cons_succ, List.map_cons, List.map_nil, List.replicate_zero, List.replicate_succ, List.cons_append, List.nil_append, List.append_nil, List.length_cons, List.length_nil, Nat.sub_self, Bool.not_true, Bool.not_false, decide_true, decide_false, Nat.zero_add, Nat.add_one_sub_one, eq_self, w_need h1 h2 hr]
  unfold rowV
  simp only [Vm.bind_some', Vm.pick_t, Vm.pick_f, Pu.gq_ok, Pu.z_var, Pu.z_c, Pu.wr_ok, Pu.bq1_ok, Pu.bq2_ok, Pu.z_bin, Pu.iq1_ok, Pu.z_if, Pu.z_ifS, Pu.z_nil, Pu.cq1_ok, Pu.cq2_ok, Pu.z_cons, Pu.fq1_ok, Pu.z_fn, Pu.z_tup, Pu.z_lst, Pu.tupQ_0, Pu.tupQ_1, Pu.tupQ_2, Pu.tupQ_3, Pu.lstQ_0, Pu.lstQ_1, Pu.lstQ_2, Pu.lstQ_3, Pu.lstQ_4, Pu.lstQ_5, Pu.lstQ_6, Pu.bq_ok, Pu.z_b, Pu.blQ_ok, Pu.z_bV, Pu.tq1_ok, Pu.tq2_ok, Pu.z_bT, Pu.aq1_ok, Pu.z_bAnd, Pu.oq1_ok, Pu.z_bOr, Pu.nq1_ok, Pu.z_bNot, Pu.z_yes, Pu.vq1_ok, Pu.vq2_ok, Pu.z_and, Pu.uq1_ok, Pu.uq2_ok, Pu.z_or, Pu.xq1_ok, Pu.xq2_ok, Pu.z_not, Pu.ngQ_ok, Pu.z_neg, Pu.kq3_ok, Pu.kq2_ok, Pu.kq1_ok, Pu.z_chain, Pu.z_oNone, Pu.osQ_ok, Pu.z_oSome, Pu.sq1_ok, Pu.sq2_ok, Pu.sq3_ok, Pu.z_slice, Pu.z_slT, Pu.z_slL, Pu.rvQ_ok, Pu.z_revT, Pu.r1Q_ok, Pu.z_rg1, Pu.z_tupR, Pu.z_lstR, Pu.lq1_ok, Pu.lq2_ok, Pu.lq3_ok, Pu.z_callL, Pu.nq_ok, Pu.z_fnK, Pu.qs_nx, Pu.qs_rt, Pu.qs_bk, Pu.qs_ct, Pu.qs_pick, Pu.z_seq, Pu.z_next, Pu.z_bk, Pu.z_ct, Pu.eq1_ok, Pu.z_expr, Pu.rq1_ok, Pu.z_ret, Pu.z_retN, Pu.gq1_ok, Pu.gq2_ok, Pu.z_asg, Pu.z_nm, Pu.z_gt, Pu.z_gw, Pu.z_gn, Pu.gcq_ok, Pu.z_gc, Pu.sbI_ok, Pu.sbJ_ok, Pu.sbO_ok, Pu.z_sub, Pu.puI_ok, Pu.z_put, Pu.apI_ok, Pu.z_append, Pu.pq1_ok, Pu.pq2_ok, Pu.z_par, Pu.p3q1_ok, Pu.p3q2_ok, Pu.p3q3_ok, Pu.z_par3, Pu.wq_ok, Pu.iqS_ok, Pu.it_tup, Pu.it_lst, Pu.it_rl, Pu.z_iSeq, Pu.z_iRng1, Pu.enQ_tup, Pu.enQ_lst, Pu.z_iEnum, Pu.zq1_ok, Pu.zq2_ok, Pu.z_iZip, Pu.foq_ok, Pu.z_for, Pu.for_nil, Pu.toq_nx, Pu.toq_ct, Pu.toq_bk, Pu.toq_rt, Pu.toq_pick, Pu.tgq_ok, Pu.lcq_ok, Pu.z_lc, Pu.lc_nil, Pu.wp_nil', Pu.wp_cons', Pu.z_body', Pu.finP_nx, Pu.finP_rt, Pu.finP_pick, Pu.y_add, Pu.y_sub, Pu.y_lt, Pu.y_le, Pu.y_gt, Pu.y_ge, Pu.y_eqI, Pu.y_eqS, Pu.y_neI, Pu.y_neS, Pu.y_lenT, Pu.y_lenL, Pu.y_lenR, Pu.y_int, Pu.y_intB, Pu.y_tupT, Pu.y_tupL, Pu.y_lstT, Pu.y_lstL, Pu.y_isii, Pu.y_isib, Pu.y_isss, Pu.y_istt, Pu.y_ixT, Pu.y_ixW, Pu.y_ixL, Pu.at_0, Pu.at_1, Pu.at_2, Pu.tp_non, Pu.tp_bl, Pu.tp_int, Pu.tp_tup, Pu.tp_lst, List.getElem?_cons_zero, List.getElem?_cons_succ, List.set_cons_zero, List.set_cons_succ, List.map_cons, List.map_nil, List.replicate_zero, List.replicate_succ, List.cons_append, List.nil_append, List.append_nil, List.length_cons, List.length_nil, Nat.sub_self, Bool.not_true, Bool.not_false, decide_true, decide_false, Nat.zero_add, Nat.add_one_sub_one, eq_self, lc, lcJ_ok (row_sz hr)]
  rfl
theorem w_mirrored (h1 : 2 ≤ n) (h2 : n ≤ 5) (hr : Ok n r) : p_mirrored [.int n, rowV r] s = some (rowV (mirr n r), s) := by
  have lc := lc_flip (s := s) (n := n) (own := [2, 3]) (e := qTup (qCons (qFn p_other_side (qCons (qVar 2) qNil)) (qCons (qBin pSub (qBin pSub (qVar 0) (qC (.int 2))) (qVar 3)) qNil))) (pe := [some (.int n), some (.tup (r.map crV)), none, none]) (f := fun p => n - 2 - p) 2 3 (fun c hc => ⟨_, rfl, by
    simp only [Vm.bind_some', Vm.pick_t, Vm.pick_f, Pu.gq_ok, Pu.z_var, Pu.z_c, Pu.wr_ok, Pu.bq1_ok, Pu.bq2_ok, Pu.z_bin, Pu.iq1_ok, Pu.z_if, Pu.z_ifS, Pu.z_nil, Pu.cq1_ok, Pu.cq2_ok, Pu.z_cons, Pu.fq1_ok, Pu.z_fn, Pu.z_tup, Pu.z_lst, Pu.tupQ_0, Pu.tupQ_1, Pu.tupQ_2, Pu.tupQ_3, Pu.lstQ_0, Pu.lstQ_1, Pu.lstQ_2, Pu.lstQ_3, Pu.lstQ_4, Pu.lstQ_5, Pu.lstQ_6, Pu.bq_ok, Pu.z_b, Pu.blQ_ok, Pu.z_bV, Pu.tq1_ok, Pu.tq2_ok, Pu.z_bT, Pu.aq1_ok, Pu.z_bAnd, Pu.oq1_ok, Pu.z_bOr, Pu.nq1_ok, Pu.z_bNot, Pu.z_yes, Pu.vq1_ok, Pu.vq2_ok, Pu.z_and, Pu.uq1_ok, Pu.uq2_ok, Pu.z_or, Pu.xq1_ok, Pu.xq2_ok, Pu.z_not, Pu.ngQ_ok, Pu.z_neg, Pu.kq3_ok, Pu.kq2_ok, Pu.kq1_ok, Pu.z_chain, Pu.z_oNone, Pu.osQ_ok, Pu.z_oSome, Pu.sq1_ok, Pu.sq2_ok, Pu.sq3_ok, Pu.z_slice, Pu.z_slT, Pu.z_slL, Pu.rvQ_ok, Pu.z_revT, Pu.r1Q_ok, Pu.z_rg1, Pu.z_tupR, Pu.z_lstR, Pu.lq1_ok, Pu.lq2_ok, Pu.lq3_ok, Pu.z_callL, Pu.nq_ok, Pu.z_fnK, Pu.qs_nx, Pu.qs_rt, Pu.qs_bk, Pu.qs_ct, Pu.qs_pick, Pu.z_seq, Pu.z_next, Pu.z_bk, Pu.z_ct, Pu.eq1_ok, Pu.z_expr, Pu.rq1_ok, Pu.z_ret, Pu.z_retN, Pu.gq1_ok, Pu.gq2_ok, Pu.z_asg, Pu.z_nm, Pu.z_gt, Pu.z_gw, Pu.z_gn, Pu.gcq_ok, Pu.z_gc, Pu.sbI_ok, Pu.sbJ_ok, Pu.sbO_ok, Pu.z_sub, Pu.puI_ok, Pu.z_put, Pu.apI_ok, Pu.z_append, Pu.pq1_ok, Pu.pq2_ok, Pu.z_par, Pu.p3q1_ok, Pu.p3q2_ok, Pu.p3q3_ok, Pu.z_par3, Pu.wq_ok, Pu.iqS_ok, Pu.it_tup, Pu.it_lst, Pu.it_rl, Pu.z_iSeq, Pu.z_iRng1, Pu.enQ_tup, Pu.enQ_lst, Pu.z_iEnum, Pu.zq1_ok, Pu.zq2_ok, Pu.z_iZip, Pu.foq_ok, Pu.z_for, Pu.for_nil, Pu.toq_nx, Pu.toq_ct, Pu.toq_bk, Pu.toq_rt, Pu.toq_pick, Pu.tgq_ok, Pu.lcq_ok, Pu.z_lc, Pu.lc_nil, Pu.wp_nil', Pu.wp_cons', Pu.z_body', Pu.finP_nx, Pu.finP_rt, Pu.finP_pick, Pu.y_add, Pu.y_sub, Pu.y_lt, Pu.y_le, Pu.y_gt, Pu.y_ge, Pu.y_eqI, Pu.y_eqS, Pu.y_neI, Pu.y_neS, Pu.y_lenT, Pu.y_lenL, Pu.y_lenR, Pu.y_int, Pu.y_intB, Pu.y_tupT, Pu.y_tupL, Pu.y_lstT, Pu.y_lstL, Pu.y_isii, Pu.y_isib, Pu.y_isss, Pu.y_istt, Pu.y_ixT, Pu.y_ixW, Pu.y_ixL, Pu.at_0, Pu.at_1, Pu.at_2, Pu.tp_non, Pu.tp_bl, Pu.tp_int, Pu.tp_tup, Pu.tp_lst, List.getElem?_cons_zero, List.getElem?_cons_succ, List.set_cons_zero, List.set_cons_succ, List.map_cons, List.map_nil, List.replicate_zero, List.replicate_succ, List.cons_append, List.nil_append, List.append_nil, List.length_cons, List.length_nil, Nat.sub_self, Bool.not_true, Bool.not_false, decide_true, decide_false, Nat.zero_add, Nat.add_one_sub_one, eq_self, w_other]
    have : (n : Int) - 2 - (c.2 : Int) = ((n - 2 - c.2 : Nat) : Int) := by omega
    rw [this]⟩) r hr.2
  unfold p_mirrored q_mirrored
  simp only [Vm.bind_some', Vm.pick_t, Vm.pick_f, Pu.gq_ok, Pu.z_var, Pu.z_c, Pu.wr_ok, Pu.bq1_ok, Pu.bq2_ok, Pu.z_bin, Pu.iq1_ok, Pu.z_if, Pu.z_ifS, Pu.z_nil, Pu.cq1_ok, Pu.cq2_ok, Pu.z_cons, Pu.fq1_ok, Pu.z_fn, Pu.z_tup, Pu.z_lst, Pu.tupQ_0, Pu.tupQ_1, Pu.tupQ_2, Pu.tupQ_3, Pu.lstQ_0, Pu.lstQ_1, Pu.lstQ_2, Pu.lstQ_3, Pu.lstQ_4, Pu.lstQ_5, Pu.lstQ_6, Pu.bq_ok, Pu.z_b, Pu.blQ_ok, Pu.z_bV, Pu.tq1_ok, Pu.tq2_ok, Pu.z_bT, Pu.aq1_ok, Pu.z_bAnd, Pu.oq1_ok, Pu.z_bOr, Pu.nq1_ok, Pu.z_bNot, Pu.z_yes, Pu.vq1_ok, Pu.vq2_ok, Pu.z_and, Pu.uq1_ok, Pu.uq2_ok, Pu.z_or, Pu.xq1_ok, Pu.xq2_ok, Pu.z_not, Pu.ngQ_ok, Pu.z_neg, Pu.kq3_ok, Pu.kq2_ok, Pu.kq1_ok, Pu.z_chain, Pu.z_oNone, Pu.osQ_ok, Pu.z_oSome, Pu.sq1_ok, Pu.sq2_ok, Pu.sq3_ok, Pu.z_slice, Pu.z_slT, Pu.z_slL, Pu.rvQ_ok, Pu.z_revT, Pu.r1Q_ok, Pu.z_rg1, Pu.z_tupR, Pu.z_lstR, Pu.lq1_ok, Pu.lq2_ok, Pu.lq3_ok, Pu.z_callL, Pu.nq_ok, Pu.z_fnK, Pu.qs_nx, Pu.qs_rt, Pu.qs_bk, Pu.qs_ct, Pu.qs_pick, Pu.z_seq, Pu.z_next, Pu.z_bk, Pu.z_ct, Pu.eq1_ok, Pu.z_expr, Pu.rq1_ok, Pu.z_ret, Pu.z_retN, Pu.gq1_ok, Pu.gq2_ok, Pu.z_asg, Pu.z_nm, Pu.z_gt, Pu.z_gw, Pu.z_gn, Pu.gcq_ok, Pu.z_gc, Pu.sbI_ok, Pu.sbJ_ok, Pu.sbO_ok, Pu.z_sub, Pu.puI_ok, Pu.z_put, Pu.apI_ok, Pu.z_append, Pu.pq1_ok, Pu.pq2_ok, Pu.z_par, Pu.p3q1_ok, Pu.p3q2_ok, Pu.p3q3_ok, Pu.z_par3, Pu.wq_ok, Pu.iqS_ok, Pu.it_tup, Pu.it_lst, Pu.it_rl, Pu.z_iSeq, Pu.z_iRng1, Pu.enQ_tup, Pu.enQ_lst, Pu.z_iEnum, Pu.zq1_ok, Pu.zq2_ok, Pu.z_iZip, Pu.foq_ok, Pu.z_for, Pu.for_nil, Pu.toq_nx, Pu.toq_ct, Pu.toq_bk, Pu.toq_rt, Pu.toq_pick, Pu.tgq_ok, Pu.lcq_ok, Pu.z_lc, Pu.lc_nil, Pu.wp_nil', Pu.wp_cons', Pu.z_body', Pu.finP_nx, Pu.finP_rt, Pu.finP_pick, Pu.y_add, Pu.y_sub, Pu.y_lt, Pu.y_le, Pu.y_gt, Pu.y_ge, Pu.y_eqI, Pu.y_eqS, Pu.y_neI, Pu.y_neS, Pu.y_lenT, Pu.y_lenL, Pu.y_lenR, Pu.y_int, Pu.y_intB, Pu.y_tupT, Pu.y_tupL, Pu.y_lstT, Pu.y_lstL, Pu.y_isii, Pu.y_isib, Pu.y_isss, Pu.y_istt, Pu.y_ixT, Pu.y_ixW, Pu.y_ixL, Pu.at_0, Pu.at_1, Pu.at_2, Pu.tp_non, Pu.tp_bl, Pu.tp_int, Pu.tp_tup, Pu.tp_lst, List.getElem?_cons_zero, List.getElem?_cons_succ, List.set_cons_zero, List.set_cons_succ, List.map_cons, List.map_nil, List.replicate_zero, List.replicate_succ, List.cons_append, List.nil_append, List.append_nil, List.length_cons, List.length_nil, Nat.sub_self, Bool.not_true, Bool.not_false, decide_true, decide_false, Nat.zero_add, Nat.add_one_sub_one, eq_self, w_need h1 h2 hr]
  unfold rowV
  simp only [Vm.bind_some', Vm.pick_t, Vm.pick_f, Pu.gq_ok, Pu.z_var, Pu.z_c, Pu.wr_ok, Pu.bq1_ok, Pu.bq2_ok, Pu.z_bin, Pu.iq1_ok, Pu.z_if, Pu.z_ifS, Pu.z_nil, Pu.cq1_ok, Pu.cq2_ok, Pu.z_cons, Pu.fq1_ok, Pu.z_fn, Pu.z_tup, Pu.z_lst, Pu.tupQ_0, Pu.tupQ_1, Pu.tupQ_2, Pu.tupQ_3, Pu.lstQ_0, Pu.lstQ_1, Pu.lstQ_2, Pu.lstQ_3, Pu.lstQ_4, Pu.lstQ_5, Pu.lstQ_6, Pu.bq_ok, Pu.z_b, Pu.blQ_ok, Pu.z_bV, Pu.tq1_ok, Pu.tq2_ok, Pu.z_bT, Pu.aq1_ok, Pu.z_bAnd, Pu.oq1_ok, Pu.z_bOr, Pu.nq1_ok, Pu.z_bNot, Pu.z_yes, Pu.vq1_ok, Pu.vq2_ok, Pu.z_and, Pu.uq1_ok, Pu.uq2_ok, Pu.z_or, Pu.xq1_ok, Pu.xq2_ok, Pu.z_not, Pu.ngQ_ok, Pu.z_neg, Pu.kq3_ok, Pu.kq2_ok, Pu.kq1_ok, Pu.z_chain, Pu.z_oNone, Pu.osQ_ok, Pu.z_oSome, Pu.sq1_ok, Pu.sq2_ok, Pu.sq3_ok, Pu.z_slice, Pu.z_slT, Pu.z_slL, Pu.rvQ_ok, Pu.z_revT, Pu.r1Q_ok, Pu.z_rg1, Pu.z_tupR, Pu.z_lstR, Pu.lq1_ok, Pu.lq2_ok, Pu.lq3_ok, Pu.z_callL, Pu.nq_ok, Pu.z_fnK, Pu.qs_nx, Pu.qs_rt, Pu.qs_bk, Pu.qs_ct, Pu.qs_pick, Pu.z_seq, Pu.z_next, Pu.z_bk, Pu.z_ct, Pu.eq1_ok, Pu.z_expr, Pu.rq1_ok, Pu.z_ret, Pu.z_retN, Pu.gq1_ok, Pu.gq2_ok, Pu.z_asg, Pu.z_nm, Pu.z_gt, Pu.z_gw, Pu.z_gn, Pu.gcq_ok, Pu.z_gc, Pu.sbI_ok, Pu.sbJ_ok, Pu.sbO_ok, Pu.z_sub, Pu.puI_ok, Pu.z_put, Pu.apI_ok, Pu.z_append, Pu.pq1_ok, Pu.pq2_ok, Pu.z_par, Pu.p3q1_ok, Pu.p3q2_ok, Pu.p3q3_ok, Pu.z_par3, Pu.wq_ok, Pu.iqS_ok, Pu.it_tup, Pu.it_lst, Pu.it_rl, Pu.z_iSeq, Pu.z_iRng1, Pu.enQ_tup, Pu.enQ_lst, Pu.z_iEnum, Pu.zq1_ok, Pu.zq2_ok, Pu.z_iZip, Pu.foq_ok, Pu.z_for, Pu.for_nil, Pu.toq_nx, Pu.toq_ct, Pu.toq_bk, Pu.toq_rt, Pu.toq_pick, Pu.tgq_ok, Pu.lcq_ok, Pu.z_lc, Pu.lc_nil, Pu.wp_nil', Pu.wp_cons', Pu.z_body', Pu.finP_nx, Pu.finP_rt, Pu.finP_pick, Pu.y_add, Pu.y_sub, Pu.y_lt, Pu.y_le, Pu.y_gt, Pu.y_ge, Pu.y_eqI, Pu.y_eqS, Pu.y_neI, Pu.y_neS, Pu.y_lenT, Pu.y_lenL, Pu.y_lenR, Pu.y_int, Pu.y_intB, Pu.y_tupT, Pu.y_tupL, Pu.y_lstT, Pu.y_lstL, Pu.y_isii, Pu.y_isib, Pu.y_isss, Pu.y_istt, Pu.y_ixT, Pu.y_ixW, Pu.y_ixL, Pu.at_0, Pu.at_1, Pu.at_2, Pu.tp_non, Pu.tp_bl, Pu.tp_int, Pu.tp_tup, Pu.tp_lst, List.getElem?_cons_zero, List.getElem?_cons_succ, List.set_cons_zero, List.set_cons_succ, List.map_cons, List.map_nil, List.replicate_zero, List.replicate_succ, List.cons_append, List.nil_append, List.append_nil, List.length_cons, List.length_nil, Nat.sub_self, Bool.not_true, Bool.not_false, decide_true, decide_false, Nat.zero_add, Nat.add_one_sub_one, eq_self, lc, lcJ_ok (row_sz hr)]
  rfl
/-! the law's own -/
theorem w_l_other {b : Bool} : p__law_other_sides [.str (sd b)] s = some (.str (sd (!b)), s) := by
  unfold p__law_other_sides q__law_other_sides
  simp only [Vm.bind_some', Vm.pick_t, Vm.pick_f, Pu.gq_ok, Pu.z_var, Pu.z_c, Pu.wr_ok, Pu.bq1_ok, Pu.bq2_ok, Pu.z_bin, Pu.iq1_ok, Pu.z_if, Pu.z_ifS, Pu.z_nil, Pu.cq1_ok, Pu.cq2_ok, Pu.z_cons, Pu.fq1_ok, Pu.z_fn, Pu.z_tup, Pu.z_lst, Pu.tupQ_0, Pu.tupQ_1, Pu.tupQ_2, Pu.tupQ_3, Pu.lstQ_0, Pu.lstQ_1, Pu.lstQ_2, Pu.lstQ_3, Pu.lstQ_4, Pu.lstQ_5, Pu.lstQ_6, Pu.bq_ok, Pu.z_b, Pu.blQ_ok, Pu.z_bV, Pu.tq1_ok, Pu.tq2_ok, Pu.z_bT, Pu.aq1_ok, Pu.z_bAnd, Pu.oq1_ok, Pu.z_bOr, Pu.nq1_ok, Pu.z_bNot, Pu.z_yes, Pu.vq1_ok, Pu.vq2_ok, Pu.z_and, Pu.uq1_ok, Pu.uq2_ok, Pu.z_or, Pu.xq1_ok, Pu.xq2_ok, Pu.z_not, Pu.ngQ_ok, Pu.z_neg, Pu.kq3_ok, Pu.kq2_ok, Pu.kq1_ok, Pu.z_chain, Pu.z_oNone, Pu.osQ_ok, Pu.z_oSome, Pu.sq1_ok, Pu.sq2_ok, Pu.sq3_ok, Pu.z_slice, Pu.z_slT, Pu.z_slL, Pu.rvQ_ok, Pu.z_revT, Pu.r1Q_ok, Pu.z_rg1, Pu.z_tupR, Pu.z_lstR, Pu.lq1_ok, Pu.lq2_ok, Pu.lq3_ok, Pu.z_callL, Pu.nq_ok, Pu.z_fnK, Pu.qs_nx, Pu.qs_rt, Pu.qs_bk, Pu.qs_ct, Pu.qs_pick, Pu.z_seq, Pu.z_next, Pu.z_bk, Pu.z_ct, Pu.eq1_ok, Pu.z_expr, Pu.rq1_ok, Pu.z_ret, Pu.z_retN, Pu.gq1_ok, Pu.gq2_ok, Pu.z_asg, Pu.z_nm, Pu.z_gt, Pu.z_gw, Pu.z_gn, Pu.gcq_ok, Pu.z_gc, Pu.sbI_ok, Pu.sbJ_ok, Pu.sbO_ok, Pu.z_sub, Pu.puI_ok, Pu.z_put, Pu.apI_ok, Pu.z_append, Pu.pq1_ok, Pu.pq2_ok, Pu.z_par, Pu.p3q1_ok, Pu.p3q2_ok, Pu.p3q3_ok, Pu.z_par3, Pu.wq_ok, Pu.iqS_ok, Pu.it_tup, Pu.it_lst, Pu.it_rl, Pu.z_iSeq, Pu.z_iRng1, Pu.enQ_tup, Pu.enQ_lst, Pu.z_iEnum, Pu.zq1_ok, Pu.zq2_ok, Pu.z_iZip, Pu.foq_ok, Pu.z_for, Pu.for_nil, Pu.toq_nx, Pu.toq_ct, Pu.toq_bk, Pu.toq_rt, Pu.toq_pick, Pu.tgq_ok, Pu.lcq_ok, Pu.z_lc, Pu.lc_nil, Pu.wp_nil', Pu.wp_cons', Pu.z_body', Pu.finP_nx, Pu.finP_rt, Pu.finP_pick, Pu.y_add, Pu.y_sub, Pu.y_lt, Pu.y_le, Pu.y_gt, Pu.y_ge, Pu.y_eqI, Pu.y_eqS, Pu.y_neI, Pu.y_neS, Pu.y_lenT, Pu.y_lenL, Pu.y_lenR, Pu.y_int, Pu.y_intB, Pu.y_tupT, Pu.y_tupL, Pu.y_lstT, Pu.y_lstL, Pu.y_isii, Pu.y_isib, Pu.y_isss, Pu.y_istt, Pu.y_ixT, Pu.y_ixW, Pu.y_ixL, Pu.at_0, Pu.at_1, Pu.at_2, Pu.tp_non, Pu.tp_bl, Pu.tp_int, Pu.tp_tup, Pu.tp_lst, List.getElem?_cons_zero, List.getElem?_cons_succ, List.set_cons_zero, List.set_cons_succ, List.map_cons, List.map_nil, List.replicate_zero, List.replicate_succ, List.cons_append, List.nil_append, List.append_nil, List.length_cons, List.length_nil, Nat.sub_self, Bool.not_true, Bool.not_false, decide_true, decide_false, Nat.zero_add, Nat.add_one_sub_one, eq_self, sd_right]
  cases b <;> rfl
theorem law_if {b : Bool} {a c : Option (P × S)} : True := trivial
theorem flipE {b : Bool} : (pick (!b) (some (P.str "left", s)) (some (P.str "right", s))) = some (.str (sd (!b)), s) := by cases b <;> rfl
theorem w_l_back (hr : Ok n r) : p__law_back [rowV r] s = some (rowV (backR r), s) := by
  have lc := lc_flip (s := s) (n := n) (own := [1, 2]) (e := qTup (qCons (qIf (qbV (qBin pEq (qVar 1) (qC (.str "right")))) (qC (.str "left")) (qC (.str "right"))) (qCons (qVar 2) qNil))) (pe := [some (.tup (r.map crV)), none, none]) (f := id) 1 2 (fun c hc => ⟨_, rfl, by simp only [Vm.bind_some', Vm.pick_t, Vm.pick_f, Pu.gq_ok, Pu.z_var, Pu.z_c, Pu.wr_ok, Pu.bq1_ok, Pu.bq2_ok, Pu.z_bin, Pu.iq1_ok, Pu.z_if, Pu.z_ifS, Pu.z_nil, Pu.cq1_ok, Pu.cq2_ok, Pu.z_cons, Pu.fq1_ok, Pu.z_fn, Pu.z_tup, Pu.z_lst, Pu.tupQ_0, Pu.tupQ_1, Pu.tupQ_2, Pu.tupQ_3, Pu.lstQ_0, Pu.lstQ_1, Pu.lstQ_2, Pu.lstQ_3, Pu.lstQ_4, Pu.lstQ_5, Pu.lstQ_6, Pu.bq_ok, Pu.z_b, Pu.blQ_ok, Pu.z_bV, Pu.tq1_ok, Pu.tq2_ok, Pu.z_bT, Pu.aq1_ok, Pu.z_bAnd, Pu.oq1_ok, Pu.z_bOr, Pu.nq1_ok, Pu.z_bNot, Pu.z_yes, Pu.vq1_ok, Pu.vq2_ok, Pu.z_and, Pu.uq1_ok, Pu.uq2_ok, Pu.z_or, Pu.xq1_ok, Pu.xq2_ok, Pu.z_not, Pu.ngQ_ok, Pu.z_neg, Pu.kq3_ok, Pu.kq2_ok, Pu.kq1_ok, Pu.z_chain, Pu.z_oNone, Pu.osQ_ok, Pu.z_oSome, Pu.sq1_ok, Pu.sq2_ok, Pu.sq3_ok, Pu.z_slice, Pu.z_slT, Pu.z_slL, Pu.rvQ_ok, Pu.z_revT, Pu.r1Q_ok, Pu.z_rg1, Pu.z_tupR, Pu.z_lstR, Pu.lq1_ok, Pu.lq2_ok, Pu.lq3_ok, Pu.z_callL, Pu.nq_ok, Pu.z_fnK, Pu.qs_nx, Pu.qs_rt, Pu.qs_bk, Pu.qs_ct, Pu.qs_pick, Pu.z_seq, Pu.z_next, Pu.z_bk, Pu.z_ct, Pu.eq1_ok, Pu.z_expr, Pu.rq1_ok, Pu.z_ret, Pu.z_retN, Pu.gq1_ok, Pu.gq2_ok, Pu.z_asg, Pu.z_nm, Pu.z_gt, Pu.z_gw, Pu.z_gn, Pu.gcq_ok, Pu.z_gc, Pu.sbI_ok, Pu.sbJ_ok, Pu.sbO_ok, Pu.z_sub, Pu.puI_ok, Pu.z_put, Pu.apI_ok, Pu.z_append, Pu.pq1_ok, Pu.pq2_ok, Pu.z_par, Pu.p3q1_ok, Pu.p3q2_ok, Pu.p3q3_ok, Pu.z_par3, Pu.wq_ok, Pu.iqS_ok, Pu.it_tup, Pu.it_lst, Pu.it_rl, Pu.z_iSeq, Pu.z_iRng1, Pu.enQ_tup, Pu.enQ_lst, Pu.z_iEnum, Pu.zq1_ok, Pu.zq2_ok, Pu.z_iZip, Pu.foq_ok, Pu.z_for, Pu.for_nil, Pu.toq_nx, Pu.toq_ct, Pu.toq_bk, Pu.toq_rt, Pu.toq_pick, Pu.tgq_ok, Pu.lcq_ok, Pu.z_lc, Pu.lc_nil, Pu.wp_nil', Pu.wp_cons', Pu.z_body', Pu.finP_nx, Pu.finP_rt, Pu.finP_pick, Pu.y_add, Pu.y_sub, Pu.y_lt, Pu.y_le, Pu.y_gt, Pu.y_ge, Pu.y_eqI, Pu.y_eqS, Pu.y_neI, Pu.y_neS, Pu.y_lenT, Pu.y_lenL, Pu.y_lenR, Pu.y_int, Pu.y_intB, Pu.y_tupT, Pu.y_tupL, Pu.y_lstT, Pu.y_lstL, Pu.y_isii, Pu.y_isib, Pu.y_isss, Pu.y_istt, Pu.y_ixT, Pu.y_ixW, Pu.y_ixL, Pu.at_0, Pu.at_1, Pu.at_2, Pu.tp_non, Pu.tp_bl, Pu.tp_int, Pu.tp_tup, Pu.tp_lst, List.getElem?_cons_zero, List.getElem?_cons_succ, List.set_cons_zero, List.set_cons_succ, List.map_cons, List.map_nil, List.replicate_zero, List.replicate_succ, List.cons_append, List.nil_append, List.append_nil, List.length_cons, List.length_nil, Nat.sub_self, Bool.not_true, Bool.not_false, decide_true, decide_false, Nat.zero_add, Nat.add_one_sub_one, eq_self, sd_right, flipE]; rfl⟩) r.reverse (ok_rev hr).2
  rw [List.map_reverse] at lc
  unfold p__law_back q__law_back rowV
  simp only [Vm.bind_some', Vm.pick_t, Vm.pick_f, Pu.gq_ok, Pu.z_var, Pu.z_c, Pu.wr_ok, Pu.bq1_ok, Pu.bq2_ok, Pu.z_bin, Pu.iq1_ok, Pu.z_if, Pu.z_ifS, Pu.z_nil, Pu.cq1_ok, Pu.cq2_ok, Pu.z_cons, Pu.fq1_ok, Pu.z_fn, Pu.z_tup, Pu.z_lst, Pu.tupQ_0, Pu.tupQ_1, Pu.tupQ_2, Pu.tupQ_3, Pu.lstQ_0, Pu.lstQ_1, Pu.lstQ_2, Pu.lstQ_3, Pu.lstQ_4, Pu.lstQ_5, Pu.lstQ_6, Pu.bq_ok, Pu.z_b, Pu.blQ_ok, Pu.z_bV, Pu.tq1_ok, Pu.tq2_ok, Pu.z_bT, Pu.aq1_ok, Pu.z_bAnd, Pu.oq1_ok, Pu.z_bOr, Pu.nq1_ok, Pu.z_bNot, Pu.z_yes, Pu.vq1_ok, Pu.vq2_ok, Pu.z_and, Pu.uq1_ok, Pu.uq2_ok, Pu.z_or, Pu.xq1_ok, Pu.xq2_ok, Pu.z_not, Pu.ngQ_ok, Pu.z_neg, Pu.kq3_ok, Pu.kq2_ok, Pu.kq1_ok, Pu.z_chain, Pu.z_oNone, Pu.osQ_ok, Pu.z_oSome, Pu.sq1_ok, Pu.sq2_ok, Pu.sq3_ok, Pu.z_slice, Pu.z_slT, Pu.z_slL, Pu.rvQ_ok, Pu.z_revT, Pu.r1Q_ok, Pu.z_rg1, Pu.z_tupR, Pu.z_lstR, Pu.lq1_ok, Pu.lq2_ok, Pu.lq3_ok, Pu.z_callL, Pu.nq_ok, Pu.z_fnK, Pu.qs_nx, Pu.qs_rt, Pu.qs_bk, Pu.qs_ct, Pu.qs_pick, Pu.z_seq, Pu.z_next, Pu.z_bk, Pu.z_ct, Pu.eq1_ok, Pu.z_expr, Pu.rq1_ok, Pu.z_ret, Pu.z_retN, Pu.gq1_ok, Pu.gq2_ok, Pu.z_asg, Pu.z_nm, Pu.z_gt, Pu.z_gw, Pu.z_gn, Pu.gcq_ok, Pu.z_gc, Pu.sbI_ok, Pu.sbJ_ok, Pu.sbO_ok, Pu.z_sub, Pu.puI_ok, Pu.z_put, Pu.apI_ok, Pu.z_append, Pu.pq1_ok, Pu.pq2_ok, Pu.z_par, Pu.p3q1_ok, Pu.p3q2_ok, Pu.p3q3_ok, Pu.z_par3, Pu.wq_ok, Pu.iqS_ok, Pu.it_tup, Pu.it_lst, Pu.it_rl, Pu.z_iSeq, Pu.z_iRng1, Pu.enQ_tup, Pu.enQ_lst, Pu.z_iEnum, Pu.zq1_ok, Pu.zq2_ok, Pu.z_iZip, Pu.foq_ok, Pu.z_for, Pu.for_nil, Pu.toq_nx, Pu.toq_ct, Pu.toq_bk, Pu.toq_rt, Pu.toq_pick, Pu.tgq_ok, Pu.lcq_ok, Pu.z_lc, Pu.lc_nil, Pu.wp_nil', Pu.wp_cons', Pu.z_body', Pu.finP_nx, Pu.finP_rt, Pu.finP_pick, Pu.y_add, Pu.y_sub, Pu.y_lt, Pu.y_le, Pu.y_gt, Pu.y_ge, Pu.y_eqI, Pu.y_eqS, Pu.y_neI, Pu.y_neS, Pu.y_lenT, Pu.y_lenL, Pu.y_lenR, Pu.y_int, Pu.y_intB, Pu.y_tupT, Pu.y_tupL, Pu.y_lstT, Pu.y_lstL, Pu.y_isii, Pu.y_isib, Pu.y_isss, Pu.y_istt, Pu.y_ixT, Pu.y_ixW, Pu.y_ixL, Pu.at_0, Pu.at_1, Pu.at_2, Pu.tp_non, Pu.tp_bl, Pu.tp_int, Pu.tp_tup, Pu.tp_lst, List.getElem?_cons_zero, List.getElem?_cons_succ, List.set_cons_zero, List.set_cons_succ, List.map_cons, List.map_nil, List.replicate_zero, List.replicate_succ, List.cons_append, List.nil_append, List.append_nil, List.length_cons, List.length_nil, Nat.sub_self, Bool.not_true, Bool.not_false, decide_true, decide_false, Nat.zero_add, Nat.add_one_sub_one, eq_self, lc, lcJ_ok (show (r.map crV).reverse.length ≤ 1000000 by rw [List.length_reverse]; exact row_sz hr)]
  simp [backR, turned]
theorem w_l_over (hr : Ok n r) : p__law_over [rowV r] s = some (rowV (turned r), s) := by
  have lc := lc_flip (s := s) (n := n) (own := [1, 2]) (e := qTup (qCons (qIf (qbV (qBin pEq (qVar 1) (qC (.str "right")))) (qC (.str "left")) (qC (.str "right"))) (qCons (qVar 2) qNil))) (pe := [some (.tup (r.map crV)), none, none]) (f := id) 1 2 (fun c hc => ⟨_, rfl, by simp only [Vm.bind_some', Vm.pick_t, Vm.pick_f, Pu.gq_ok, Pu.z_var, Pu.z_c, Pu.wr_ok, Pu.bq1_ok, Pu.bq2_ok, Pu.z_bin, Pu.iq1_ok, Pu.z_if, Pu.z_ifS, Pu.z_nil, Pu.cq1_ok, Pu.cq2_ok, Pu.z_cons, Pu.fq1_ok, Pu.z_fn, Pu.z_tup, Pu.z_lst, Pu.tupQ_0, Pu.tupQ_1, Pu.tupQ_2, Pu.tupQ_3, Pu.lstQ_0, Pu.lstQ_1, Pu.lstQ_2, Pu.lstQ_3, Pu.lstQ_4, Pu.lstQ_5, Pu.lstQ_6, Pu.bq_ok, Pu.z_b, Pu.blQ_ok, Pu.z_bV, Pu.tq1_ok, Pu.tq2_ok, Pu.z_bT, Pu.aq1_ok, Pu.z_bAnd, Pu.oq1_ok, Pu.z_bOr, Pu.nq1_ok, Pu.z_bNot, Pu.z_yes, Pu.vq1_ok, Pu.vq2_ok, Pu.z_and, Pu.uq1_ok, Pu.uq2_ok, Pu.z_or, Pu.xq1_ok, Pu.xq2_ok, Pu.z_not, Pu.ngQ_ok, Pu.z_neg, Pu.kq3_ok, Pu.kq2_ok, Pu.kq1_ok, Pu.z_chain, Pu.z_oNone, Pu.osQ_ok, Pu.z_oSome, Pu.sq1_ok, Pu.sq2_ok, Pu.sq3_ok, Pu.z_slice, Pu.z_slT, Pu.z_slL, Pu.rvQ_ok, Pu.z_revT, Pu.r1Q_ok, Pu.z_rg1, Pu.z_tupR, Pu.z_lstR, Pu.lq1_ok, Pu.lq2_ok, Pu.lq3_ok, Pu.z_callL, Pu.nq_ok, Pu.z_fnK, Pu.qs_nx, Pu.qs_rt, Pu.qs_bk, Pu.qs_ct, Pu.qs_pick, Pu.z_seq, Pu.z_next, Pu.z_bk, Pu.z_ct, Pu.eq1_ok, Pu.z_expr, Pu.rq1_ok, Pu.z_ret, Pu.z_retN, Pu.gq1_ok, Pu.gq2_ok, Pu.z_asg, Pu.z_nm, Pu.z_gt, Pu.z_gw, Pu.z_gn, Pu.gcq_ok, Pu.z_gc, Pu.sbI_ok, Pu.sbJ_ok, Pu.sbO_ok, Pu.z_sub, Pu.puI_ok, Pu.z_put, Pu.apI_ok, Pu.z_append, Pu.pq1_ok, Pu.pq2_ok, Pu.z_par, Pu.p3q1_ok, Pu.p3q2_ok, Pu.p3q3_ok, Pu.z_par3, Pu.wq_ok, Pu.iqS_ok, Pu.it_tup, Pu.it_lst, Pu.it_rl, Pu.z_iSeq, Pu.z_iRng1, Pu.enQ_tup, Pu.enQ_lst, Pu.z_iEnum, Pu.zq1_ok, Pu.zq2_ok, Pu.z_iZip, Pu.foq_ok, Pu.z_for, Pu.for_nil, Pu.toq_nx, Pu.toq_ct, Pu.toq_bk, Pu.toq_rt, Pu.toq_pick, Pu.tgq_ok, Pu.lcq_ok, Pu.z_lc, Pu.lc_nil, Pu.wp_nil', Pu.wp_cons', Pu.z_body', Pu.finP_nx, Pu.finP_rt, Pu.finP_pick, Pu.y_add, Pu.y_sub, Pu.y_lt, Pu.y_le, Pu.y_gt, Pu.y_ge, Pu.y_eqI, Pu.y_eqS, Pu.y_neI, Pu.y_neS, Pu.y_lenT, Pu.y_lenL, Pu.y_lenR, Pu.y_int, Pu.y_intB, Pu.y_tupT, Pu.y_tupL, Pu.y_lstT, Pu.y_lstL, Pu.y_isii, Pu.y_isib, Pu.y_isss, Pu.y_istt, Pu.y_ixT, Pu.y_ixW, Pu.y_ixL, Pu.at_0, Pu.at_1, Pu.at_2, Pu.tp_non, Pu.tp_bl, Pu.tp_int, Pu.tp_tup, Pu.tp_lst, List.getElem?_cons_zero, List.getElem?_cons_succ, List.set_cons_zero, List.set_cons_succ, List.map_cons, List.map_nil, List.replicate_zero, List.replicate_succ, List.cons_append, List.nil_append, List.append_nil, List.length_cons, List.length_nil, Nat.sub_self, Bool.not_true, Bool.not_false, decide_true, decide_false, Nat.zero_add, Nat.add_one_sub_one, eq_self, sd_right, flipE]; rfl⟩) r hr.2
  unfold p__law_over q__law_over rowV
  simp only [Vm.bind_some', Vm.pick_t, Vm.pick_f, Pu.gq_ok, Pu.z_var, Pu.z_c, Pu.wr_ok, Pu.bq1_ok, Pu.bq2_ok, Pu.z_bin, Pu.iq1_ok, Pu.z_if, Pu.z_ifS, Pu.z_nil, Pu.cq1_ok, Pu.cq2_ok, Pu.z_cons, Pu.fq1_ok, Pu.z_fn, Pu.z_tup, Pu.z_lst, Pu.tupQ_0, Pu.tupQ_1, Pu.tupQ_2, Pu.tupQ_3, Pu.lstQ_0, Pu.lstQ_1, Pu.lstQ_2, Pu.lstQ_3, Pu.lstQ_4, Pu.lstQ_5, Pu.lstQ_6, Pu.bq_ok, Pu.z_b, Pu.blQ_ok, Pu.z_bV, Pu.tq1_ok, Pu.tq2_ok, Pu.z_bT, Pu.aq1_ok, Pu.z_bAnd, Pu.oq1_ok, Pu.z_bOr, Pu.nq1_ok, Pu.z_bNot, Pu.z_yes, Pu.vq1_ok, Pu.vq2_ok, Pu.z_and, Pu.uq1_ok, Pu.uq2_ok, Pu.z_or, Pu.xq1_ok, Pu.xq2_ok, Pu.z_not, Pu.ngQ_ok, Pu.z_neg, Pu.kq3_ok, Pu.kq2_ok, Pu.kq1_ok, Pu.z_chain, Pu.z_oNone, Pu.osQ_ok, Pu.z_oSome, Pu.sq1_ok, Pu.sq2_ok, Pu.sq3_ok, Pu.z_slice, Pu.z_slT, Pu.z_slL, Pu.rvQ_ok, Pu.z_revT, Pu.r1Q_ok, Pu.z_rg1, Pu.z_tupR, Pu.z_lstR, Pu.lq1_ok, Pu.lq2_ok, Pu.lq3_ok, Pu.z_callL, Pu.nq_ok, Pu.z_fnK, Pu.qs_nx, Pu.qs_rt, Pu.qs_bk, Pu.qs_ct, Pu.qs_pick, Pu.z_seq, Pu.z_next, Pu.z_bk, Pu.z_ct, Pu.eq1_ok, Pu.z_expr, Pu.rq1_ok, Pu.z_ret, Pu.z_retN, Pu.gq1_ok, Pu.gq2_ok, Pu.z_asg, Pu.z_nm, Pu.z_gt, Pu.z_gw, Pu.z_gn, Pu.gcq_ok, Pu.z_gc, Pu.sbI_ok, Pu.sbJ_ok, Pu.sbO_ok, Pu.z_sub, Pu.puI_ok, Pu.z_put, Pu.apI_ok, Pu.z_append, Pu.pq1_ok, Pu.pq2_ok, Pu.z_par, Pu.p3q1_ok, Pu.p3q2_ok, Pu.p3q3_ok, Pu.z_par3, Pu.wq_ok, Pu.iqS_ok, Pu.it_tup, Pu.it_lst, Pu.it_rl, Pu.z_iSeq, Pu.z_iRng1, Pu.enQ_tup, Pu.enQ_lst, Pu.z_iEnum, Pu.zq1_ok, Pu.zq2_ok, Pu.z_iZip, Pu.foq_ok, Pu.z_for, Pu.for_nil, Pu.toq_nx, Pu.toq_ct, Pu.toq_bk, Pu.toq_rt, Pu.toq_pick, Pu.tgq_ok, Pu.lcq_ok, Pu.z_lc, Pu.lc_nil, Pu.wp_nil', Pu.wp_cons', Pu.z_body', Pu.finP_nx, Pu.finP_rt, Pu.finP_pick, Pu.y_add, Pu.y_sub, Pu.y_lt, Pu.y_le, Pu.y_gt, Pu.y_ge, Pu.y_eqI, Pu.y_eqS, Pu.y_neI, Pu.y_neS, Pu.y_lenT, Pu.y_lenL, Pu.y_lenR, Pu.y_int, Pu.y_intB, Pu.y_tupT, Pu.y_tupL, Pu.y_lstT, Pu.y_lstL, Pu.y_isii, Pu.y_isib, Pu.y_isss, Pu.y_istt, Pu.y_ixT, Pu.y_ixW, Pu.y_ixL, Pu.at_0, Pu.at_1, Pu.at_2, Pu.tp_non, Pu.tp_bl, Pu.tp_int, Pu.tp_tup, Pu.tp_lst, List.getElem?_cons_zero, List.getElem?_cons_succ, List.set_cons_zero, List.set_cons_succ, List.map_cons, List.map_nil, List.replicate_zero, List.replicate_succ, List.cons_append, List.nil_append, List.append_nil, List.length_cons, List.length_nil, Nat.sub_self, Bool.not_true, Bool.not_false, decide_true, decide_false, Nat.zero_add, Nat.add_one_sub_one, eq_self, lc, lcJ_ok (row_sz hr)]
  rfl
theorem w_l_mirror (hr : Ok n r) : p__law_mirror [.int n, rowV r] s = some (rowV (mirr n r), s) := by
  have lc := lc_flip (s := s) (n := n) (own := [2, 3]) (e := qTup (qCons (qIf (qbV (qBin pEq (qVar 2) (qC (.str "right")))) (qC (.str "left")) (qC (.str "right"))) (qCons (qBin pSub (qBin pSub (qVar 0) (qC (.int 2))) (qVar 3)) qNil))) (pe := [some (.int n), some (.tup (r.map crV)), none, none]) (f := fun p => n - 2 - p) 2 3 (fun c hc => ⟨_, rfl, by
    simp only [Vm.bind_some', Vm.pick_t, Vm.pick_f, Pu.gq_ok, Pu.z_var, Pu.z_c, Pu.wr_ok, Pu.bq1_ok, Pu.bq2_ok, Pu.z_bin, Pu.iq1_ok, Pu.z_if, Pu.z_ifS, Pu.z_nil, Pu.cq1_ok, Pu.cq2_ok, Pu.z_cons, Pu.fq1_ok, Pu.z_fn, Pu.z_tup, Pu.z_lst, Pu.tupQ_0, Pu.tupQ_1, Pu.tupQ_2, Pu.tupQ_3, Pu.lstQ_0, Pu.lstQ_1, Pu.lstQ_2, Pu.lstQ_3, Pu.lstQ_4, Pu.lstQ_5, Pu.lstQ_6, Pu.bq_ok, Pu.z_b, Pu.blQ_ok, Pu.z_bV, Pu.tq1_ok, Pu.tq2_ok, Pu.z_bT, Pu.aq1_ok, Pu.z_bAnd, Pu.oq1_ok, Pu.z_bOr, Pu.nq1_ok, Pu.z_bNot, Pu.z_yes, Pu.vq1_ok, Pu.vq2_ok, Pu.z_and, Pu.uq1_ok, Pu.uq2_ok, Pu.z_or, Pu.xq1_ok, Pu.xq2_ok, Pu.z_not, Pu.ngQ_ok, Pu.z_neg, Pu.kq3_ok, Pu.kq2_ok, Pu.kq1_ok, Pu.z_chain, Pu.z_oNone, Pu.osQ_ok, Pu.z_oSome, Pu.sq1_ok, Pu.sq2_ok, Pu.sq3_ok, Pu.z_slice, Pu.z_slT, Pu.z_slL, Pu.rvQ_ok, Pu.z_revT, Pu.r1Q_ok, Pu.z_rg1, Pu.z_tupR, Pu.z_lstR, Pu.lq1_ok, Pu.lq2_ok, Pu.lq3_ok, Pu.z_callL, Pu.nq_ok, Pu.z_fnK, Pu.qs_nx, Pu.qs_rt, Pu.qs_bk, Pu.qs_ct, Pu.qs_pick, Pu.z_seq, Pu.z_next, Pu.z_bk, Pu.z_ct, Pu.eq1_ok, Pu.z_expr, Pu.rq1_ok, Pu.z_ret, Pu.z_retN, Pu.gq1_ok, Pu.gq2_ok, Pu.z_asg, Pu.z_nm, Pu.z_gt, Pu.z_gw, Pu.z_gn, Pu.gcq_ok, Pu.z_gc, Pu.sbI_ok, Pu.sbJ_ok, Pu.sbO_ok, Pu.z_sub, Pu.puI_ok, Pu.z_put, Pu.apI_ok, Pu.z_append, Pu.pq1_ok, Pu.pq2_ok, Pu.z_par, Pu.p3q1_ok, Pu.p3q2_ok, Pu.p3q3_ok, Pu.z_par3, Pu.wq_ok, Pu.iqS_ok, Pu.it_tup, Pu.it_lst, Pu.it_rl, Pu.z_iSeq, Pu.z_iRng1, Pu.enQ_tup, Pu.enQ_lst, Pu.z_iEnum, Pu.zq1_ok, Pu.zq2_ok, Pu.z_iZip, Pu.foq_ok, Pu.z_for, Pu.for_nil, Pu.toq_nx, Pu.toq_ct, Pu.toq_bk, Pu.toq_rt, Pu.toq_pick, Pu.tgq_ok, Pu.lcq_ok, Pu.z_lc, Pu.lc_nil, Pu.wp_nil', Pu.wp_cons', Pu.z_body', Pu.finP_nx, Pu.finP_rt, Pu.finP_pick, Pu.y_add, Pu.y_sub, Pu.y_lt, Pu.y_le, Pu.y_gt, Pu.y_ge, Pu.y_eqI, Pu.y_eqS, Pu.y_neI, Pu.y_neS, Pu.y_lenT, Pu.y_lenL, Pu.y_lenR, Pu.y_int, Pu.y_intB, Pu.y_tupT, Pu.y_tupL, Pu.y_lstT, Pu.y_lstL, Pu.y_isii, Pu.y_isib, Pu.y_isss, Pu.y_istt, Pu.y_ixT, Pu.y_ixW, Pu.y_ixL, Pu.at_0, Pu.at_1, Pu.at_2, Pu.tp_non, Pu.tp_bl, Pu.tp_int, Pu.tp_tup, Pu.tp_lst, List.getElem?_cons_zero, List.getElem?_cons_succ, List.set_cons_zero, List.set_cons_succ, List.map_cons, List.map_nil, List.replicate_zero, List.replicate_succ, List.cons_append, List.nil_append, List.append_nil, List.length_cons, List.length_nil, Nat.sub_self, Bool.not_true, Bool.not_false, decide_true, decide_false, Nat.zero_add, Nat.add_one_sub_one, eq_self, sd_right, flipE]
    have : (n : Int) - 2 - (c.2 : Int) = ((n - 2 - c.2 : Nat) : Int) := by omega
    rw [this]⟩) r hr.2
  unfold p__law_mirror q__law_mirror rowV
  simp only [Vm.bind_some', Vm.pick_t, Vm.pick_f, Pu.gq_ok, Pu.z_var, Pu.z_c, Pu.wr_ok, Pu.bq1_ok, Pu.bq2_ok, Pu.z_bin, Pu.iq1_ok, Pu.z_if, Pu.z_ifS, Pu.z_nil, Pu.cq1_ok, Pu.cq2_ok, Pu.z_cons, Pu.fq1_ok, Pu.z_fn, Pu.z_tup, Pu.z_lst, Pu.tupQ_0, Pu.tupQ_1, Pu.tupQ_2, Pu.tupQ_3, Pu.lstQ_0, Pu.lstQ_1, Pu.lstQ_2, Pu.lstQ_3, Pu.lstQ_4, Pu.lstQ_5, Pu.lstQ_6, Pu.bq_ok, Pu.z_b, Pu.blQ_ok, Pu.z_bV, Pu.tq1_ok, Pu.tq2_ok, Pu.z_bT, Pu.aq1_ok, Pu.z_bAnd, Pu.oq1_ok, Pu.z_bOr, Pu.nq1_ok, Pu.z_bNot, Pu.z_yes, Pu.vq1_ok, Pu.vq2_ok, Pu.z_and, Pu.uq1_ok, Pu.uq2_ok, Pu.z_or, Pu.xq1_ok, Pu.xq2_ok, Pu.z_not, Pu.ngQ_ok, Pu.z_neg, Pu.kq3_ok, Pu.kq2_ok, Pu.kq1_ok, Pu.z_chain, Pu.z_oNone, Pu.osQ_ok, Pu.z_oSome, Pu.sq1_ok, Pu.sq2_ok, Pu.sq3_ok, Pu.z_slice, Pu.z_slT, Pu.z_slL, Pu.rvQ_ok, Pu.z_revT, Pu.r1Q_ok, Pu.z_rg1, Pu.z_tupR, Pu.z_lstR, Pu.lq1_ok, Pu.lq2_ok, Pu.lq3_ok, Pu.z_callL, Pu.nq_ok, Pu.z_fnK, Pu.qs_nx, Pu.qs_rt, Pu.qs_bk, Pu.qs_ct, Pu.qs_pick, Pu.z_seq, Pu.z_next, Pu.z_bk, Pu.z_ct, Pu.eq1_ok, Pu.z_expr, Pu.rq1_ok, Pu.z_ret, Pu.z_retN, Pu.gq1_ok, Pu.gq2_ok, Pu.z_asg, Pu.z_nm, Pu.z_gt, Pu.z_gw, Pu.z_gn, Pu.gcq_ok, Pu.z_gc, Pu.sbI_ok, Pu.sbJ_ok, Pu.sbO_ok, Pu.z_sub, Pu.puI_ok, Pu.z_put, Pu.apI_ok, Pu.z_append, Pu.pq1_ok, Pu.pq2_ok, Pu.z_par, Pu.p3q1_ok, Pu.p3q2_ok, Pu.p3q3_ok, Pu.z_par3, Pu.wq_ok, Pu.iqS_ok, Pu.it_tup, Pu.it_lst, Pu.it_rl, Pu.z_iSeq, Pu.z_iRng1, Pu.enQ_tup, Pu.enQ_lst, Pu.z_iEnum, Pu.zq1_ok, Pu.zq2_ok, Pu.z_iZip, Pu.foq_ok, Pu.z_for, Pu.for_nil, Pu.toq_nx, Pu.toq_ct, Pu.toq_bk, Pu.toq_rt, Pu.toq_pick, Pu.tgq_ok, Pu.lcq_ok, Pu.z_lc, Pu.lc_nil, Pu.wp_nil', Pu.wp_cons', Pu.z_body', Pu.finP_nx, Pu.finP_rt, Pu.finP_pick, Pu.y_add, Pu.y_sub, Pu.y_lt, Pu.y_le, Pu.y_gt, Pu.y_ge, Pu.y_eqI, Pu.y_eqS, Pu.y_neI, Pu.y_neS, Pu.y_lenT, Pu.y_lenL, Pu.y_lenR, Pu.y_int, Pu.y_intB, Pu.y_tupT, Pu.y_tupL, Pu.y_lstT, Pu.y_lstL, Pu.y_isii, Pu.y_isib, Pu.y_isss, Pu.y_istt, Pu.y_ixT, Pu.y_ixW, Pu.y_ixL, Pu.at_0, Pu.at_1, Pu.at_2, Pu.tp_non, Pu.tp_bl, Pu.tp_int, Pu.tp_tup, Pu.tp_lst, List.getElem?_cons_zero, List.getElem?_cons_succ, List.set_cons_zero, List.set_cons_succ, List.map_cons, List.map_nil, List.replicate_zero, List.replicate_succ, List.cons_append, List.nil_append, List.append_nil, List.length_cons, List.length_nil, Nat.sub_self, Bool.not_true, Bool.not_false, decide_true, decide_false, Nat.zero_add, Nat.add_one_sub_one, eq_self, lc, lcJ_ok (row_sz hr)]
  rfl
theorem w_like {w k : Nat} {p : P} (g : Gd w k p) (hk : k ≤ 12 := by decide) (hw : w ≤ 60000 := by decide) : p__law_like [p, p] s = some (.bl true, s) := by
  obtain ⟨x, e⟩ := gd_repr g hk hw
  have d : decide (x = x) = true := decide_eq_true rfl
  unfold p__law_like q__law_like
  simp only [Vm.bind_some', Vm.pick_t, Vm.pick_f, Pu.gq_ok, Pu.z_var, Pu.z_c, Pu.wr_ok, Pu.bq1_ok, Pu.bq2_ok, Pu.z_bin, Pu.iq1_ok, Pu.z_if, Pu.z_ifS, Pu.z_nil, Pu.cq1_ok, Pu.cq2_ok, Pu.z_cons, Pu.fq1_ok, Pu.z_fn, Pu.z_tup, Pu.z_lst, Pu.tupQ_0, Pu.tupQ_1, Pu.tupQ_2, Pu.tupQ_3, Pu.lstQ_0, Pu.lstQ_1, Pu.lstQ_2, Pu.lstQ_3, Pu.lstQ_4, Pu.lstQ_5, Pu.lstQ_6, Pu.bq_ok, Pu.z_b, Pu.blQ_ok, Pu.z_bV, Pu.tq1_ok, Pu.tq2_ok, Pu.z_bT, Pu.aq1_ok, Pu.z_bAnd, Pu.oq1_ok, Pu.z_bOr, Pu.nq1_ok, Pu.z_bNot, Pu.z_yes, Pu.vq1_ok, Pu.vq2_ok, Pu.z_and, Pu.uq1_ok, Pu.uq2_ok, Pu.z_or, Pu.xq1_ok, Pu.xq2_ok, Pu.z_not, Pu.ngQ_ok, Pu.z_neg, Pu.kq3_ok, Pu.kq2_ok, Pu.kq1_ok, Pu.z_chain, Pu.z_oNone, Pu.osQ_ok, Pu.z_oSome, Pu.sq1_ok, Pu.sq2_ok, Pu.sq3_ok, Pu.z_slice, Pu.z_slT, Pu.z_slL, Pu.rvQ_ok, Pu.z_revT, Pu.r1Q_ok, Pu.z_rg1, Pu.z_tupR, Pu.z_lstR, Pu.lq1_ok, Pu.lq2_ok, Pu.lq3_ok, Pu.z_callL, Pu.nq_ok, Pu.z_fnK, Pu.qs_nx, Pu.qs_rt, Pu.qs_bk, Pu.qs_ct, Pu.qs_pick, Pu.z_seq, Pu.z_next, Pu.z_bk, Pu.z_ct, Pu.eq1_ok, Pu.z_expr, Pu.rq1_ok, Pu.z_ret, Pu.z_retN, Pu.gq1_ok, Pu.gq2_ok, Pu.z_asg, Pu.z_nm, Pu.z_gt, Pu.z_gw, Pu.z_gn, Pu.gcq_ok, Pu.z_gc, Pu.sbI_ok, Pu.sbJ_ok, Pu.sbO_ok, Pu.z_sub, Pu.puI_ok, Pu.z_put, Pu.apI_ok, Pu.z_append, Pu.pq1_ok, Pu.pq2_ok, Pu.z_par, Pu.p3q1_ok, Pu.p3q2_ok, Pu.p3q3_ok, Pu.z_par3, Pu.wq_ok, Pu.iqS_ok, Pu.it_tup, Pu.it_lst, Pu.it_rl, Pu.z_iSeq, Pu.z_iRng1, Pu.enQ_tup, Pu.enQ_lst, Pu.z_iEnum, Pu.zq1_ok, Pu.zq2_ok, Pu.z_iZip, Pu.foq_ok, Pu.z_for, Pu.for_nil, Pu.toq_nx, Pu.toq_ct, Pu.toq_bk, Pu.toq_rt, Pu.toq_pick, Pu.tgq_ok, Pu.lcq_ok, Pu.z_lc, Pu.lc_nil, Pu.wp_nil', Pu.wp_cons', Pu.z_body', Pu.finP_nx, Pu.finP_rt, Pu.finP_pick, Pu.y_add, Pu.y_sub, Pu.y_lt, Pu.y_le, Pu.y_gt, Pu.y_ge, Pu.y_eqI, Pu.y_eqS, Pu.y_neI, Pu.y_neS, Pu.y_lenT, Pu.y_lenL, Pu.y_lenR, Pu.y_int, Pu.y_intB, Pu.y_tupT, Pu.y_tupL, Pu.y_lstT, Pu.y_lstL, Pu.y_isii, Pu.y_isib, Pu.y_isss, Pu.y_istt, Pu.y_ixT, Pu.y_ixW, Pu.y_ixL, Pu.at_0, Pu.at_1, Pu.at_2, Pu.tp_non, Pu.tp_bl, Pu.tp_int, Pu.tp_tup, Pu.tp_lst, List.getElem?_cons_zero, List.getElem?_cons_succ, List.set_cons_zero, List.set_cons_succ, List.map_cons, List.map_nil, List.replicate_zero, List.replicate_succ, List.cons_append, List.nil_append, List.append_nil, List.length_cons, List.length_nil, Nat.sub_self, Bool.not_true, Bool.not_false, decide_true, decide_false, Nat.zero_add, Nat.add_one_sub_one, eq_self, e, d]
end
end K01
namespace K01
open PySem PySem.Spec PyProof.Rows L2 Vm Pu Rw
section
variable {s : S} {n : Nat} {r : List (Bool × Nat)}
theorem swp_set {α : Type} : ∀ (l : List α) (p : Nat) (a b : α), l[p]? = some a → l[p + 1]? = some b → (l.set p b).set (p + 1) a = swp l p
  | [], _, _, _, h, _ => by simp at h
  | x :: xs, 0, a, b, h1, h2 => by
    cases xs with
    | nil => simp at h2
    | cons y ys => simp at h1 h2; subst h1 h2; rfl
  | x :: xs, p + 1, a, b, h1, h2 => by
    have := swp_set xs p a b (by simpa using h1) (by simpa using h2)
    simp [swp, ← this]
theorem store_ok {xs : List P} {k : Nat} {v : P} (h : k < xs.length) : pStoreL xs (.int (k : Int)) v = some (xs.set k v) := by
  show (ixN xs.length (k : Int)).bind _ = _
  rw [ixN_nat h]; rfl
theorem store_ok1 {xs : List P} {k : Nat} {v : P} (h : k + 1 < xs.length) : pStoreL xs (.int ((k : Int) + 1)) v = some (xs.set (k + 1) v) := by
  have := store_ok (v := v) h
  simpa using this
def lwV (n : Nat) (r : List (Bool × Nat)) : P := .lst ((way (List.range n) r).map fun l => .tup (nv l))
theorem swp_nv (l : List Nat) (p : Nat) : swp (nv l) p = nv (swp l p) := swp_map _ l p
theorem w_l_ways (h2 : n ≤ 5) (hr : Ok n r) : p__law_ways [.int n, rowV r] s = some (lwV n r, s) := by
  have lp : ∀ (r : List (Bool × Nat)) (l : List Nat) (acc : List P) (a b e4 e5 : Option P), (∀ c ∈ r, c.2 + 1 < l.length) → l.length ≤ 5 → acc.length + r.length < 100000 →
      ∃ f4 f5 l', forP (qGT (qGC (qNm 4) (qGC (qNm 5) qGN))) (qSeq (qAsg (qBin pAdd (qBin pAdd (qSlice (qVar 2) qoNone (qoSome (qVar 5))) (qLst (qCons (qBin pIx (qVar 2) (qBin pAdd (qVar 5) (qC (.int 1)))) (qCons (qBin pIx (qVar 2) (qVar 5)) qNil)))) (qSlice (qVar 2) (qoSome (qBin pAdd (qVar 5) (qC (.int 2)))) qoNone)) (qNm 2)) (qSeq (qAppend 3 (qB pTupleOf (qCons (qVar 2) qNil))) qNext)) (r.map crV) [a, b, some (.lst (nv l)), some (.lst (acc ++ [.tup (nv l)])), e4, e5] s
        = some (.nx [a, b, l', some (.lst (acc ++ (way l r).map fun l => .tup (nv l))), f4, f5] s) := by
    intro r
    induction r with
    | nil => intro l acc a b e4 e5 _ _ _; exact ⟨e4, e5, _, rfl⟩
    | cons c r ih =>
      intro l acc a b e4 e5 hc hz hl
      simp only [List.length_cons] at hl
      have h1 := hc c (by simp)
      obtain ⟨d, p⟩ := c
      simp only at h1
      have ga := at_nv (show p < l.length by omega)
      have gb := at_nv1 h1
      have hn : p + 1 < (nv l).length := by rw [nv_len]; exact h1
      have es := swp_eq (nv l) p _ _ (nv_get (show p < l.length by omega)) (nv_get h1)
      rw [swp_nv] at es
      have c1 := cutP_take (xs := nv l) (p := p) (by omega)
      have c2 := cutP_drop (xs := nv l) (p := p + 2) (by omega)
      have e2 : ((p : Int) + 2) = ((p + 2 : Nat) : Int) := by omega
      have nl := nv_len l
      have a1 : ∀ {u v : P}, pAdd (.lst ((nv l).take p)) (.lst [u, v]) = some (.lst ((nv l).take p ++ [u, v])) := fun {u v} => y_addL (by simp; omega)
      have a2 : ∀ {u v : P}, pAdd (.lst ((nv l).take p ++ [u, v])) (.lst ((nv l).drop (p + 2))) = some (.lst ((nv l).take p ++ [u, v] ++ (nv l).drop (p + 2))) := fun {u v} => y_addL (by simp; omega)
      obtain ⟨f4, f5, l', e⟩ := ih (swp l p) (acc ++ [.tup (nv l)]) a b (some (.str (sd d))) (some (.int (p : Int))) (fun x m => by rw [swp_len]; exact hc x (by simp [m])) (by rw [swp_len]; exact hz) (by simp; omega)
      refine ⟨f4, f5, l', ?_⟩
      have cr : crV (d, p) = .tup [.str (sd d), .int (p : Int)] := rfl
      rw [List.map_cons, for_cons, cr]
      have ap : ∀ (E4 E5 : Option P), apO 3 (.tup (nv (swp l p))) [a, b, some (.lst (nv (swp l p))), some (.lst (acc ++ [.tup (nv l)])), E4, E5] s (some (some (.lst (acc ++ [.tup (nv l)])))) = some (.nx [a, b, some (.lst (nv (swp l p))), some (.lst (acc ++ [.tup (nv l)] ++ [.tup (nv (swp l p))])), E4, E5] s) := fun E4 E5 => apO_ok (by simp; omega)
      simp only [Vm.bind_some', Vm.pick_t, Vm.pick_f, Pu.gq_ok, Pu.z_var, Pu.z_c, Pu.wr_ok, Pu.bq1_ok, Pu.bq2_ok, Pu.z_bin, Pu.iq1_ok, Pu.z_if, Pu.z_ifS, Pu.z_nil, Pu.cq1_ok, Pu.cq2_ok, Pu.z_cons, Pu.fq1_ok, Pu.z_fn, Pu.z_tup, Pu.z_lst, Pu.tupQ_0, Pu.tupQ_1, Pu.tupQ_2, Pu.tupQ_3, Pu.lstQ_0, Pu.lstQ_1, Pu.lstQ_2, Pu.lstQ_3, Pu.lstQ_4, Pu.lstQ_5, Pu.lstQ_6, Pu.bq_ok, Pu.z_b, Pu.blQ_ok, Pu.z_bV, Pu.tq1_ok, Pu.tq2_ok, Pu.z_bT, Pu.aq1_ok, Pu.z_bAnd, Pu.oq1_ok, Pu.z_bOr, Pu.nq1_ok, Pu.z_bNot, Pu.z_yes, Pu.vq1_ok, Pu.vq2_ok, Pu.z_and, Pu.uq1_ok, Pu.uq2_ok, Pu.z_or, Pu.xq1_ok, Pu.xq2_ok, Pu.z_not, Pu.ngQ_ok, Pu.z_neg, Pu.kq3_ok, Pu.kq2_ok, Pu.kq1_ok, Pu.z_chain, Pu.z_oNone, Pu.osQ_ok, Pu.z_oSome, Pu.sq1_ok, Pu.sq2_ok, Pu.sq3_ok, Pu.z_slice, Pu.z_slT, Pu.z_slL, Pu.rvQ_ok, Pu.z_revT, Pu.r1Q_ok, Pu.z_rg1, Pu.z_tupR, Pu.z_lstR, Pu.lq1_ok, Pu.lq2_ok, Pu.lq3_ok, Pu.z_callL, Pu.nq_ok, Pu.z_fnK, Pu.qs_nx, Pu.qs_rt, Pu.qs_bk, Pu.qs_ct, Pu.qs_pick, Pu.z_seq, Pu.z_next, Pu.z_bk, Pu.z_ct, Pu.eq1_ok, Pu.z_expr, Pu.rq1_ok, Pu.z_ret, Pu.z_retN, Pu.gq1_ok, Pu.gq2_ok, Pu.z_asg, Pu.z_nm, Pu.z_gt, Pu.z_gw, Pu.z_gn, Pu.gcq_ok, Pu.z_gc, Pu.sbI_ok, Pu.sbJ_ok, Pu.sbO_ok, Pu.z_sub, Pu.puI_ok, Pu.z_put, Pu.apI_ok, Pu.z_append, Pu.pq1_ok, Pu.pq2_ok, Pu.z_par, Pu.p3q1_ok, Pu.p3q2_ok, Pu.p3q3_ok, Pu.z_par3, Pu.wq_ok, Pu.iqS_ok, Pu.it_tup, Pu.it_lst, Pu.it_rl, Pu.z_iSeq, Pu.z_iRng1, Pu.enQ_tup, Pu.enQ_lst, Pu.z_iEnum, Pu.zq1_ok, Pu.zq2_ok, Pu.z_iZip, Pu.foq_ok, Pu.z_for, Pu.for_nil, Pu.toq_nx, Pu.toq_ct, Pu.toq_bk, Pu.toq_rt, Pu.toq_pick, Pu.tgq_ok, Pu.lcq_ok, Pu.z_lc, Pu.lc_nil, Pu.wp_nil', Pu.wp_cons', Pu.z_body', Pu.finP_nx, Pu.finP_rt, Pu.finP_pick, Pu.y_add, Pu.y_sub, Pu.y_lt, Pu.y_le, Pu.y_gt, Pu.y_ge, Pu.y_eqI, Pu.y_eqS, Pu.y_neI, Pu.y_neS, Pu.y_lenT, Pu.y_lenL, Pu.y_lenR, Pu.y_int, Pu.y_intB, Pu.y_tupT, Pu.y_tupL, Pu.y_lstT, Pu.y_lstL, Pu.y_isii, Pu.y_isib, Pu.y_isss, Pu.y_istt, Pu.y_ixT, Pu.y_ixW, Pu.y_ixL, Pu.at_0, Pu.at_1, Pu.at_2, Pu.tp_non, Pu.tp_bl, Pu.tp_int, Pu.tp_tup, Pu.tp_lst, List.getElem?_cons_zero, List.getElem?_cons_succ, List.set_cons_zero, List.set_cons_succ, List.map_cons, List.map_nil, List.replicate_zero, List.replicate_succ, List.cons_append, List.nil_append, List.append_nil, List.length_cons, List.length_nil, Nat.sub_self, Bool.not_true, Bool.not_false, decide_true, decide_false, Nat.zero_add, Nat.add_one_sub_one, eq_self, c1, gb, ga, a1, e2, c2, a2, es, ap, e]
      simp [way]
  obtain ⟨f4, f5, l', e⟩ := lp r (List.range n) [] (some (.int n)) (some (rowV r)) none none (by rw [List.length_range]; exact hr.2) (by rw [List.length_range]; exact h2) (by have := hr.1; simp; omega)
  rw [List.nil_append, List.nil_append] at e
  unfold p__law_ways q__law_ways
  simp only [Vm.bind_some', Vm.pick_t, Vm.pick_f, Pu.gq_ok, Pu.z_var, Pu.z_c, Pu.wr_ok, Pu.bq1_ok, Pu.bq2_ok, Pu.z_bin, Pu.iq1_ok, Pu.z_if, Pu.z_ifS, Pu.z_nil, Pu.cq1_ok, Pu.cq2_ok, Pu.z_cons, Pu.fq1_ok, Pu.z_fn, Pu.z_tup, Pu.z_lst, Pu.tupQ_0, Pu.tupQ_1, Pu.tupQ_2, Pu.tupQ_3, Pu.lstQ_0, Pu.lstQ_1, Pu.lstQ_2, Pu.lstQ_3, Pu.lstQ_4, Pu.lstQ_5, Pu.lstQ_6, Pu.bq_ok, Pu.z_b, Pu.blQ_ok, Pu.z_bV, Pu.tq1_ok, Pu.tq2_ok, Pu.z_bT, Pu.aq1_ok, Pu.z_bAnd, Pu.oq1_ok, Pu.z_bOr, Pu.nq1_ok, Pu.z_bNot, Pu.z_yes, Pu.vq1_ok, Pu.vq2_ok, Pu.z_and, Pu.uq1_ok, Pu.uq2_ok, Pu.z_or, Pu.xq1_ok, Pu.xq2_ok, Pu.z_not, Pu.ngQ_ok, Pu.z_neg, Pu.kq3_ok, Pu.kq2_ok, Pu.kq1_ok, Pu.z_chain, Pu.z_oNone, Pu.osQ_ok, Pu.z_oSome, Pu.sq1_ok, Pu.sq2_ok, Pu.sq3_ok, Pu.z_slice, Pu.z_slT, Pu.z_slL, Pu.rvQ_ok, Pu.z_revT, Pu.r1Q_ok, Pu.z_rg1, Pu.z_tupR, Pu.z_lstR, Pu.lq1_ok, Pu.lq2_ok, Pu.lq3_ok, Pu.z_callL, Pu.nq_ok, Pu.z_fnK, Pu.qs_nx, Pu.qs_rt, Pu.qs_bk, Pu.qs_ct, Pu.qs_pick, Pu.z_seq, Pu.z_next, Pu.z_bk, Pu.z_ct, Pu.eq1_ok, Pu.z_expr, Pu.rq1_ok, Pu.z_ret, Pu.z_retN, Pu.gq1_ok, Pu.gq2_ok, Pu.z_asg, Pu.z_nm, Pu.z_gt, Pu.z_gw, Pu.z_gn, Pu.gcq_ok, Pu.z_gc, Pu.sbI_ok, Pu.sbJ_ok, Pu.sbO_ok, Pu.z_sub, Pu.puI_ok, Pu.z_put, Pu.apI_ok, Pu.z_append, Pu.pq1_ok, Pu.pq2_ok, Pu.z_par, Pu.p3q1_ok, Pu.p3q2_ok, Pu.p3q3_ok, Pu.z_par3, Pu.wq_ok, Pu.iqS_ok, Pu.it_tup, Pu.it_lst, Pu.it_rl, Pu.z_iSeq, Pu.z_iRng1, Pu.enQ_tup, Pu.enQ_lst, Pu.z_iEnum, Pu.zq1_ok, Pu.zq2_ok, Pu.z_iZip, Pu.foq_ok, Pu.z_for, Pu.for_nil, Pu.toq_nx, Pu.toq_ct, Pu.toq_bk, Pu.toq_rt, Pu.toq_pick, Pu.tgq_ok, Pu.lcq_ok, Pu.z_lc, Pu.lc_nil, Pu.wp_nil', Pu.wp_cons', Pu.z_body', Pu.finP_nx, Pu.finP_rt, Pu.finP_pick, Pu.y_add, Pu.y_sub, Pu.y_lt, Pu.y_le, Pu.y_gt, Pu.y_ge, Pu.y_eqI, Pu.y_eqS, Pu.y_neI, Pu.y_neS, Pu.y_lenT, Pu.y_lenL, Pu.y_lenR, Pu.y_int, Pu.y_intB, Pu.y_tupT, Pu.y_tupL, Pu.y_lstT, Pu.y_lstL, Pu.y_isii, Pu.y_isib, Pu.y_isss, Pu.y_istt, Pu.y_ixT, Pu.y_ixW, Pu.y_ixL, Pu.at_0, Pu.at_1, Pu.at_2, Pu.tp_non, Pu.tp_bl, Pu.tp_int, Pu.tp_tup, Pu.tp_lst, List.getElem?_cons_zero, List.getElem?_cons_succ, List.set_cons_zero, List.set_cons_succ, List.map_cons, List.map_nil, List.replicate_zero, List.replicate_succ, List.cons_append, List.nil_append, List.append_nil, List.length_cons, List.length_nil, Nat.sub_self, Bool.not_true, Bool.not_false, decide_true, decide_false, Nat.zero_add, Nat.add_one_sub_one, eq_self, w_rangeL (show n ≤ 1000 by omega)]
  unfold rowV at *
  simp only [Vm.bind_some', Vm.pick_t, Vm.pick_f, Pu.gq_ok, Pu.z_var, Pu.z_c, Pu.wr_ok, Pu.bq1_ok, Pu.bq2_ok, Pu.z_bin, Pu.iq1_ok, Pu.z_if, Pu.z_ifS, Pu.z_nil, Pu.cq1_ok, Pu.cq2_ok, Pu.z_cons, Pu.fq1_ok, Pu.z_fn, Pu.z_tup, Pu.z_lst, Pu.tupQ_0, Pu.tupQ_1, Pu.tupQ_2, Pu.tupQ_3, Pu.lstQ_0, Pu.lstQ_1, Pu.lstQ_2, Pu.lstQ_3, Pu.lstQ_4, Pu.lstQ_5, Pu.lstQ_6, Pu.bq_ok, Pu.z_b, Pu.blQ_ok, Pu.z_bV, Pu.tq1_ok, Pu.tq2_ok, Pu.z_bT, Pu.aq1_ok, Pu.z_bAnd, Pu.oq1_ok, Pu.z_bOr, Pu.nq1_ok, Pu.z_bNot, Pu.z_yes, Pu.vq1_ok, Pu.vq2_ok, Pu.z_and, Pu.uq1_ok, Pu.uq2_ok, Pu.z_or, Pu.xq1_ok, Pu.xq2_ok, Pu.z_not, Pu.ngQ_ok, Pu.z_neg, Pu.kq3_ok, Pu.kq2_ok, Pu.kq1_ok, Pu.z_chain, Pu.z_oNone, Pu.osQ_ok, Pu.z_oSome, Pu.sq1_ok, Pu.sq2_ok, Pu.sq3_ok, Pu.z_slice, Pu.z_slT, Pu.z_slL, Pu.rvQ_ok, Pu.z_revT, Pu.r1Q_ok, Pu.z_rg1, Pu.z_tupR, Pu.z_lstR, Pu.lq1_ok, Pu.lq2_ok, Pu.lq3_ok, Pu.z_callL, Pu.nq_ok, Pu.z_fnK, Pu.qs_nx, Pu.qs_rt, Pu.qs_bk, Pu.qs_ct, Pu.qs_pick, Pu.z_seq, Pu.z_next, Pu.z_bk, Pu.z_ct, Pu.eq1_ok, Pu.z_expr, Pu.rq1_ok, Pu.z_ret, Pu.z_retN, Pu.gq1_ok, Pu.gq2_ok, Pu.z_asg, Pu.z_nm, Pu.z_gt, Pu.z_gw, Pu.z_gn, Pu.gcq_ok, Pu.z_gc, Pu.sbI_ok, Pu.sbJ_ok, Pu.sbO_ok, Pu.z_sub, Pu.puI_ok, Pu.z_put, Pu.apI_ok, Pu.z_append, Pu.pq1_ok, Pu.pq2_ok, Pu.z_par, Pu.p3q1_ok, Pu.p3q2_ok, Pu.p3q3_ok, Pu.z_par3, Pu.wq_ok, Pu.iqS_ok, Pu.it_tup, Pu.it_lst, Pu.it_rl, Pu.z_iSeq, Pu.z_iRng1, Pu.enQ_tup, Pu.enQ_lst, Pu.z_iEnum, Pu.zq1_ok, Pu.zq2_ok, Pu.z_iZip, Pu.foq_ok, Pu.z_for, Pu.for_nil, Pu.toq_nx, Pu.toq_ct, Pu.toq_bk, Pu.toq_rt, Pu.toq_pick, Pu.tgq_ok, Pu.lcq_ok, Pu.z_lc, Pu.lc_nil, Pu.wp_nil', Pu.wp_cons', Pu.z_body', Pu.finP_nx, Pu.finP_rt, Pu.finP_pick, Pu.y_add, Pu.y_sub, Pu.y_lt, Pu.y_le, Pu.y_gt, Pu.y_ge, Pu.y_eqI, Pu.y_eqS, Pu.y_neI, Pu.y_neS, Pu.y_lenT, Pu.y_lenL, Pu.y_lenR, Pu.y_int, Pu.y_intB, Pu.y_tupT, Pu.y_tupL, Pu.y_lstT, Pu.y_lstL, Pu.y_isii, Pu.y_isib, Pu.y_isss, Pu.y_istt, Pu.y_ixT, Pu.y_ixW, Pu.y_ixL, Pu.at_0, Pu.at_1, Pu.at_2, Pu.tp_non, Pu.tp_bl, Pu.tp_int, Pu.tp_tup, Pu.tp_lst, List.getElem?_cons_zero, List.getElem?_cons_succ, List.set_cons_zero, List.set_cons_succ, List.map_cons, List.map_nil, List.replicate_zero, List.replicate_succ, List.cons_append, List.nil_append, List.append_nil, List.length_cons, List.length_nil, Nat.sub_self, Bool.not_true, Bool.not_false, decide_true, decide_false, Nat.zero_add, Nat.add_one_sub_one, eq_self, e]
  rfl
def sgn (b : Bool) : Int := if b then 1 else -1
def mwV (m : Nat × Nat × Bool) : P := .tup [.int (m.1 : Int), .int (m.2.1 : Int), .int (sgn m.2.2)]
def wkV (n : Nat) (r : List (Bool × Nat)) : P := .tup [.lst ((mts (List.range n) r).map mwV), ordV n r]
theorem w_l_walk (h2 : n ≤ 5) (hr : Ok n r) : p__law_walk [.int n, rowV r] s = some (wkV n r, s) := by
  have lp : ∀ (r : List (Bool × Nat)) (l : List Nat) (acc : List P) (a b e4 e5 e6 e7 : Option P), (∀ c ∈ r, c.2 + 1 < l.length) → acc.length + r.length < 100000 →
      ∃ f4 f5 f6 f7, forP (qGT (qGC (qNm 4) (qGC (qNm 5) qGN))) (qSeq (qPar 6 7 (qBin pIx (qVar 2) (qVar 5)) (qBin pIx (qVar 2) (qBin pAdd (qVar 5) (qC (.int 1))))) (qSeq (qAppend 3 (qIf (qbV (qBin pEq (qVar 4) (qC (.str "left")))) (qTup (qCons (qVar 6) (qCons (qVar 7) (qCons (qC (.int 1)) qNil)))) (qTup (qCons (qVar 7) (qCons (qVar 6) (qCons (qNeg (qC (.int 1))) qNil)))))) (qSeq (qAsg (qTup (qCons (qVar 7) (qCons (qVar 6) qNil))) (qGT (qGC (qGSub 2 (qVar 5)) (qGC (qGSub 2 (qBin pAdd (qVar 5) (qC (.int 1)))) qGN)))) qNext))) (r.map crV) [a, b, some (.lst (nv l)), some (.lst acc), e4, e5, e6, e7] s
        = some (.nx [a, b, some (.lst (nv (back_ l r))), some (.lst (acc ++ (mts l r).map mwV)), f4, f5, f6, f7] s) := by
    intro r
    induction r with
    | nil => intro l acc a b e4 e5 e6 e7 _ _; exact ⟨e4, e5, e6, e7, by simp [mts, back_, for_nil]⟩
    | cons c r ih =>
      intro l acc a b e4 e5 e6 e7 hc hl
      simp only [List.length_cons] at hl
      have h1 := hc c (by simp)
      obtain ⟨d, p⟩ := c
      simp only at h1
      have ga := at_nv (show p < l.length by omega)
      have gb := at_nv1 h1
      have hn : p + 1 < (nv l).length := by rw [nv_len]; exact h1
      have s1 : ∀ v, pStoreL (nv l) (.int (p : Int)) v = some ((nv l).set p v) := fun v => store_ok (by omega)
      have s2 : ∀ u v, pStoreL ((nv l).set p u) (.int ((p : Int) + 1)) v = some (((nv l).set p u).set (p + 1) v) := fun u v => store_ok1 (by rw [List.length_set]; exact hn)
      have es := swp_set (nv l) p _ _ (nv_get (show p < l.length by omega)) (nv_get h1)
      rw [swp_nv] at es
      obtain ⟨f4, f5, f6, f7, e⟩ := ih (swp l p) (acc ++ [mwV (Rw.mt l (d, p))]) a b (some (.str (sd d))) (some (.int (p : Int))) (some (.int (l[p] : Nat))) (some (.int (l[p + 1] : Nat))) (fun x m => by rw [swp_len]; exact hc x (by simp [m])) (by simp; omega)
      refine ⟨f4, f5, f6, f7, ?_⟩
      have cr : crV (d, p) = .tup [.str (sd d), .int (p : Int)] := rfl
      rw [List.map_cons, for_cons, cr]
      have ap : ∀ (x : P) (E4 E5 E6 E7 : Option P), apO 3 x [a, b, some (.lst (nv l)), some (.lst acc), E4, E5, E6, E7] s (some (some (.lst acc))) = some (.nx [a, b, some (.lst (nv l)), some (.lst (acc ++ [x])), E4, E5, E6, E7] s) := fun x E4 E5 E6 E7 => apO_ok (by omega)
      cases d with
      | true =>
        have em : mwV (Rw.mt l (true, p)) = .tup [.int (l[p] : Nat), .int (l[p + 1] : Nat), .int 1] := by
          simp only [Rw.mt, mwV, if_true, getD_eq (show p < l.length by omega), getD_eq h1]; rfl
        rw [em] at e
        simp only [Vm.bind_some', Vm.pick_t, Vm.pick_f, Pu.gq_ok, Pu.z_var, Pu.z_c, Pu.wr_ok, Pu.bq1_ok, Pu.bq2_ok, Pu.z_bin, Pu.iq1_ok, Pu.z_if, Pu.z_ifS, Pu.z_nil, Pu.cq1_ok, Pu.cq2_ok, Pu.z_cons, Pu.fq1_ok, Pu.z_fn, Pu.z_tup, Pu.z_lst, Pu.tupQ_0, Pu.tupQ_1, Pu.tupQ_2, Pu.tupQ_3, Pu.lstQ_0, Pu.lstQ_1, Pu.lstQ_2, Pu.lstQ_3, Pu.lstQ_4, Pu.lstQ_5, Pu.lstQ_6, Pu.bq_ok, Pu.z_b, Pu.blQ_ok, Pu.z_bV, Pu.tq1_ok, Pu.tq2_ok, Pu.z_bT, Pu.aq1_ok, Pu.z_bAnd, Pu.oq1_ok, Pu.z_bOr, Pu.nq1_ok, Pu.z_bNot, Pu.z_yes, Pu.vq1_ok, Pu.vq2_ok, Pu.z_and, Pu.uq1_ok, Pu.uq2_ok, Pu.z_or, Pu.xq1_ok, Pu.xq2_ok, Pu.z_not, Pu.ngQ_ok, Pu.z_neg, Pu.kq3_ok, Pu.kq2_ok, Pu.kq1_ok, Pu.z_chain, Pu.z_oNone, Pu.osQ_ok, Pu.z_oSome, Pu.sq1_ok, Pu.sq2_ok, Pu.sq3_ok, Pu.z_slice, Pu.z_slT, Pu.z_slL, Pu.rvQ_ok, Pu.z_revT, Pu.r1Q_ok, Pu.z_rg1, Pu.z_tupR, Pu.z_lstR, Pu.lq1_ok, Pu.lq2_ok, Pu.lq3_ok, Pu.z_callL, Pu.nq_ok, Pu.z_fnK, Pu.qs_nx, Pu.qs_rt, Pu.qs_bk, Pu.qs_ct, Pu.qs_pick, Pu.z_seq, Pu.z_next, Pu.z_bk, Pu.z_ct, Pu.eq1_ok, Pu.z_expr, Pu.rq1_ok, Pu.z_ret, Pu.z_retN, Pu.gq1_ok, Pu.gq2_ok, Pu.z_asg, Pu.z_nm, Pu.z_gt, Pu.z_gw, Pu.z_gn, Pu.gcq_ok, Pu.z_gc, Pu.sbI_ok, Pu.sbJ_ok, Pu.sbO_ok, Pu.z_sub, Pu.puI_ok, Pu.z_put, Pu.apI_ok, Pu.z_append, Pu.pq1_ok, Pu.pq2_ok, Pu.z_par, Pu.p3q1_ok, Pu.p3q2_ok, Pu.p3q3_ok, Pu.z_par3, Pu.wq_ok, Pu.iqS_ok, Pu.it_tup, Pu.it_lst, Pu.it_rl, Pu.z_iSeq, Pu.z_iRng1, Pu.enQ_tup, Pu.enQ_lst, Pu.z_iEnum, Pu.zq1_ok, Pu.zq2_ok, Pu.z_iZip, Pu.foq_ok, Pu.z_for, Pu.for_nil, Pu.toq_nx, Pu.toq_ct, Pu.toq_bk, Pu.toq_rt, Pu.toq_pick, Pu.tgq_ok, Pu.lcq_ok, Pu.z_lc, Pu.lc_nil, Pu.wp_nil', Pu.wp_cons', Pu.z_body', Pu.finP_nx, Pu.finP_rt, Pu.finP_pick, Pu.y_add, Pu.y_sub, Pu.y_lt, Pu.y_le, Pu.y_gt, Pu.y_ge, Pu.y_eqI, Pu.y_eqS, Pu.y_neI, Pu.y_neS, Pu.y_lenT, Pu.y_lenL, Pu.y_lenR, Pu.y_int, Pu.y_intB, Pu.y_tupT, Pu.y_tupL, Pu.y_lstT, Pu.y_lstL, Pu.y_isii, Pu.y_isib, Pu.y_isss, Pu.y_istt, Pu.y_ixT, Pu.y_ixW, Pu.y_ixL, Pu.at_0, Pu.at_1, Pu.at_2, Pu.tp_non, Pu.tp_bl, Pu.tp_int, Pu.tp_tup, Pu.tp_lst, List.getElem?_cons_zero, List.getElem?_cons_succ, List.set_cons_zero, List.set_cons_succ, List.map_cons, List.map_nil, List.replicate_zero, List.replicate_succ, List.cons_append, List.nil_append, List.append_nil, List.length_cons, List.length_nil, Nat.sub_self, Bool.not_true, Bool.not_false, decide_true, decide_false, Nat.zero_add, Nat.add_one_sub_one, eq_self, ga, gb, sd_left, ap, s1, s2, es, e]
        simp [mts, em, back_]
      | false =>
        have em : mwV (Rw.mt l (false, p)) = .tup [.int (l[p + 1] : Nat), .int (l[p] : Nat), .int (-1)] := by
          simp only [Rw.mt, mwV, Bool.false_eq_true, if_false, getD_eq (show p < l.length by omega), getD_eq h1]; rfl
        rw [em] at e
        simp only [Vm.bind_some', Vm.pick_t, Vm.pick_f, Pu.gq_ok, Pu.z_var, Pu.z_c, Pu.wr_ok, Pu.bq1_ok, Pu.bq2_ok, Pu.z_bin, Pu.iq1_ok, Pu.z_if, Pu.z_ifS, Pu.z_nil, Pu.cq1_ok, Pu.cq2_ok, Pu.z_cons, Pu.fq1_ok, Pu.z_fn, Pu.z_tup, Pu.z_lst, Pu.tupQ_0, Pu.tupQ_1, Pu.tupQ_2, Pu.tupQ_3, Pu.lstQ_0, Pu.lstQ_1, Pu.lstQ_2, Pu.lstQ_3, Pu.lstQ_4, Pu.lstQ_5, Pu.lstQ_6, Pu.bq_ok, Pu.z_b, Pu.blQ_ok, Pu.z_bV, Pu.tq1_ok, Pu.tq2_ok, Pu.z_bT, Pu.aq1_ok, Pu.z_bAnd, Pu.oq1_ok, Pu.z_bOr, Pu.nq1_ok, Pu.z_bNot, Pu.z_yes, Pu.vq1_ok, Pu.vq2_ok, Pu.z_and, Pu.uq1_ok, Pu.uq2_ok, Pu.z_or, Pu.xq1_ok, Pu.xq2_ok, Pu.z_not, Pu.ngQ_ok, Pu.z_neg, Pu.kq3_ok, Pu.kq2_ok, Pu.kq1_ok, Pu.z_chain, Pu.z_oNone, Pu.osQ_ok, Pu.z_oSome, Pu.sq1_ok, Pu.sq2_ok, Pu.sq3_ok, Pu.z_slice, Pu.z_slT, Pu.z_slL, Pu.rvQ_ok, Pu.z_revT, Pu.r1Q_ok, Pu.z_rg1, Pu.z_tupR, Pu.z_lstR, Pu.lq1_ok, Pu.lq2_ok, Pu.lq3_ok, Pu.z_callL, Pu.nq_ok, Pu.z_fnK, Pu.qs_nx, Pu.qs_rt, Pu.qs_bk, Pu.qs_ct, Pu.qs_pick, Pu.z_seq, Pu.z_next, Pu.z_bk, Pu.z_ct, Pu.eq1_ok, Pu.z_expr, Pu.rq1_ok, Pu.z_ret, Pu.z_retN, Pu.gq1_ok, Pu.gq2_ok, Pu.z_asg, Pu.z_nm, Pu.z_gt, Pu.z_gw, Pu.z_gn, Pu.gcq_ok, Pu.z_gc, Pu.sbI_ok, Pu.sbJ_ok, Pu.sbO_ok, Pu.z_sub, Pu.puI_ok, Pu.z_put, Pu.apI_ok, Pu.z_append, Pu.pq1_ok, Pu.pq2_ok, Pu.z_par, Pu.p3q1_ok, Pu.p3q2_ok, Pu.p3q3_ok, Pu.z_par3, Pu.wq_ok, Pu.iqS_ok, Pu.it_tup, Pu.it_lst, Pu.it_rl, Pu.z_iSeq, Pu.z_iRng1, Pu.enQ_tup, Pu.enQ_lst, Pu.z_iEnum, Pu.zq1_ok, Pu.zq2_ok, Pu.z_iZip, Pu.foq_ok, Pu.z_for, Pu.for_nil, Pu.toq_nx, Pu.toq_ct, Pu.toq_bk, Pu.toq_rt, Pu.toq_pick, Pu.tgq_ok, Pu.lcq_ok, Pu.z_lc, Pu.lc_nil, Pu.wp_nil', Pu.wp_cons', Pu.z_body', Pu.finP_nx, Pu.finP_rt, Pu.finP_pick, Pu.y_add, Pu.y_sub, Pu.y_lt, Pu.y_le, Pu.y_gt, Pu.y_ge, Pu.y_eqI, Pu.y_eqS, Pu.y_neI, Pu.y_neS, Pu.y_lenT, Pu.y_lenL, Pu.y_lenR, Pu.y_int, Pu.y_intB, Pu.y_tupT, Pu.y_tupL, Pu.y_lstT, Pu.y_lstL, Pu.y_isii, Pu.y_isib, Pu.y_isss, Pu.y_istt, Pu.y_ixT, Pu.y_ixW, Pu.y_ixL, Pu.at_0, Pu.at_1, Pu.at_2, Pu.tp_non, Pu.tp_bl, Pu.tp_int, Pu.tp_tup, Pu.tp_lst, List.getElem?_cons_zero, List.getElem?_cons_succ, List.set_cons_zero, List.set_cons_succ, List.map_cons, List.map_nil, List.replicate_zero, List.replicate_succ, List.cons_append, List.nil_append, List.append_nil, List.length_cons, List.length_nil, Nat.sub_self, Bool.not_true, Bool.not_false, decide_true, decide_false, Nat.zero_add, Nat.add_one_sub_one, eq_self, ga, gb, sd_left, ap, s1, s2, es, e]
        simp [mts, em, back_]
  obtain ⟨f4, f5, f6, f7, e⟩ := lp r (List.range n) [] (some (.int n)) (some (rowV r)) none none none none (by rw [List.length_range]; exact hr.2) (by have := hr.1; simp; omega)
  rw [List.nil_append] at e
  unfold p__law_walk q__law_walk
  simp only [Vm.bind_some', Vm.pick_t, Vm.pick_f, Pu.gq_ok, Pu.z_var, Pu.z_c, Pu.wr_ok, Pu.bq1_ok, Pu.bq2_ok, Pu.z_bin, Pu.iq1_ok, Pu.z_if, Pu.z_ifS, Pu.z_nil, Pu.cq1_ok, Pu.cq2_ok, Pu.z_cons, Pu.fq1_ok, Pu.z_fn, Pu.z_tup, Pu.z_lst, Pu.tupQ_0, Pu.tupQ_1, Pu.tupQ_2, Pu.tupQ_3, Pu.lstQ_0, Pu.lstQ_1, Pu.lstQ_2, Pu.lstQ_3, Pu.lstQ_4, Pu.lstQ_5, Pu.lstQ_6, Pu.bq_ok, Pu.z_b, Pu.blQ_ok, Pu.z_bV, Pu.tq1_ok, Pu.tq2_ok, Pu.z_bT, Pu.aq1_ok, Pu.z_bAnd, Pu.oq1_ok, Pu.z_bOr, Pu.nq1_ok, Pu.z_bNot, Pu.z_yes, Pu.vq1_ok, Pu.vq2_ok, Pu.z_and, Pu.uq1_ok, Pu.uq2_ok, Pu.z_or, Pu.xq1_ok, Pu.xq2_ok, Pu.z_not, Pu.ngQ_ok, Pu.z_neg, Pu.kq3_ok, Pu.kq2_ok, Pu.kq1_ok, Pu.z_chain, Pu.z_oNone, Pu.osQ_ok, Pu.z_oSome, Pu.sq1_ok, Pu.sq2_ok, Pu.sq3_ok, Pu.z_slice, Pu.z_slT, Pu.z_slL, Pu.rvQ_ok, Pu.z_revT, Pu.r1Q_ok, Pu.z_rg1, Pu.z_tupR, Pu.z_lstR, Pu.lq1_ok, Pu.lq2_ok, Pu.lq3_ok, Pu.z_callL, Pu.nq_ok, Pu.z_fnK, Pu.qs_nx, Pu.qs_rt, Pu.qs_bk, Pu.qs_ct, Pu.qs_pick, Pu.z_seq, Pu.z_next, Pu.z_bk, Pu.z_ct, Pu.eq1_ok, Pu.z_expr, Pu.rq1_ok, Pu.z_ret, Pu.z_retN, Pu.gq1_ok, Pu.gq2_ok, Pu.z_asg, Pu.z_nm, Pu.z_gt, Pu.z_gw, Pu.z_gn, Pu.gcq_ok, Pu.z_gc, Pu.sbI_ok, Pu.sbJ_ok, Pu.sbO_ok, Pu.z_sub, Pu.puI_ok, Pu.z_put, Pu.apI_ok, Pu.z_append, Pu.pq1_ok, Pu.pq2_ok, Pu.z_par, Pu.p3q1_ok, Pu.p3q2_ok, Pu.p3q3_ok, Pu.z_par3, Pu.wq_ok, Pu.iqS_ok, Pu.it_tup, Pu.it_lst, Pu.it_rl, Pu.z_iSeq, Pu.z_iRng1, Pu.enQ_tup, Pu.enQ_lst, Pu.z_iEnum, Pu.zq1_ok, Pu.zq2_ok, Pu.z_iZip, Pu.foq_ok, Pu.z_for, Pu.for_nil, Pu.toq_nx, Pu.toq_ct, Pu.toq_bk, Pu.toq_rt, Pu.toq_pick, Pu.tgq_ok, Pu.lcq_ok, Pu.z_lc, Pu.lc_nil, Pu.wp_nil', Pu.wp_cons', Pu.z_body', Pu.finP_nx, Pu.finP_rt, Pu.finP_pick, Pu.y_add, Pu.y_sub, Pu.y_lt, Pu.y_le, Pu.y_gt, Pu.y_ge, Pu.y_eqI, Pu.y_eqS, Pu.y_neI, Pu.y_neS, Pu.y_lenT, Pu.y_lenL, Pu.y_lenR, Pu.y_int, Pu.y_intB, Pu.y_tupT, Pu.y_tupL, Pu.y_lstT, Pu.y_lstL, Pu.y_isii, Pu.y_isib, Pu.y_isss, Pu.y_istt, Pu.y_ixT, Pu.y_ixW, Pu.y_ixL, Pu.at_0, Pu.at_1, Pu.at_2, Pu.tp_non, Pu.tp_bl, Pu.tp_int, Pu.tp_tup, Pu.tp_lst, List.getElem?_cons_zero, List.getElem?_cons_succ, List.set_cons_zero, List.set_cons_succ, List.map_cons, List.map_nil, List.replicate_zero, List.replicate_succ, List.cons_append, List.nil_append, List.append_nil, List.length_cons, List.length_nil, Nat.sub_self, Bool.not_true, Bool.not_false, decide_true, decide_false, Nat.zero_add, Nat.add_one_sub_one, eq_self, w_rangeL (show n ≤ 1000 by omega)]
  unfold rowV at *
  simp only [Vm.bind_some', Vm.pick_t, Vm.pick_f, Pu.gq_ok, Pu.z_var, Pu.z_c, Pu.wr_ok, Pu.bq1_ok, Pu.bq2_ok, Pu.z_bin, Pu.iq1_ok, Pu.z_if, Pu.z_ifS, Pu.z_nil, Pu.cq1_ok, Pu.cq2_ok, Pu.z_cons, Pu.fq1_ok, Pu.z_fn, Pu.z_tup, Pu.z_lst, Pu.tupQ_0, Pu.tupQ_1, Pu.tupQ_2, Pu.tupQ_3, Pu.lstQ_0, Pu.lstQ_1, Pu.lstQ_2, Pu.lstQ_3, Pu.lstQ_4, Pu.lstQ_5, Pu.lstQ_6, Pu.bq_ok, Pu.z_b, Pu.blQ_ok, Pu.z_bV, Pu.tq1_ok, Pu.tq2_ok, Pu.z_bT, Pu.aq1_ok, Pu.z_bAnd, Pu.oq1_ok, Pu.z_bOr, Pu.nq1_ok, Pu.z_bNot, Pu.z_yes, Pu.vq1_ok, Pu.vq2_ok, Pu.z_and, Pu.uq1_ok, Pu.uq2_ok, Pu.z_or, Pu.xq1_ok, Pu.xq2_ok, Pu.z_not, Pu.ngQ_ok, Pu.z_neg, Pu.kq3_ok, Pu.kq2_ok, Pu.kq1_ok, Pu.z_chain, Pu.z_oNone, Pu.osQ_ok, Pu.z_oSome, Pu.sq1_ok, Pu.sq2_ok, Pu.sq3_ok, Pu.z_slice, Pu.z_slT, Pu.z_slL, Pu.rvQ_ok, Pu.z_revT, Pu.r1Q_ok, Pu.z_rg1, Pu.z_tupR, Pu.z_lstR, Pu.lq1_ok, Pu.lq2_ok, Pu.lq3_ok, Pu.z_callL, Pu.nq_ok, Pu.z_fnK, Pu.qs_nx, Pu.qs_rt, Pu.qs_bk, Pu.qs_ct, Pu.qs_pick, Pu.z_seq, Pu.z_next, Pu.z_bk, Pu.z_ct, Pu.eq1_ok, Pu.z_expr, Pu.rq1_ok, Pu.z_ret, Pu.z_retN, Pu.gq1_ok, Pu.gq2_ok, Pu.z_asg, Pu.z_nm, Pu.z_gt, Pu.z_gw, Pu.z_gn, Pu.gcq_ok, Pu.z_gc, Pu.sbI_ok, Pu.sbJ_ok, Pu.sbO_ok, Pu.z_sub, Pu.puI_ok, Pu.z_put, Pu.apI_ok, Pu.z_append, Pu.pq1_ok, Pu.pq2_ok, Pu.z_par, Pu.p3q1_ok, Pu.p3q2_ok, Pu.p3q3_ok, Pu.z_par3, Pu.wq_ok, Pu.iqS_ok, Pu.it_tup, Pu.it_lst, Pu.it_rl, Pu.z_iSeq, Pu.z_iRng1, Pu.enQ_tup, Pu.enQ_lst, Pu.z_iEnum, Pu.zq1_ok, Pu.zq2_ok, Pu.z_iZip, Pu.foq_ok, Pu.z_for, Pu.for_nil, Pu.toq_nx, Pu.toq_ct, Pu.toq_bk, Pu.toq_rt, Pu.toq_pick, Pu.tgq_ok, Pu.lcq_ok, Pu.z_lc, Pu.lc_nil, Pu.wp_nil', Pu.wp_cons', Pu.z_body', Pu.finP_nx, Pu.finP_rt, Pu.finP_pick, Pu.y_add, Pu.y_sub, Pu.y_lt, Pu.y_le, Pu.y_gt, Pu.y_ge, Pu.y_eqI, Pu.y_eqS, Pu.y_neI, Pu.y_neS, Pu.y_lenT, Pu.y_lenL, Pu.y_lenR, Pu.y_int, Pu.y_intB, Pu.y_tupT, Pu.y_tupL, Pu.y_lstT, Pu.y_lstL, Pu.y_isii, Pu.y_isib, Pu.y_isss, Pu.y_istt, Pu.y_ixT, Pu.y_ixW, Pu.y_ixL, Pu.at_0, Pu.at_1, Pu.at_2, Pu.tp_non, Pu.tp_bl, Pu.tp_int, Pu.tp_tup, Pu.tp_lst, List.getElem?_cons_zero, List.getElem?_cons_succ, List.set_cons_zero, List.set_cons_succ, List.map_cons, List.map_nil, List.replicate_zero, List.replicate_succ, List.cons_append, List.nil_append, List.append_nil, List.length_cons, List.length_nil, Nat.sub_self, Bool.not_true, Bool.not_false, decide_true, decide_false, Nat.zero_add, Nat.add_one_sub_one, eq_self, e]
  rfl
theorem cnt_le {a b : Nat} (hr : Ok n r) : cnt n r a b ≤ 60 := by
  unfold Rw.cnt
  have h := List.length_filter_le (among a b) (mts (List.range n) r)
  rw [mts_len] at h
  have := hr.1
  omega
theorem rgQ_nv (h : n ≤ 1000) : rgQ (.int (n : Int), s) = some (nv (List.range n), s) := by rw [rgQ_n h, prng_nv]
/-- a walk whose turns all go on with whatever lies in the loop's own names -/
theorem for_all {α : Type} {g : PGM} {b : PSM} {f : α → P} {Q : PEn → Prop} : ∀ (xs : List α) (pe : PEn), Q pe → (∀ x ∈ xs, ∀ pe, Q pe → ∃ pe', tgq (g (f x) pe s) b = some (.nx pe' s) ∧ Q pe') → ∃ pe', forP g b (xs.map f) pe s = some (.nx pe' s) ∧ Q pe'
  | [], pe, q, _ => ⟨pe, rfl, q⟩
  | x :: xs, pe, q, h => by
    obtain ⟨pe1, e1, q1⟩ := h x (by simp) pe q
    obtain ⟨pe2, e2, q2⟩ := for_all (g := g) (b := b) (f := f) (Q := Q) xs pe1 q1 fun y m => h y (by simp [m])
    exact ⟨pe2, by rw [List.map_cons, for_cons, e1]; exact e2, q2⟩
theorem w_crossed_right (h1 : 2 ≤ n) (h2 : n ≤ 5) (hr : Ok n r) : p__law_crossed_right [.int n, rowV r, .lst ((mts (List.range n) r).map mwV)] s = some (.bl true, s) := by
  have sz : (mts (List.range n) r).length ≤ 1000000 := by rw [mts_len]; have := hr.1; omega
  unfold p__law_crossed_right q__law_crossed_right
  obtain ⟨pe', e, -⟩ := for_all (s := s) (f := fun (i : Nat) => P.int (i : Int)) (g := qNm 3) (b := qSeq (qFor (qiRng1 (qVar 0)) (qNm 4) (qSeq (qIfS (qbV (qBin pNe (qVar 3) (qVar 4))) (qSeq (qAsg (qB pLen (qCons (qLc (qiSeq (qVar 2)) [6] (qNm 6) (qbV (qBin pIn (qTup (qCons (qBin pIx (qVar 6) (qC (.int 0))) (qCons (qBin pIx (qVar 6) (qC (.int 1))) qNil))) (qTup (qCons (qTup (qCons (qVar 3) (qCons (qVar 4) qNil))) (qCons (qTup (qCons (qVar 4) (qCons (qVar 3) qNil))) qNil))))) (qVar 6)) qNil)) (qNm 5)) (qSeq (qIfS (qbNot (qbT (qFn p__law_like (qCons (qFn p_crossed (qCons (qVar 0) (qCons (qVar 1) (qCons (qVar 3) (qCons (qVar 4) qNil))))) (qCons (qVar 5) qNil))))) (qSeq (qRet (qC (.bl false))) qNext) qNext) qNext)) qNext) qNext)) qNext)
      (Q := fun pe => ∃ a b c d, pe = [some (.int n), some (rowV r), some (.lst ((mts (List.range n) r).map mwV)), a, b, c, d]) (List.range n) [some (.int n), some (rowV r), some (.lst ((mts (List.range n) r).map mwV)), none, none, none, none] ⟨_, _, _, _, rfl⟩ (by
    rintro a ha pe ⟨e3, e4, e5, e6, rfl⟩
    have ha := List.mem_range.mp ha
    obtain ⟨pe', e, a', b', c', d', q⟩ := for_all (s := s) (f := fun (i : Nat) => P.int (i : Int)) (g := qNm 4) (b := qSeq (qIfS (qbV (qBin pNe (qVar 3) (qVar 4))) (qSeq (qAsg (qB pLen (qCons (qLc (qiSeq (qVar 2)) [6] (qNm 6) (qbV (qBin pIn (qTup (qCons (qBin pIx (qVar 6) (qC (.int 0))) (qCons (qBin pIx (qVar 6) (qC (.int 1))) qNil))) (qTup (qCons (qTup (qCons (qVar 3) (qCons (qVar 4) qNil))) (qCons (qTup (qCons (qVar 4) (qCons (qVar 3) qNil))) qNil))))) (qVar 6)) qNil)) (qNm 5)) (qSeq (qIfS (qbNot (qbT (qFn p__law_like (qCons (qFn p_crossed (qCons (qVar 0) (qCons (qVar 1) (qCons (qVar 3) (qCons (qVar 4) qNil))))) (qCons (qVar 5) qNil))))) (qSeq (qRet (qC (.bl false))) qNext) qNext) qNext)) qNext) qNext)
      (Q := fun pe => ∃ a' b c d, pe = [some (.int n), some (rowV r), some (.lst ((mts (List.range n) r).map mwV)), a', b, c, d] ∧ a' = some (.int (a : Int))) (List.range n) [some (.int n), some (rowV r), some (.lst ((mts (List.range n) r).map mwV)), some (.int (a : Int)), e4, e5, e6] ⟨_, _, _, _, rfl, rfl⟩ (by
      rintro b hb pe ⟨f3, f4, f5, f6, rfl, rfl⟩
      have hb := List.mem_range.mp hb
      by_cases hab : a = b
      · subst hab
        have d : decide ((a : Int) = (a : Int)) = true := decide_eq_true rfl
        refine ⟨_, ?_, some (.int (a : Int)), some (.int (a : Int)), f5, f6, rfl, rfl⟩
        simp only [Vm.bind_some', Vm.pick_t, Vm.pick_f, Pu.gq_ok, Pu.z_var, Pu.z_c, Pu.wr_ok, Pu.bq1_ok, Pu.bq2_ok, Pu.z_bin, Pu.iq1_ok, Pu.z_if, Pu.z_ifS, Pu.z_nil, Pu.cq1_ok, Pu.cq2_ok, Pu.z_cons, Pu.fq1_ok, Pu.z_fn, Pu.z_tup, Pu.z_lst, Pu.tupQ_0, Pu.tupQ_1, Pu.tupQ_2, Pu.tupQ_3, Pu.lstQ_0, Pu.lstQ_1, Pu.lstQ_2, Pu.lstQ_3, Pu.lstQ_4, Pu.lstQ_5, Pu.lstQ_6, Pu.bq_ok, Pu.z_b, Pu.blQ_ok, Pu.z_bV, Pu.tq1_ok, Pu.tq2_ok, Pu.z_bT, Pu.aq1_ok, Pu.z_bAnd, Pu.oq1_ok, Pu.z_bOr, Pu.nq1_ok, Pu.z_bNot, Pu.z_yes, Pu.vq1_ok, Pu.vq2_ok, Pu.z_and, Pu.uq1_ok, Pu.uq2_ok, Pu.z_or, Pu.xq1_ok, Pu.xq2_ok, Pu.z_not, Pu.ngQ_ok, Pu.z_neg, Pu.kq3_ok, Pu.kq2_ok, Pu.kq1_ok, Pu.z_chain, Pu.z_oNone, Pu.osQ_ok, Pu.z_oSome, Pu.sq1_ok, Pu.sq2_ok, Pu.sq3_ok, Pu.z_slice, Pu.z_slT, Pu.z_slL, Pu.rvQ_ok, Pu.z_revT, Pu.r1Q_ok, Pu.z_rg1, Pu.z_tupR, Pu.z_lstR, Pu.lq1_ok, Pu.lq2_ok, Pu.lq3_ok, Pu.z_callL, Pu.nq_ok, Pu.z_fnK, Pu.qs_nx, Pu.qs_rt, Pu.qs_bk, Pu.qs_ct, Pu.qs_pick, Pu.z_seq, Pu.z_next, Pu.z_bk, Pu.z_ct, Pu.eq1_ok, Pu.z_expr, Pu.rq1_ok, Pu.z_ret, Pu.z_retN, Pu.gq1_ok, Pu.gq2_ok, Pu.z_asg, Pu.z_nm, Pu.z_gt, Pu.z_gw, Pu.z_gn, Pu.gcq_ok, Pu.z_gc, Pu.sbI_ok, Pu.sbJ_ok, Pu.sbO_ok, Pu.z_sub, Pu.puI_ok, Pu.z_put, Pu.apI_ok, Pu.z_append, Pu.pq1_ok, Pu.pq2_ok, Pu.z_par, Pu.p3q1_ok, Pu.p3q2_ok, Pu.p3q3_ok, Pu.z_par3, Pu.wq_ok, Pu.iqS_ok, Pu.it_tup, Pu.it_lst, Pu.it_rl, Pu.z_iSeq, Pu.z_iRng1, Pu.enQ_tup, Pu.enQ_lst, Pu.z_iEnum, Pu.zq1_ok, Pu.zq2_ok, Pu.z_iZip, Pu.foq_ok, Pu.z_for, Pu.for_nil, Pu.toq_nx, Pu.toq_ct, Pu.toq_bk, Pu.toq_rt, Pu.toq_pick, Pu.tgq_ok, Pu.lcq_ok, Pu.z_lc, Pu.lc_nil, Pu.wp_nil', Pu.wp_cons', Pu.z_body', Pu.finP_nx, Pu.finP_rt, Pu.finP_pick, Pu.y_add, Pu.y_sub, Pu.y_lt, Pu.y_le, Pu.y_gt, Pu.y_ge, Pu.y_eqI, Pu.y_eqS, Pu.y_neI, Pu.y_neS, Pu.y_lenT, Pu.y_lenL, Pu.y_lenR, Pu.y_int, Pu.y_intB, Pu.y_tupT, Pu.y_tupL, Pu.y_lstT, Pu.y_lstL, Pu.y_isii, Pu.y_isib, Pu.y_isss, Pu.y_istt, Pu.y_ixT, Pu.y_ixW, Pu.y_ixL, Pu.at_0, Pu.at_1, Pu.at_2, Pu.tp_non, Pu.tp_bl, Pu.tp_int, Pu.tp_tup, Pu.tp_lst, List.getElem?_cons_zero, List.getElem?_cons_succ, List.set_cons_zero, List.set_cons_succ, List.map_cons, List.map_nil, List.replicate_zero, List.replicate_succ, List.cons_append, List.nil_append, List.append_nil, List.length_cons, List.length_nil, Nat.sub_self, Bool.not_true, Bool.not_false, decide_true, decide_false, Nat.zero_add, Nat.add_one_sub_one, eq_self, d]
      · have d : decide ((a : Int) = (b : Int)) = false := decide_eq_false (by omega)
        have lc : lcP [6] (qNm 6) (qbV (qBin pIn (qTup (qCons (qBin pIx (qVar 6) (qC (.int 0))) (qCons (qBin pIx (qVar 6) (qC (.int 1))) qNil))) (qTup (qCons (qTup (qCons (qVar 3) (qCons (qVar 4) qNil))) (qCons (qTup (qCons (qVar 4) (qCons (qVar 3) qNil))) qNil))))) (qVar 6)
            [some (.int n), some (rowV r), some (.lst ((mts (List.range n) r).map mwV)), some (.int (a : Int)), some (.int (b : Int)), f5, f6] ((mts (List.range n) r).map mwV) s = some (((mts (List.range n) r).filter (among a b)).map mwV, s) :=
          lc_some _ fun m _ => ⟨_, rfl, by
            have mw : mwV m = .tup [.int (m.1 : Int), .int (m.2.1 : Int), .int (sgn m.2.2)] := rfl
            simp only [Vm.bind_some', Vm.pick_t, Vm.pick_f, Pu.gq_ok, Pu.z_var, Pu.z_c, Pu.wr_ok, Pu.bq1_ok, Pu.bq2_ok, Pu.z_bin, Pu.iq1_ok, Pu.z_if, Pu.z_ifS, Pu.z_nil, Pu.cq1_ok, Pu.cq2_ok, Pu.z_cons, Pu.fq1_ok, Pu.z_fn, Pu.z_tup, Pu.z_lst, Pu.tupQ_0, Pu.tupQ_1, Pu.tupQ_2, Pu.tupQ_3, Pu.lstQ_0, Pu.lstQ_1, Pu.lstQ_2, Pu.lstQ_3, Pu.lstQ_4, Pu.lstQ_5, Pu.lstQ_6, Pu.bq_ok, Pu.z_b, Pu.blQ_ok, Pu.z_bV, Pu.tq1_ok, Pu.tq2_ok, Pu.z_bT, Pu.aq1_ok, Pu.z_bAnd, Pu.oq1_ok, Pu.z_bOr, Pu.nq1_ok, Pu.z_bNot, Pu.z_yes, Pu.vq1_ok, Pu.vq2_ok, Pu.z_and, Pu.uq1_ok, Pu.uq2_ok, Pu.z_or, Pu.xq1_ok, Pu.xq2_ok, Pu.z_not, Pu.ngQ_ok, Pu.z_neg, Pu.kq3_ok, Pu.kq2_ok, Pu.kq1_ok, Pu.z_chain, Pu.z_oNone, Pu.osQ_ok, Pu.z_oSome, Pu.sq1_ok, Pu.sq2_ok, Pu.sq3_ok, Pu.z_slice, Pu.z_slT, Pu.z_slL, Pu.rvQ_ok, Pu.z_revT, Pu.r1Q_ok, Pu.z_rg1, Pu.z_tupR, Pu.z_lstR, Pu.lq1_ok, Pu.lq2_ok, Pu.lq3_ok, Pu.z_callL, Pu.nq_ok, Pu.z_fnK, Pu.qs_nx, Pu.qs_rt, Pu.qs_bk, Pu.qs_ct, Pu.qs_pick, Pu.z_seq, Pu.z_next, Pu.z_bk, Pu.z_ct, Pu.eq1_ok, Pu.z_expr, Pu.rq1_ok, Pu.z_ret, Pu.z_retN, Pu.gq1_ok, Pu.gq2_ok, Pu.z_asg, Pu.z_nm, Pu.z_gt, Pu.z_gw, Pu.z_gn, Pu.gcq_ok, Pu.z_gc, Pu.sbI_ok, Pu.sbJ_ok, Pu.sbO_ok, Pu.z_sub, Pu.puI_ok, Pu.z_put, Pu.apI_ok, Pu.z_append, Pu.pq1_ok, Pu.pq2_ok, Pu.z_par, Pu.p3q1_ok, Pu.p3q2_ok, Pu.p3q3_ok, Pu.z_par3, Pu.wq_ok, Pu.iqS_ok, Pu.it_tup, Pu.it_lst, Pu.it_rl, Pu.z_iSeq, Pu.z_iRng1, Pu.enQ_tup, Pu.enQ_lst, Pu.z_iEnum, Pu.zq1_ok, Pu.zq2_ok, Pu.z_iZip, Pu.foq_ok, Pu.z_for, Pu.for_nil, Pu.toq_nx, Pu.toq_ct, Pu.toq_bk, Pu.toq_rt, Pu.toq_pick, Pu.tgq_ok, Pu.lcq_ok, Pu.z_lc, Pu.lc_nil, Pu.wp_nil', Pu.wp_cons', Pu.z_body', Pu.finP_nx, Pu.finP_rt, Pu.finP_pick, Pu.y_add, Pu.y_sub, Pu.y_lt, Pu.y_le, Pu.y_gt, Pu.y_ge, Pu.y_eqI, Pu.y_eqS, Pu.y_neI, Pu.y_neS, Pu.y_lenT, Pu.y_lenL, Pu.y_lenR, Pu.y_int, Pu.y_intB, Pu.y_tupT, Pu.y_tupL, Pu.y_lstT, Pu.y_lstL, Pu.y_isii, Pu.y_isib, Pu.y_isss, Pu.y_istt, Pu.y_ixT, Pu.y_ixW, Pu.y_ixL, Pu.at_0, Pu.at_1, Pu.at_2, Pu.tp_non, Pu.tp_bl, Pu.tp_int, Pu.tp_tup, Pu.tp_lst, List.getElem?_cons_zero, List.getElem?_cons_succ, List.set_cons_zero, List.set_cons_succ, List.map_cons, List.map_nil, List.replicate_zero, List.replicate_succ, List.cons_append, List.nil_append, List.append_nil, List.length_cons, List.length_nil, Nat.sub_self, Bool.not_true, Bool.not_false, decide_true, decide_false, Nat.zero_add, Nat.add_one_sub_one, eq_self, mw, y_in_pair]
            rfl, fun _ => by simp only [Vm.bind_some', Vm.pick_t, Vm.pick_f, Pu.gq_ok, Pu.z_var, Pu.z_c, Pu.wr_ok, Pu.bq1_ok, Pu.bq2_ok, Pu.z_bin, Pu.iq1_ok, Pu.z_if, Pu.z_ifS, Pu.z_nil, Pu.cq1_ok, Pu.cq2_ok, Pu.z_cons, Pu.fq1_ok, Pu.z_fn, Pu.z_tup, Pu.z_lst, Pu.tupQ_0, Pu.tupQ_1, Pu.tupQ_2, Pu.tupQ_3, Pu.lstQ_0, Pu.lstQ_1, Pu.lstQ_2, Pu.lstQ_3, Pu.lstQ_4, Pu.lstQ_5, Pu.lstQ_6, Pu.bq_ok, Pu.z_b, Pu.blQ_ok, Pu.z_bV, Pu.tq1_ok, Pu.tq2_ok, Pu.z_bT, Pu.aq1_ok, Pu.z_bAnd, Pu.oq1_ok, Pu.z_bOr, Pu.nq1_ok, Pu.z_bNot, Pu.z_yes, Pu.vq1_ok, Pu.vq2_ok, Pu.z_and, Pu.uq1_ok, Pu.uq2_ok, Pu.z_or, Pu.xq1_ok, Pu.xq2_ok, Pu.z_not, Pu.ngQ_ok, Pu.z_neg, Pu.kq3_ok, Pu.kq2_ok, Pu.kq1_ok, Pu.z_chain, Pu.z_oNone, Pu.osQ_ok, Pu.z_oSome, Pu.sq1_ok, Pu.sq2_ok, Pu.sq3_ok, Pu.z_slice, Pu.z_slT, Pu.z_slL, Pu.rvQ_ok, Pu.z_revT, Pu.r1Q_ok, Pu.z_rg1, Pu.z_tupR, Pu.z_lstR, Pu.lq1_ok, Pu.lq2_ok, Pu.lq3_ok, Pu.z_callL, Pu.nq_ok, Pu.z_fnK, Pu.qs_nx, Pu.qs_rt, Pu.qs_bk, Pu.qs_ct, Pu.qs_pick, Pu.z_seq, Pu.z_next, Pu.z_bk, Pu.z_ct, Pu.eq1_ok, Pu.z_expr, Pu.rq1_ok, Pu.z_ret, Pu.z_retN, Pu.gq1_ok, Pu.gq2_ok, Pu.z_asg, Pu.z_nm, Pu.z_gt, Pu.z_gw, Pu.z_gn, Pu.gcq_ok, Pu.z_gc, Pu.sbI_ok, Pu.sbJ_ok, Pu.sbO_ok, Pu.z_sub, Pu.puI_ok, Pu.z_put, Pu.apI_ok, Pu.z_append, Pu.pq1_ok, Pu.pq2_ok, Pu.z_par, Pu.p3q1_ok, Pu.p3q2_ok, Pu.p3q3_ok, Pu.z_par3, Pu.wq_ok, Pu.iqS_ok, Pu.it_tup, Pu.it_lst, Pu.it_rl, Pu.z_iSeq, Pu.z_iRng1, Pu.enQ_tup, Pu.enQ_lst, Pu.z_iEnum, Pu.zq1_ok, Pu.zq2_ok, Pu.z_iZip, Pu.foq_ok, Pu.z_for, Pu.for_nil, Pu.toq_nx, Pu.toq_ct, Pu.toq_bk, Pu.toq_rt, Pu.toq_pick, Pu.tgq_ok, Pu.lcq_ok, Pu.z_lc, Pu.lc_nil, Pu.wp_nil', Pu.wp_cons', Pu.z_body', Pu.finP_nx, Pu.finP_rt, Pu.finP_pick, Pu.y_add, Pu.y_sub, Pu.y_lt, Pu.y_le, Pu.y_gt, Pu.y_ge, Pu.y_eqI, Pu.y_eqS, Pu.y_neI, Pu.y_neS, Pu.y_lenT, Pu.y_lenL, Pu.y_lenR, Pu.y_int, Pu.y_intB, Pu.y_tupT, Pu.y_tupL, Pu.y_lstT, Pu.y_lstL, Pu.y_isii, Pu.y_isib, Pu.y_isss, Pu.y_istt, Pu.y_ixT, Pu.y_ixW, Pu.y_ixL, Pu.at_0, Pu.at_1, Pu.at_2, Pu.tp_non, Pu.tp_bl, Pu.tp_int, Pu.tp_tup, Pu.tp_lst, List.getElem?_cons_zero, List.getElem?_cons_succ, List.set_cons_zero, List.set_cons_succ, List.map_cons, List.map_nil, List.replicate_zero, List.replicate_succ, List.cons_append, List.nil_append, List.append_nil, List.length_cons, List.length_nil, Nat.sub_self, Bool.not_true, Bool.not_false, decide_true, decide_false, Nat.zero_add, Nat.add_one_sub_one, eq_self]⟩
        have lk := w_like (s := s) (p := .int (cnt n r a b : Nat)) (gd_nat (by have := cnt_le (a := a) (b := b) hr; omega))
        have cn : ((mts (List.range n) r).filter (among a b)).length = cnt n r a b := rfl
        refine ⟨_, ?_, some (.int (a : Int)), some (.int (b : Int)), some (.int (cnt n r a b : Nat)), f6, rfl, rfl⟩
        simp only [Vm.bind_some', Vm.pick_t, Vm.pick_f, Pu.gq_ok, Pu.z_var, Pu.z_c, Pu.wr_ok, Pu.bq1_ok, Pu.bq2_ok, Pu.z_bin, Pu.iq1_ok, Pu.z_if, Pu.z_ifS, Pu.z_nil, Pu.cq1_ok, Pu.cq2_ok, Pu.z_cons, Pu.fq1_ok, Pu.z_fn, Pu.z_tup, Pu.z_lst, Pu.tupQ_0, Pu.tupQ_1, Pu.tupQ_2, Pu.tupQ_3, Pu.lstQ_0, Pu.lstQ_1, Pu.lstQ_2, Pu.lstQ_3, Pu.lstQ_4, Pu.lstQ_5, Pu.lstQ_6, Pu.bq_ok, Pu.z_b, Pu.blQ_ok, Pu.z_bV, Pu.tq1_ok, Pu.tq2_ok, Pu.z_bT, Pu.aq1_ok, Pu.z_bAnd, Pu.oq1_ok, Pu.z_bOr, Pu.nq1_ok, Pu.z_bNot, Pu.z_yes, Pu.vq1_ok, Pu.vq2_ok, Pu.z_and, Pu.uq1_ok, Pu.uq2_ok, Pu.z_or, Pu.xq1_ok, Pu.xq2_ok, Pu.z_not, Pu.ngQ_ok, Pu.z_neg, Pu.kq3_ok, Pu.kq2_ok, Pu.kq1_ok, Pu.z_chain, Pu.z_oNone, Pu.osQ_ok, Pu.z_oSome, Pu.sq1_ok, Pu.sq2_ok, Pu.sq3_ok, Pu.z_slice, Pu.z_slT, Pu.z_slL, Pu.rvQ_ok, Pu.z_revT, Pu.r1Q_ok, Pu.z_rg1, Pu.z_tupR, Pu.z_lstR, Pu.lq1_ok, Pu.lq2_ok, Pu.lq3_ok, Pu.z_callL, Pu.nq_ok, Pu.z_fnK, Pu.qs_nx, Pu.qs_rt, Pu.qs_bk, Pu.qs_ct, Pu.qs_pick, Pu.z_seq, Pu.z_next, Pu.z_bk, Pu.z_ct, Pu.eq1_ok, Pu.z_expr, Pu.rq1_ok, Pu.z_ret, Pu.z_retN, Pu.gq1_ok, Pu.gq2_ok, Pu.z_asg, Pu.z_nm, Pu.z_gt, Pu.z_gw, Pu.z_gn, Pu.gcq_ok, Pu.z_gc, Pu.sbI_ok, Pu.sbJ_ok, Pu.sbO_ok, Pu.z_sub, Pu.puI_ok, Pu.z_put, Pu.apI_ok, Pu.z_append, Pu.pq1_ok, Pu.pq2_ok, Pu.z_par, Pu.p3q1_ok, Pu.p3q2_ok, Pu.p3q3_ok, Pu.z_par3, Pu.wq_ok, Pu.iqS_ok, Pu.it_tup, Pu.it_lst, Pu.it_rl, Pu.z_iSeq, Pu.z_iRng1, Pu.enQ_tup, Pu.enQ_lst, Pu.z_iEnum, Pu.zq1_ok, Pu.zq2_ok, Pu.z_iZip, Pu.foq_ok, Pu.z_for, Pu.for_nil, Pu.toq_nx, Pu.toq_ct, Pu.toq_bk, Pu.toq_rt, Pu.toq_pick, Pu.tgq_ok, Pu.lcq_ok, Pu.z_lc, Pu.lc_nil, Pu.wp_nil', Pu.wp_cons', Pu.z_body', Pu.finP_nx, Pu.finP_rt, Pu.finP_pick, Pu.y_add, Pu.y_sub, Pu.y_lt, Pu.y_le, Pu.y_gt, Pu.y_ge, Pu.y_eqI, Pu.y_eqS, Pu.y_neI, Pu.y_neS, Pu.y_lenT, Pu.y_lenL, Pu.y_lenR, Pu.y_int, Pu.y_intB, Pu.y_tupT, Pu.y_tupL, Pu.y_lstT, Pu.y_lstL, Pu.y_isii, Pu.y_isib, Pu.y_isss, Pu.y_istt, Pu.y_ixT, Pu.y_ixW, Pu.y_ixL, Pu.at_0, Pu.at_1, Pu.at_2, Pu.tp_non, Pu.tp_bl, Pu.tp_int, Pu.tp_tup, Pu.tp_lst, List.getElem?_cons_zero, List.getElem?_cons_succ, List.set_cons_zero, List.set_cons_succ, List.map_cons, List.map_nil, List.replicate_zero, List.replicate_succ, List.cons_append, List.nil_append, List.append_nil, List.length_cons, List.length_nil, Nat.sub_self, Bool.not_true, Bool.not_false, decide_true, decide_false, Nat.zero_add, Nat.add_one_sub_one, eq_self, d, lc, List.length_map, lcJ_ok sz, w_crossed h1 h2 hr ha hb hab, cn, lk])
    refine ⟨pe', ?_, a', b', c', d', q.1⟩
    simp only [Vm.bind_some', Vm.pick_t, Vm.pick_f, Pu.gq_ok, Pu.z_var, Pu.z_c, Pu.wr_ok, Pu.bq1_ok, Pu.bq2_ok, Pu.z_bin, Pu.iq1_ok, Pu.z_if, Pu.z_ifS, Pu.z_nil, Pu.cq1_ok, Pu.cq2_ok, Pu.z_cons, Pu.fq1_ok, Pu.z_fn, Pu.z_tup, Pu.z_lst, Pu.tupQ_0, Pu.tupQ_1, Pu.tupQ_2, Pu.tupQ_3, Pu.lstQ_0, Pu.lstQ_1, Pu.lstQ_2, Pu.lstQ_3, Pu.lstQ_4, Pu.lstQ_5, Pu.lstQ_6, Pu.bq_ok, Pu.z_b, Pu.blQ_ok, Pu.z_bV, Pu.tq1_ok, Pu.tq2_ok, Pu.z_bT, Pu.aq1_ok, Pu.z_bAnd, Pu.oq1_ok, Pu.z_bOr, Pu.nq1_ok, Pu.z_bNot, Pu.z_yes, Pu.vq1_ok, Pu.vq2_ok, Pu.z_and, Pu.uq1_ok, Pu.uq2_ok, Pu.z_or, Pu.xq1_ok, Pu.xq2_ok, Pu.z_not, Pu.ngQ_ok, Pu.z_neg, Pu.kq3_ok, Pu.kq2_ok, Pu.kq1_ok, Pu.z_chain, Pu.z_oNone, Pu.osQ_ok, Pu.z_oSome, Pu.sq1_ok, Pu.sq2_ok, Pu.sq3_ok, Pu.z_slice, Pu.z_slT, Pu.z_slL, Pu.rvQ_ok, Pu.z_revT, Pu.r1Q_ok, Pu.z_rg1, Pu.z_tupR, Pu.z_lstR, Pu.lq1_ok, Pu.lq2_ok, Pu.lq3_ok, Pu.z_callL, Pu.nq_ok, Pu.z_fnK, Pu.qs_nx, Pu.qs_rt, Pu.qs_bk, Pu.qs_ct, Pu.qs_pick, Pu.z_seq, Pu.z_next, Pu.z_bk, Pu.z_ct, Pu.eq1_ok, Pu.z_expr, Pu.rq1_ok, Pu.z_ret, Pu.z_retN, Pu.gq1_ok, Pu.gq2_ok, Pu.z_asg, Pu.z_nm, Pu.z_gt, Pu.z_gw, Pu.z_gn, Pu.gcq_ok, Pu.z_gc, Pu.sbI_ok, Pu.sbJ_ok, Pu.sbO_ok, Pu.z_sub, Pu.puI_ok, Pu.z_put, Pu.apI_ok, Pu.z_append, Pu.pq1_ok, Pu.pq2_ok, Pu.z_par, Pu.p3q1_ok, Pu.p3q2_ok, Pu.p3q3_ok, Pu.z_par3, Pu.wq_ok, Pu.iqS_ok, Pu.it_tup, Pu.it_lst, Pu.it_rl, Pu.z_iSeq, Pu.z_iRng1, Pu.enQ_tup, Pu.enQ_lst, Pu.z_iEnum, Pu.zq1_ok, Pu.zq2_ok, Pu.z_iZip, Pu.foq_ok, Pu.z_for, Pu.for_nil, Pu.toq_nx, Pu.toq_ct, Pu.toq_bk, Pu.toq_rt, Pu.toq_pick, Pu.tgq_ok, Pu.lcq_ok, Pu.z_lc, Pu.lc_nil, Pu.wp_nil', Pu.wp_cons', Pu.z_body', Pu.finP_nx, Pu.finP_rt, Pu.finP_pick, Pu.y_add, Pu.y_sub, Pu.y_lt, Pu.y_le, Pu.y_gt, Pu.y_ge, Pu.y_eqI, Pu.y_eqS, Pu.y_neI, Pu.y_neS, Pu.y_lenT, Pu.y_lenL, Pu.y_lenR, Pu.y_int, Pu.y_intB, Pu.y_tupT, Pu.y_tupL, Pu.y_lstT, Pu.y_lstL, Pu.y_isii, Pu.y_isib, Pu.y_isss, Pu.y_istt, Pu.y_ixT, Pu.y_ixW, Pu.y_ixL, Pu.at_0, Pu.at_1, Pu.at_2, Pu.tp_non, Pu.tp_bl, Pu.tp_int, Pu.tp_tup, Pu.tp_lst, List.getElem?_cons_zero, List.getElem?_cons_succ, List.set_cons_zero, List.set_cons_succ, List.map_cons, List.map_nil, List.replicate_zero, List.replicate_succ, List.cons_append, List.nil_append, List.append_nil, List.length_cons, List.length_nil, Nat.sub_self, Bool.not_true, Bool.not_false, decide_true, decide_false, Nat.zero_add, Nat.add_one_sub_one, eq_self, rgQ_nv (show n ≤ 1000 by omega)]
    have e' := e
    unfold nv
    simp only [Vm.bind_some', Vm.pick_t, Vm.pick_f, Pu.gq_ok, Pu.z_var, Pu.z_c, Pu.wr_ok, Pu.bq1_ok, Pu.bq2_ok, Pu.z_bin, Pu.iq1_ok, Pu.z_if, Pu.z_ifS, Pu.z_nil, Pu.cq1_ok, Pu.cq2_ok, Pu.z_cons, Pu.fq1_ok, Pu.z_fn, Pu.z_tup, Pu.z_lst, Pu.tupQ_0, Pu.tupQ_1, Pu.tupQ_2, Pu.tupQ_3, Pu.lstQ_0, Pu.lstQ_1, Pu.lstQ_2, Pu.lstQ_3, Pu.lstQ_4, Pu.lstQ_5, Pu.lstQ_6, Pu.bq_ok, Pu.z_b, Pu.blQ_ok, Pu.z_bV, Pu.tq1_ok, Pu.tq2_ok, Pu.z_bT, Pu.aq1_ok, Pu.z_bAnd, Pu.oq1_ok, Pu.z_bOr, Pu.nq1_ok, Pu.z_bNot, Pu.z_yes, Pu.vq1_ok, Pu.vq2_ok, Pu.z_and, Pu.uq1_ok, Pu.uq2_ok, Pu.z_or, Pu.xq1_ok, Pu.xq2_ok, Pu.z_not, Pu.ngQ_ok, Pu.z_neg, Pu.kq3_ok, Pu.kq2_ok, Pu.kq1_ok, Pu.z_chain, Pu.z_oNone, Pu.osQ_ok, Pu.z_oSome, Pu.sq1_ok, Pu.sq2_ok, Pu.sq3_ok, Pu.z_slice, Pu.z_slT, Pu.z_slL, Pu.rvQ_ok, Pu.z_revT, Pu.r1Q_ok, Pu.z_rg1, Pu.z_tupR, Pu.z_lstR, Pu.lq1_ok, Pu.lq2_ok, Pu.lq3_ok, Pu.z_callL, Pu.nq_ok, Pu.z_fnK, Pu.qs_nx, Pu.qs_rt, Pu.qs_bk, Pu.qs_ct, Pu.qs_pick, Pu.z_seq, Pu.z_next, Pu.z_bk, Pu.z_ct, Pu.eq1_ok, Pu.z_expr, Pu.rq1_ok, Pu.z_ret, Pu.z_retN, Pu.gq1_ok, Pu.gq2_ok, Pu.z_asg, Pu.z_nm, Pu.z_gt, Pu.z_gw, Pu.z_gn, Pu.gcq_ok, Pu.z_gc, Pu.sbI_ok, Pu.sbJ_ok, Pu.sbO_ok, Pu.z_sub, Pu.puI_ok, Pu.z_put, Pu.apI_ok, Pu.z_append, Pu.pq1_ok, Pu.pq2_ok, Pu.z_par, Pu.p3q1_ok, Pu.p3q2_ok, Pu.p3q3_ok, Pu.z_par3, Pu.wq_ok, Pu.iqS_ok, Pu.it_tup, Pu.it_lst, Pu.it_rl, Pu.z_iSeq, Pu.z_iRng1, Pu.enQ_tup, Pu.enQ_lst, Pu.z_iEnum, Pu.zq1_ok, Pu.zq2_ok, Pu.z_iZip, Pu.foq_ok, Pu.z_for, Pu.for_nil, Pu.toq_nx, Pu.toq_ct, Pu.toq_bk, Pu.toq_rt, Pu.toq_pick, Pu.tgq_ok, Pu.lcq_ok, Pu.z_lc, Pu.lc_nil, Pu.wp_nil', Pu.wp_cons', Pu.z_body', Pu.finP_nx, Pu.finP_rt, Pu.finP_pick, Pu.y_add, Pu.y_sub, Pu.y_lt, Pu.y_le, Pu.y_gt, Pu.y_ge, Pu.y_eqI, Pu.y_eqS, Pu.y_neI, Pu.y_neS, Pu.y_lenT, Pu.y_lenL, Pu.y_lenR, Pu.y_int, Pu.y_intB, Pu.y_tupT, Pu.y_tupL, Pu.y_lstT, Pu.y_lstL, Pu.y_isii, Pu.y_isib, Pu.y_isss, Pu.y_istt, Pu.y_ixT, Pu.y_ixW, Pu.y_ixL, Pu.at_0, Pu.at_1, Pu.at_2, Pu.tp_non, Pu.tp_bl, Pu.tp_int, Pu.tp_tup, Pu.tp_lst, List.getElem?_cons_zero, List.getElem?_cons_succ, List.set_cons_zero, List.set_cons_succ, List.map_cons, List.map_nil, List.replicate_zero, List.replicate_succ, List.cons_append, List.nil_append, List.append_nil, List.length_cons, List.length_nil, Nat.sub_self, Bool.not_true, Bool.not_false, decide_true, decide_false, Nat.zero_add, Nat.add_one_sub_one, eq_self, e'])
  simp only [Vm.bind_some', Vm.pick_t, Vm.pick_f, Pu.gq_ok, Pu.z_var, Pu.z_c, Pu.wr_ok, Pu.bq1_ok, Pu.bq2_ok, Pu.z_bin, Pu.iq1_ok, Pu.z_if, Pu.z_ifS, Pu.z_nil, Pu.cq1_ok, Pu.cq2_ok, Pu.z_cons, Pu.fq1_ok, Pu.z_fn, Pu.z_tup, Pu.z_lst, Pu.tupQ_0, Pu.tupQ_1, Pu.tupQ_2, Pu.tupQ_3, Pu.lstQ_0, Pu.lstQ_1, Pu.lstQ_2, Pu.lstQ_3, Pu.lstQ_4, Pu.lstQ_5, Pu.lstQ_6, Pu.bq_ok, Pu.z_b, Pu.blQ_ok, Pu.z_bV, Pu.tq1_ok, Pu.tq2_ok, Pu.z_bT, Pu.aq1_ok, Pu.z_bAnd, Pu.oq1_ok, Pu.z_bOr, Pu.nq1_ok, Pu.z_bNot, Pu.z_yes, Pu.vq1_ok, Pu.vq2_ok, Pu.z_and, Pu.uq1_ok, Pu.uq2_ok, Pu.z_or, Pu.xq1_ok, Pu.xq2_ok, Pu.z_not, Pu.ngQ_ok, Pu.z_neg, Pu.kq3_ok, Pu.kq2_ok, Pu.kq1_ok, Pu.z_chain, Pu.z_oNone, Pu.osQ_ok, Pu.z_oSome, Pu.sq1_ok, Pu.sq2_ok, Pu.sq3_ok, Pu.z_slice, Pu.z_slT, Pu.z_slL, Pu.rvQ_ok, Pu.z_revT, Pu.r1Q_ok, Pu.z_rg1, Pu.z_tupR, Pu.z_lstR, Pu.lq1_ok, Pu.lq2_ok, Pu.lq3_ok, Pu.z_callL, Pu.nq_ok, Pu.z_fnK, Pu.qs_nx, Pu.qs_rt, Pu.qs_bk, Pu.qs_ct, Pu.qs_pick, Pu.z_seq, Pu.z_next, Pu.z_bk, Pu.z_ct, Pu.eq1_ok, Pu.z_expr, Pu.rq1_ok, Pu.z_ret, Pu.z_retN, Pu.gq1_ok, Pu.gq2_ok, Pu.z_asg, Pu.z_nm, Pu.z_gt, Pu.z_gw, Pu.z_gn, Pu.gcq_ok, Pu.z_gc, Pu.sbI_ok, Pu.sbJ_ok, Pu.sbO_ok, Pu.z_sub, Pu.puI_ok, Pu.z_put, Pu.apI_ok, Pu.z_append, Pu.pq1_ok, Pu.pq2_ok, Pu.z_par, Pu.p3q1_ok, Pu.p3q2_ok, Pu.p3q3_ok, Pu.z_par3, Pu.wq_ok, Pu.iqS_ok, Pu.it_tup, Pu.it_lst, Pu.it_rl, Pu.z_iSeq, Pu.z_iRng1, Pu.enQ_tup, Pu.enQ_lst, Pu.z_iEnum, Pu.zq1_ok, Pu.zq2_ok, Pu.z_iZip, Pu.foq_ok, Pu.z_for, Pu.for_nil, Pu.toq_nx, Pu.toq_ct, Pu.toq_bk, Pu.toq_rt, Pu.toq_pick, Pu.tgq_ok, Pu.lcq_ok, Pu.z_lc, Pu.lc_nil, Pu.wp_nil', Pu.wp_cons', Pu.z_body', Pu.finP_nx, Pu.finP_rt, Pu.finP_pick, Pu.y_add, Pu.y_sub, Pu.y_lt, Pu.y_le, Pu.y_gt, Pu.y_ge, Pu.y_eqI, Pu.y_eqS, Pu.y_neI, Pu.y_neS, Pu.y_lenT, Pu.y_lenL, Pu.y_lenR, Pu.y_int, Pu.y_intB, Pu.y_tupT, Pu.y_tupL, Pu.y_lstT, Pu.y_lstL, Pu.y_isii, Pu.y_isib, Pu.y_isss, Pu.y_istt, Pu.y_ixT, Pu.y_ixW, Pu.y_ixL, Pu.at_0, Pu.at_1, Pu.at_2, Pu.tp_non, Pu.tp_bl, Pu.tp_int, Pu.tp_tup, Pu.tp_lst, List.getElem?_cons_zero, List.getElem?_cons_succ, List.set_cons_zero, List.set_cons_succ, List.map_cons, List.map_nil, List.replicate_zero, List.replicate_succ, List.cons_append, List.nil_append, List.append_nil, List.length_cons, List.length_nil, Nat.sub_self, Bool.not_true, Bool.not_false, decide_true, decide_false, Nat.zero_add, Nat.add_one_sub_one, eq_self, rgQ_nv (show n ≤ 1000 by omega)]
  unfold nv
  simp only [Vm.bind_some', Vm.pick_t, Vm.pick_f, Pu.gq_ok, Pu.z_var, Pu.z_c, Pu.wr_ok, Pu.bq1_ok, Pu.bq2_ok, Pu.z_bin, Pu.iq1_ok, Pu.z_if, Pu.z_ifS, Pu.z_nil, Pu.cq1_ok, Pu.cq2_ok, Pu.z_cons, Pu.fq1_ok, Pu.z_fn, Pu.z_tup, Pu.z_lst, Pu.tupQ_0, Pu.tupQ_1, Pu.tupQ_2, Pu.tupQ_3, Pu.lstQ_0, Pu.lstQ_1, Pu.lstQ_2, Pu.lstQ_3, Pu.lstQ_4, Pu.lstQ_5, Pu.lstQ_6, Pu.bq_ok, Pu.z_b, Pu.blQ_ok, Pu.z_bV, Pu.tq1_ok, Pu.tq2_ok, Pu.z_bT, Pu.aq1_ok, Pu.z_bAnd, Pu.oq1_ok, Pu.z_bOr, Pu.nq1_ok, Pu.z_bNot, Pu.z_yes, Pu.vq1_ok, Pu.vq2_ok, Pu.z_and, Pu.uq1_ok, Pu.uq2_ok, Pu.z_or, Pu.xq1_ok, Pu.xq2_ok, Pu.z_not, Pu.ngQ_ok, Pu.z_neg, Pu.kq3_ok, Pu.kq2_ok, Pu.kq1_ok, Pu.z_chain, Pu.z_oNone, Pu.osQ_ok, Pu.z_oSome, Pu.sq1_ok, Pu.sq2_ok, Pu.sq3_ok, Pu.z_slice, Pu.z_slT, Pu.z_slL, Pu.rvQ_ok, Pu.z_revT, Pu.r1Q_ok, Pu.z_rg1, Pu.z_tupR, Pu.z_lstR, Pu.lq1_ok, Pu.lq2_ok, Pu.lq3_ok, Pu.z_callL, Pu.nq_ok, Pu.z_fnK, Pu.qs_nx, Pu.qs_rt, Pu.qs_bk, Pu.qs_ct, Pu.qs_pick, Pu.z_seq, Pu.z_next, Pu.z_bk, Pu.z_ct, Pu.eq1_ok, Pu.z_expr, Pu.rq1_ok, Pu.z_ret, Pu.z_retN, Pu.gq1_ok, Pu.gq2_ok, Pu.z_asg, Pu.z_nm, Pu.z_gt, Pu.z_gw, Pu.z_gn, Pu.gcq_ok, Pu.z_gc, Pu.sbI_ok, Pu.sbJ_ok, Pu.sbO_ok, Pu.z_sub, Pu.puI_ok, Pu.z_put, Pu.apI_ok, Pu.z_append, Pu.pq1_ok, Pu.pq2_ok, Pu.z_par, Pu.p3q1_ok, Pu.p3q2_ok, Pu.p3q3_ok, Pu.z_par3, Pu.wq_ok, Pu.iqS_ok, Pu.it_tup, Pu.it_lst, Pu.it_rl, Pu.z_iSeq, Pu.z_iRng1, Pu.enQ_tup, Pu.enQ_lst, Pu.z_iEnum, Pu.zq1_ok, Pu.zq2_ok, Pu.z_iZip, Pu.foq_ok, Pu.z_for, Pu.for_nil, Pu.toq_nx, Pu.toq_ct, Pu.toq_bk, Pu.toq_rt, Pu.toq_pick, Pu.tgq_ok, Pu.lcq_ok, Pu.z_lc, Pu.lc_nil, Pu.wp_nil', Pu.wp_cons', Pu.z_body', Pu.finP_nx, Pu.finP_rt, Pu.finP_pick, Pu.y_add, Pu.y_sub, Pu.y_lt, Pu.y_le, Pu.y_gt, Pu.y_ge, Pu.y_eqI, Pu.y_eqS, Pu.y_neI, Pu.y_neS, Pu.y_lenT, Pu.y_lenL, Pu.y_lenR, Pu.y_int, Pu.y_intB, Pu.y_tupT, Pu.y_tupL, Pu.y_lstT, Pu.y_lstL, Pu.y_isii, Pu.y_isib, Pu.y_isss, Pu.y_istt, Pu.y_ixT, Pu.y_ixW, Pu.y_ixL, Pu.at_0, Pu.at_1, Pu.at_2, Pu.tp_non, Pu.tp_bl, Pu.tp_int, Pu.tp_tup, Pu.tp_lst, List.getElem?_cons_zero, List.getElem?_cons_succ, List.set_cons_zero, List.set_cons_succ, List.map_cons, List.map_nil, List.replicate_zero, List.replicate_succ, List.cons_append, List.nil_append, List.append_nil, List.length_cons, List.length_nil, Nat.sub_self, Bool.not_true, Bool.not_false, decide_true, decide_false, Nat.zero_add, Nat.add_one_sub_one, eq_self, e]
end
end K01
namespace Pu
open PySem PySem.Spec PyProof.Rows L2 Vm
theorem for_all' {g : PGM} {b : PSM} {ps : List P} {pe : PEn} {s : S} {o : Option PO} (hF : forP g b ps pe s = o) (Q : PEn → Prop) (q : Q pe) (h : ∀ p ∈ ps, ∀ pe, Q pe → ∃ pe', tgq (g p pe s) b = some (.nx pe' s) ∧ Q pe') : ∃ pe', o = some (.nx pe' s) ∧ Q pe' := by
  subst hF
  induction ps generalizing pe with
  | nil => exact ⟨pe, rfl, q⟩
  | cons x xs ih =>
    obtain ⟨pe1, e1, q1⟩ := h x (by simp) pe q
    obtain ⟨pe2, e2, q2⟩ := ih q1 fun y m => h y (by simp [m])
    exact ⟨pe2, by rw [for_cons, e1]; exact e2, q2⟩
theorem mem_nv {l : List Nat} {p : P} : p ∈ nv l ↔ ∃ a ∈ l, .int (a : Int) = p := by simp [nv]
theorem nv_map (l : List Nat) : nv l = l.map fun (i : Nat) => P.int (i : Int) := rfl
end Pu
namespace K01
open PySem PySem.Spec PyProof.Rows L2 Vm Pu Rw
section
variable {s : S} {n : Nat} {r : List (Bool × Nat)}
theorem gd_wys (h2 : n ≤ 5) (hr : Ok n r) : Gd 3416 2 (wysV n r) :=
  (GdL.map fun l m => gd_nv (k := 5) (by rw [len_way m, List.length_range]; exact h2) fun a z => by
    have := List.mem_range.mp ((mem_way m).mp z); omega).tupN (n := 61) (by rw [List.length_map, way_len]; have := hr.1; omega)
theorem gd_ord (h2 : n ≤ 5) : Gd 55 1 (ordV n r) := gd_nv (k := 5) (l := back_ (List.range n) r) (by rw [back_len, List.length_range]; exact h2) fun a z => by
  have := List.mem_range.mp (back_mem.mp z); omega
theorem gd_met (h2 : n ≤ 5) (hr : Ok n r) : Gd 2040 2 (metV n r) := gd_mts h2 hr
theorem wayOf_lt {k : Nat} (hk : k < n) : ∀ a ∈ wayOf n r k, a < n := fun a m => by
  obtain ⟨l, z, rfl⟩ := List.mem_map.mp m
  have := List.idxOf_lt_length_of_mem ((mem_way z).mpr (List.mem_range.mpr hk))
  rw [len_way z, List.length_range] at this
  exact this
theorem gd_wof {k : Nat} (h2 : n ≤ 5) (hr : Ok n r) (hk : k < n) : Gd 671 1 (wofV n r k) := gd_nv (k := 61) (l := wayOf n r k) (by rw [wayOf_len]; have := hr.1; omega) fun a z => by
  have := wayOf_lt hk a z; omega
theorem lw_tup : pTupleOf [lwV n r] = some (wysV n r) := rfl
theorem wk_0 : pIx (wkV n r) (.int 0) = some (.lst ((mts (List.range n) r).map mwV)) := at_0
theorem lw_last : pIx (lwV n r) (.int (-1)) = some (ordV n r) := by
  obtain ⟨w, e⟩ := way_last r (List.range n)
  unfold lwV ordV
  rw [e, List.map_append]
  exact at_last
theorem lw_it (r : List (Bool × Nat)) : lwV n r = .lst ((way (List.range n) r).map fun l => .tup (nv l)) := rfl
theorem sgn_eq {b : Bool} : decide (sgn b = 1) = b := by cases b <;> decide
theorem sideE {b : Bool} : pick b (some (P.str "left", s)) (some (P.str "right", s)) = some (.str (sd b), s) := by cases b <;> rfl
theorem w_is_row_right (h1 : 2 ≤ n) (h2 : n ≤ 5) (hr : Ok n r) : p__law_is_row_right [.int n, rowV r] s = some (.bl true, s) := by
  unfold p__law_is_row_right q__law_is_row_right
  simp only [Vm.bind_some', Vm.pick_t, Vm.pick_f, Pu.gq_ok, Pu.z_var, Pu.z_c, Pu.wr_ok, Pu.bq1_ok, Pu.bq2_ok, Pu.z_bin, Pu.iq1_ok, Pu.z_if, Pu.z_ifS, Pu.z_nil, Pu.cq1_ok, Pu.cq2_ok, Pu.z_cons, Pu.fq1_ok, Pu.z_fn, Pu.z_tup, Pu.z_lst, Pu.tupQ_0, Pu.tupQ_1, Pu.tupQ_2, Pu.tupQ_3, Pu.lstQ_0, Pu.lstQ_1, Pu.lstQ_2, Pu.lstQ_3, Pu.lstQ_4, Pu.lstQ_5, Pu.lstQ_6, Pu.bq_ok, Pu.z_b, Pu.blQ_ok, Pu.z_bV, Pu.tq1_ok, Pu.tq2_ok, Pu.z_bT, Pu.aq1_ok, Pu.z_bAnd, Pu.oq1_ok, Pu.z_bOr, Pu.nq1_ok, Pu.z_bNot, Pu.z_yes, Pu.vq1_ok, Pu.vq2_ok, Pu.z_and, Pu.uq1_ok, Pu.uq2_ok, Pu.z_or, Pu.xq1_ok, Pu.xq2_ok, Pu.z_not, Pu.ngQ_ok, Pu.z_neg, Pu.kq3_ok, Pu.kq2_ok, Pu.kq1_ok, Pu.z_chain, Pu.z_oNone, Pu.osQ_ok, Pu.z_oSome, Pu.sq1_ok, Pu.sq2_ok, Pu.sq3_ok, Pu.z_slice, Pu.z_slT, Pu.z_slL, Pu.rvQ_ok, Pu.z_revT, Pu.r1Q_ok, Pu.z_rg1, Pu.z_tupR, Pu.z_lstR, Pu.lq1_ok, Pu.lq2_ok, Pu.lq3_ok, Pu.z_callL, Pu.nq_ok, Pu.z_fnK, Pu.qs_nx, Pu.qs_rt, Pu.qs_bk, Pu.qs_ct, Pu.qs_pick, Pu.z_seq, Pu.z_next, Pu.z_bk, Pu.z_ct, Pu.eq1_ok, Pu.z_expr, Pu.rq1_ok, Pu.z_ret, Pu.z_retN, Pu.gq1_ok, Pu.gq2_ok, Pu.z_asg, Pu.z_nm, Pu.z_gt, Pu.z_gw, Pu.z_gn, Pu.gcq_ok, Pu.z_gc, Pu.sbI_ok, Pu.sbJ_ok, Pu.sbO_ok, Pu.z_sub, Pu.puI_ok, Pu.z_put, Pu.apI_ok, Pu.z_append, Pu.pq1_ok, Pu.pq2_ok, Pu.z_par, Pu.p3q1_ok, Pu.p3q2_ok, Pu.p3q3_ok, Pu.z_par3, Pu.wq_ok, Pu.iqS_ok, Pu.it_tup, Pu.it_lst, Pu.it_rl, Pu.z_iSeq, Pu.z_iRng1, Pu.enQ_tup, Pu.enQ_lst, Pu.z_iEnum, Pu.zq1_ok, Pu.zq2_ok, Pu.z_iZip, Pu.foq_ok, Pu.z_for, Pu.for_nil, Pu.toq_nx, Pu.toq_ct, Pu.toq_bk, Pu.toq_rt, Pu.toq_pick, Pu.tgq_ok, Pu.lcq_ok, Pu.z_lc, Pu.lc_nil, Pu.wp_nil', Pu.wp_cons', Pu.z_body', Pu.finP_nx, Pu.finP_rt, Pu.finP_pick, Pu.y_add, Pu.y_sub, Pu.y_lt, Pu.y_le, Pu.y_gt, Pu.y_ge, Pu.y_eqI, Pu.y_eqS, Pu.y_neI, Pu.y_neS, Pu.y_lenT, Pu.y_lenL, Pu.y_lenR, Pu.y_int, Pu.y_intB, Pu.y_tupT, Pu.y_tupL, Pu.y_lstT, Pu.y_lstL, Pu.y_isii, Pu.y_isib, Pu.y_isss, Pu.y_istt, Pu.y_ixT, Pu.y_ixW, Pu.y_ixL, Pu.at_0, Pu.at_1, Pu.at_2, Pu.tp_non, Pu.tp_bl, Pu.tp_int, Pu.tp_tup, Pu.tp_lst, List.getElem?_cons_zero, List.getElem?_cons_succ, List.set_cons_zero, List.set_cons_succ, List.map_cons, List.map_nil, List.replicate_zero, List.replicate_succ, List.cons_append, List.nil_append, List.append_nil, List.length_cons, List.length_nil, Nat.sub_self, Bool.not_true, Bool.not_false, decide_true, decide_false, Nat.zero_add, Nat.add_one_sub_one, eq_self, w_l_ways h2 hr, w_l_walk h2 hr, wk_0, lw_tup, lw_last, w_order_on_way h1 h2 hr, w_order_of h1 h2 hr, w_like (gd_wys h2 hr), w_like (gd_ord (r := r) h2), rgQ_nv (show n ≤ 1000 by omega)]
  generalize hF : forP _ _ _ _ _ = o
  obtain ⟨pe', e, a, b, rfl⟩ := for_all' hF (fun pe => ∃ a b, pe = [some (.int n), some (rowV r), some (lwV n r), some (.lst ((mts (List.range n) r).map mwV)), a, b, none, none, none, none]) ⟨_, _, rfl⟩ (by
    rintro p hp pe ⟨a, b, rfl⟩
    obtain ⟨k, hk, rfl⟩ := mem_nv.mp hp
    have hk := List.mem_range.mp hk
    refine ⟨_, ?_, some (.int k), some (wofV n r k), rfl⟩
    rw [lw_it]
    simp only [Vm.bind_some', Vm.pick_t, Vm.pick_f, Pu.gq_ok, Pu.z_var, Pu.z_c, Pu.wr_ok, Pu.bq1_ok, Pu.bq2_ok, Pu.z_bin, Pu.iq1_ok, Pu.z_if, Pu.z_ifS, Pu.z_nil, Pu.cq1_ok, Pu.cq2_ok, Pu.z_cons, Pu.fq1_ok, Pu.z_fn, Pu.z_tup, Pu.z_lst, Pu.tupQ_0, Pu.tupQ_1, Pu.tupQ_2, Pu.tupQ_3, Pu.lstQ_0, Pu.lstQ_1, Pu.lstQ_2, Pu.lstQ_3, Pu.lstQ_4, Pu.lstQ_5, Pu.lstQ_6, Pu.bq_ok, Pu.z_b, Pu.blQ_ok, Pu.z_bV, Pu.tq1_ok, Pu.tq2_ok, Pu.z_bT, Pu.aq1_ok, Pu.z_bAnd, Pu.oq1_ok, Pu.z_bOr, Pu.nq1_ok, Pu.z_bNot, Pu.z_yes, Pu.vq1_ok, Pu.vq2_ok, Pu.z_and, Pu.uq1_ok, Pu.uq2_ok, Pu.z_or, Pu.xq1_ok, Pu.xq2_ok, Pu.z_not, Pu.ngQ_ok, Pu.z_neg, Pu.kq3_ok, Pu.kq2_ok, Pu.kq1_ok, Pu.z_chain, Pu.z_oNone, Pu.osQ_ok, Pu.z_oSome, Pu.sq1_ok, Pu.sq2_ok, Pu.sq3_ok, Pu.z_slice, Pu.z_slT, Pu.z_slL, Pu.rvQ_ok, Pu.z_revT, Pu.r1Q_ok, Pu.z_rg1, Pu.z_tupR, Pu.z_lstR, Pu.lq1_ok, Pu.lq2_ok, Pu.lq3_ok, Pu.z_callL, Pu.nq_ok, Pu.z_fnK, Pu.qs_nx, Pu.qs_rt, Pu.qs_bk, Pu.qs_ct, Pu.qs_pick, Pu.z_seq, Pu.z_next, Pu.z_bk, Pu.z_ct, Pu.eq1_ok, Pu.z_expr, Pu.rq1_ok, Pu.z_ret, Pu.z_retN, Pu.gq1_ok, Pu.gq2_ok, Pu.z_asg, Pu.z_nm, Pu.z_gt, Pu.z_gw, Pu.z_gn, Pu.gcq_ok, Pu.z_gc, Pu.sbI_ok, Pu.sbJ_ok, Pu.sbO_ok, Pu.z_sub, Pu.puI_ok, Pu.z_put, Pu.apI_ok, Pu.z_append, Pu.pq1_ok, Pu.pq2_ok, Pu.z_par, Pu.p3q1_ok, Pu.p3q2_ok, Pu.p3q3_ok, Pu.z_par3, Pu.wq_ok, Pu.iqS_ok, Pu.it_tup, Pu.it_lst, Pu.it_rl, Pu.z_iSeq, Pu.z_iRng1, Pu.enQ_tup, Pu.enQ_lst, Pu.z_iEnum, Pu.zq1_ok, Pu.zq2_ok, Pu.z_iZip, Pu.foq_ok, Pu.z_for, Pu.for_nil, Pu.toq_nx, Pu.toq_ct, Pu.toq_bk, Pu.toq_rt, Pu.toq_pick, Pu.tgq_ok, Pu.lcq_ok, Pu.z_lc, Pu.lc_nil, Pu.wp_nil', Pu.wp_cons', Pu.z_body', Pu.finP_nx, Pu.finP_rt, Pu.finP_pick, Pu.y_add, Pu.y_sub, Pu.y_lt, Pu.y_le, Pu.y_gt, Pu.y_ge, Pu.y_eqI, Pu.y_eqS, Pu.y_neI, Pu.y_neS, Pu.y_lenT, Pu.y_lenL, Pu.y_lenR, Pu.y_int, Pu.y_intB, Pu.y_tupT, Pu.y_tupL, Pu.y_lstT, Pu.y_lstL, Pu.y_isii, Pu.y_isib, Pu.y_isss, Pu.y_istt, Pu.y_ixT, Pu.y_ixW, Pu.y_ixL, Pu.at_0, Pu.at_1, Pu.at_2, Pu.tp_non, Pu.tp_bl, Pu.tp_int, Pu.tp_tup, Pu.tp_lst, List.getElem?_cons_zero, List.getElem?_cons_succ, List.set_cons_zero, List.set_cons_succ, List.map_cons, List.map_nil, List.replicate_zero, List.replicate_succ, List.cons_append, List.nil_append, List.append_nil, List.length_cons, List.length_nil, Nat.sub_self, Bool.not_true, Bool.not_false, decide_true, decide_false, Nat.zero_add, Nat.add_one_sub_one, eq_self]
    rw [lc_all (F := fun l => .int (l.idxOf k : Nat)) _ (fun l m => ⟨_, rfl, by
      simp only [Vm.bind_some', Vm.pick_t, Vm.pick_f, Pu.gq_ok, Pu.z_var, Pu.z_c, Pu.wr_ok, Pu.bq1_ok, Pu.bq2_ok, Pu.z_bin, Pu.iq1_ok, Pu.z_if, Pu.z_ifS, Pu.z_nil, Pu.cq1_ok, Pu.cq2_ok, Pu.z_cons, Pu.fq1_ok, Pu.z_fn, Pu.z_tup, Pu.z_lst, Pu.tupQ_0, Pu.tupQ_1, Pu.tupQ_2, Pu.tupQ_3, Pu.lstQ_0, Pu.lstQ_1, Pu.lstQ_2, Pu.lstQ_3, Pu.lstQ_4, Pu.lstQ_5, Pu.lstQ_6, Pu.bq_ok, Pu.z_b, Pu.blQ_ok, Pu.z_bV, Pu.tq1_ok, Pu.tq2_ok, Pu.z_bT, Pu.aq1_ok, Pu.z_bAnd, Pu.oq1_ok, Pu.z_bOr, Pu.nq1_ok, Pu.z_bNot, Pu.z_yes, Pu.vq1_ok, Pu.vq2_ok, Pu.z_and, Pu.uq1_ok, Pu.uq2_ok, Pu.z_or, Pu.xq1_ok, Pu.xq2_ok, Pu.z_not, Pu.ngQ_ok, Pu.z_neg, Pu.kq3_ok, Pu.kq2_ok, Pu.kq1_ok, Pu.z_chain, Pu.z_oNone, Pu.osQ_ok, Pu.z_oSome, Pu.sq1_ok, Pu.sq2_ok, Pu.sq3_ok, Pu.z_slice, Pu.z_slT, Pu.z_slL, Pu.rvQ_ok, Pu.z_revT, Pu.r1Q_ok, Pu.z_rg1, Pu.z_tupR, Pu.z_lstR, Pu.lq1_ok, Pu.lq2_ok, Pu.lq3_ok, Pu.z_callL, Pu.nq_ok, Pu.z_fnK, Pu.qs_nx, Pu.qs_rt, Pu.qs_bk, Pu.qs_ct, Pu.qs_pick, Pu.z_seq, Pu.z_next, Pu.z_bk, Pu.z_ct, Pu.eq1_ok, Pu.z_expr, Pu.rq1_ok, Pu.z_ret, Pu.z_retN, Pu.gq1_ok, Pu.gq2_ok, Pu.z_asg, Pu.z_nm, Pu.z_gt, Pu.z_gw, Pu.z_gn, Pu.gcq_ok, Pu.z_gc, Pu.sbI_ok, Pu.sbJ_ok, Pu.sbO_ok, Pu.z_sub, Pu.puI_ok, Pu.z_put, Pu.apI_ok, Pu.z_append, Pu.pq1_ok, Pu.pq2_ok, Pu.z_par, Pu.p3q1_ok, Pu.p3q2_ok, Pu.p3q3_ok, Pu.z_par3, Pu.wq_ok, Pu.iqS_ok, Pu.it_tup, Pu.it_lst, Pu.it_rl, Pu.z_iSeq, Pu.z_iRng1, Pu.enQ_tup, Pu.enQ_lst, Pu.z_iEnum, Pu.zq1_ok, Pu.zq2_ok, Pu.z_iZip, Pu.foq_ok, Pu.z_for, Pu.for_nil, Pu.toq_nx, Pu.toq_ct, Pu.toq_bk, Pu.toq_rt, Pu.toq_pick, Pu.tgq_ok, Pu.lcq_ok, Pu.z_lc, Pu.lc_nil, Pu.wp_nil', Pu.wp_cons', Pu.z_body', Pu.finP_nx, Pu.finP_rt, Pu.finP_pick, Pu.y_add, Pu.y_sub, Pu.y_lt, Pu.y_le, Pu.y_gt, Pu.y_ge, Pu.y_eqI, Pu.y_eqS, Pu.y_neI, Pu.y_neS, Pu.y_lenT, Pu.y_lenL, Pu.y_lenR, Pu.y_int, Pu.y_intB, Pu.y_tupT, Pu.y_tupL, Pu.y_lstT, Pu.y_lstL, Pu.y_isii, Pu.y_isib, Pu.y_isss, Pu.y_istt, Pu.y_ixT, Pu.y_ixW, Pu.y_ixL, Pu.at_0, Pu.at_1, Pu.at_2, Pu.tp_non, Pu.tp_bl, Pu.tp_int, Pu.tp_tup, Pu.tp_lst, List.getElem?_cons_zero, List.getElem?_cons_succ, List.set_cons_zero, List.set_cons_succ, List.map_cons, List.map_nil, List.replicate_zero, List.replicate_succ, List.cons_append, List.nil_append, List.append_nil, List.length_cons, List.length_nil, Nat.sub_self, Bool.not_true, Bool.not_false, decide_true, decide_false, Nat.zero_add, Nat.add_one_sub_one, eq_self, y_index ((mem_way m).mpr (List.mem_range.mpr hk))]⟩)]
    have sz : (way (List.range n) r).length ≤ 1000000 := by rw [way_len]; have := hr.1; omega
    have ew : ((way (List.range n) r).map fun l => P.int (l.idxOf k : Nat)) = nv (wayOf n r k) := by simp [wayOf, nv]
    have ew' : P.tup (nv (wayOf n r k)) = wofV n r k := rfl
    simp only [Vm.bind_some', Vm.pick_t, Vm.pick_f, Pu.gq_ok, Pu.z_var, Pu.z_c, Pu.wr_ok, Pu.bq1_ok, Pu.bq2_ok, Pu.z_bin, Pu.iq1_ok, Pu.z_if, Pu.z_ifS, Pu.z_nil, Pu.cq1_ok, Pu.cq2_ok, Pu.z_cons, Pu.fq1_ok, Pu.z_fn, Pu.z_tup, Pu.z_lst, Pu.tupQ_0, Pu.tupQ_1, Pu.tupQ_2, Pu.tupQ_3, Pu.lstQ_0, Pu.lstQ_1, Pu.lstQ_2, Pu.lstQ_3, Pu.lstQ_4, Pu.lstQ_5, Pu.lstQ_6, Pu.bq_ok, Pu.z_b, Pu.blQ_ok, Pu.z_bV, Pu.tq1_ok, Pu.tq2_ok, Pu.z_bT, Pu.aq1_ok, Pu.z_bAnd, Pu.oq1_ok, Pu.z_bOr, Pu.nq1_ok, Pu.z_bNot, Pu.z_yes, Pu.vq1_ok, Pu.vq2_ok, Pu.z_and, Pu.uq1_ok, Pu.uq2_ok, Pu.z_or, Pu.xq1_ok, Pu.xq2_ok, Pu.z_not, Pu.ngQ_ok, Pu.z_neg, Pu.kq3_ok, Pu.kq2_ok, Pu.kq1_ok, Pu.z_chain, Pu.z_oNone, Pu.osQ_ok, Pu.z_oSome, Pu.sq1_ok, Pu.sq2_ok, Pu.sq3_ok, Pu.z_slice, Pu.z_slT, Pu.z_slL, Pu.rvQ_ok, Pu.z_revT, Pu.r1Q_ok, Pu.z_rg1, Pu.z_tupR, Pu.z_lstR, Pu.lq1_ok, Pu.lq2_ok, Pu.lq3_ok, Pu.z_callL, Pu.nq_ok, Pu.z_fnK, Pu.qs_nx, Pu.qs_rt, Pu.qs_bk, Pu.qs_ct, Pu.qs_pick, Pu.z_seq, Pu.z_next, Pu.z_bk, Pu.z_ct, Pu.eq1_ok, Pu.z_expr, Pu.rq1_ok, Pu.z_ret, Pu.z_retN, Pu.gq1_ok, Pu.gq2_ok, Pu.z_asg, Pu.z_nm, Pu.z_gt, Pu.z_gw, Pu.z_gn, Pu.gcq_ok, Pu.z_gc, Pu.sbI_ok, Pu.sbJ_ok, Pu.sbO_ok, Pu.z_sub, Pu.puI_ok, Pu.z_put, Pu.apI_ok, Pu.z_append, Pu.pq1_ok, Pu.pq2_ok, Pu.z_par, Pu.p3q1_ok, Pu.p3q2_ok, Pu.p3q3_ok, Pu.z_par3, Pu.wq_ok, Pu.iqS_ok, Pu.it_tup, Pu.it_lst, Pu.it_rl, Pu.z_iSeq, Pu.z_iRng1, Pu.enQ_tup, Pu.enQ_lst, Pu.z_iEnum, Pu.zq1_ok, Pu.zq2_ok, Pu.z_iZip, Pu.foq_ok, Pu.z_for, Pu.for_nil, Pu.toq_nx, Pu.toq_ct, Pu.toq_bk, Pu.toq_rt, Pu.toq_pick, Pu.tgq_ok, Pu.lcq_ok, Pu.z_lc, Pu.lc_nil, Pu.wp_nil', Pu.wp_cons', Pu.z_body', Pu.finP_nx, Pu.finP_rt, Pu.finP_pick, Pu.y_add, Pu.y_sub, Pu.y_lt, Pu.y_le, Pu.y_gt, Pu.y_ge, Pu.y_eqI, Pu.y_eqS, Pu.y_neI, Pu.y_neS, Pu.y_lenT, Pu.y_lenL, Pu.y_lenR, Pu.y_int, Pu.y_intB, Pu.y_tupT, Pu.y_tupL, Pu.y_lstT, Pu.y_lstL, Pu.y_isii, Pu.y_isib, Pu.y_isss, Pu.y_istt, Pu.y_ixT, Pu.y_ixW, Pu.y_ixL, Pu.at_0, Pu.at_1, Pu.at_2, Pu.tp_non, Pu.tp_bl, Pu.tp_int, Pu.tp_tup, Pu.tp_lst, List.getElem?_cons_zero, List.getElem?_cons_succ, List.set_cons_zero, List.set_cons_succ, List.map_cons, List.map_nil, List.replicate_zero, List.replicate_succ, List.cons_append, List.nil_append, List.append_nil, List.length_cons, List.length_nil, Nat.sub_self, Bool.not_true, Bool.not_false, decide_true, decide_false, Nat.zero_add, Nat.add_one_sub_one, eq_self, lcJ_ok sz, List.length_map, ew, w_way_of h1 h2 hr hk, ew', w_like (gd_wof h2 hr hk)])
  subst e
  simp only [Vm.bind_some', Vm.pick_t, Vm.pick_f, Pu.gq_ok, Pu.z_var, Pu.z_c, Pu.wr_ok, Pu.bq1_ok, Pu.bq2_ok, Pu.z_bin, Pu.iq1_ok, Pu.z_if, Pu.z_ifS, Pu.z_nil, Pu.cq1_ok, Pu.cq2_ok, Pu.z_cons, Pu.fq1_ok, Pu.z_fn, Pu.z_tup, Pu.z_lst, Pu.tupQ_0, Pu.tupQ_1, Pu.tupQ_2, Pu.tupQ_3, Pu.lstQ_0, Pu.lstQ_1, Pu.lstQ_2, Pu.lstQ_3, Pu.lstQ_4, Pu.lstQ_5, Pu.lstQ_6, Pu.bq_ok, Pu.z_b, Pu.blQ_ok, Pu.z_bV, Pu.tq1_ok, Pu.tq2_ok, Pu.z_bT, Pu.aq1_ok, Pu.z_bAnd, Pu.oq1_ok, Pu.z_bOr, Pu.nq1_ok, Pu.z_bNot, Pu.z_yes, Pu.vq1_ok, Pu.vq2_ok, Pu.z_and, Pu.uq1_ok, Pu.uq2_ok, Pu.z_or, Pu.xq1_ok, Pu.xq2_ok, Pu.z_not, Pu.ngQ_ok, Pu.z_neg, Pu.kq3_ok, Pu.kq2_ok, Pu.kq1_ok, Pu.z_chain, Pu.z_oNone, Pu.osQ_ok, Pu.z_oSome, Pu.sq1_ok, Pu.sq2_ok, Pu.sq3_ok, Pu.z_slice, Pu.z_slT, Pu.z_slL, Pu.rvQ_ok, Pu.z_revT, Pu.r1Q_ok, Pu.z_rg1, Pu.z_tupR, Pu.z_lstR, Pu.lq1_ok, Pu.lq2_ok, Pu.lq3_ok, Pu.z_callL, Pu.nq_ok, Pu.z_fnK, Pu.qs_nx, Pu.qs_rt, Pu.qs_bk, Pu.qs_ct, Pu.qs_pick, Pu.z_seq, Pu.z_next, Pu.z_bk, Pu.z_ct, Pu.eq1_ok, Pu.z_expr, Pu.rq1_ok, Pu.z_ret, Pu.z_retN, Pu.gq1_ok, Pu.gq2_ok, Pu.z_asg, Pu.z_nm, Pu.z_gt, Pu.z_gw, Pu.z_gn, Pu.gcq_ok, Pu.z_gc, Pu.sbI_ok, Pu.sbJ_ok, Pu.sbO_ok, Pu.z_sub, Pu.puI_ok, Pu.z_put, Pu.apI_ok, Pu.z_append, Pu.pq1_ok, Pu.pq2_ok, Pu.z_par, Pu.p3q1_ok, Pu.p3q2_ok, Pu.p3q3_ok, Pu.z_par3, Pu.wq_ok, Pu.iqS_ok, Pu.it_tup, Pu.it_lst, Pu.it_rl, Pu.z_iSeq, Pu.z_iRng1, Pu.enQ_tup, Pu.enQ_lst, Pu.z_iEnum, Pu.zq1_ok, Pu.zq2_ok, Pu.z_iZip, Pu.foq_ok, Pu.z_for, Pu.for_nil, Pu.toq_nx, Pu.toq_ct, Pu.toq_bk, Pu.toq_rt, Pu.toq_pick, Pu.tgq_ok, Pu.lcq_ok, Pu.z_lc, Pu.lc_nil, Pu.wp_nil', Pu.wp_cons', Pu.z_body', Pu.finP_nx, Pu.finP_rt, Pu.finP_pick, Pu.y_add, Pu.y_sub, Pu.y_lt, Pu.y_le, Pu.y_gt, Pu.y_ge, Pu.y_eqI, Pu.y_eqS, Pu.y_neI, Pu.y_neS, Pu.y_lenT, Pu.y_lenL, Pu.y_lenR, Pu.y_int, Pu.y_intB, Pu.y_tupT, Pu.y_tupL, Pu.y_lstT, Pu.y_lstL, Pu.y_isii, Pu.y_isib, Pu.y_isss, Pu.y_istt, Pu.y_ixT, Pu.y_ixW, Pu.y_ixL, Pu.at_0, Pu.at_1, Pu.at_2, Pu.tp_non, Pu.tp_bl, Pu.tp_int, Pu.tp_tup, Pu.tp_lst, List.getElem?_cons_zero, List.getElem?_cons_succ, List.set_cons_zero, List.set_cons_succ, List.map_cons, List.map_nil, List.replicate_zero, List.replicate_succ, List.cons_append, List.nil_append, List.append_nil, List.length_cons, List.length_nil, Nat.sub_self, Bool.not_true, Bool.not_false, decide_true, decide_false, Nat.zero_add, Nat.add_one_sub_one, eq_self]
  rw [lc_all (F := mtV) _ (fun m _ => ⟨_, rfl, by
    have mw : mwV m = .tup [.int (m.1 : Int), .int (m.2.1 : Int), .int (sgn m.2.2)] := rfl
    simp only [Vm.bind_some', Vm.pick_t, Vm.pick_f, Pu.gq_ok, Pu.z_var, Pu.z_c, Pu.wr_ok, Pu.bq1_ok, Pu.bq2_ok, Pu.z_bin, Pu.iq1_ok, Pu.z_if, Pu.z_ifS, Pu.z_nil, Pu.cq1_ok, Pu.cq2_ok, Pu.z_cons, Pu.fq1_ok, Pu.z_fn, Pu.z_tup, Pu.z_lst, Pu.tupQ_0, Pu.tupQ_1, Pu.tupQ_2, Pu.tupQ_3, Pu.lstQ_0, Pu.lstQ_1, Pu.lstQ_2, Pu.lstQ_3, Pu.lstQ_4, Pu.lstQ_5, Pu.lstQ_6, Pu.bq_ok, Pu.z_b, Pu.blQ_ok, Pu.z_bV, Pu.tq1_ok, Pu.tq2_ok, Pu.z_bT, Pu.aq1_ok, Pu.z_bAnd, Pu.oq1_ok, Pu.z_bOr, Pu.nq1_ok, Pu.z_bNot, Pu.z_yes, Pu.vq1_ok, Pu.vq2_ok, Pu.z_and, Pu.uq1_ok, Pu.uq2_ok, Pu.z_or, Pu.xq1_ok, Pu.xq2_ok, Pu.z_not, Pu.ngQ_ok, Pu.z_neg, Pu.kq3_ok, Pu.kq2_ok, Pu.kq1_ok, Pu.z_chain, Pu.z_oNone, Pu.osQ_ok, Pu.z_oSome, Pu.sq1_ok, Pu.sq2_ok, Pu.sq3_ok, Pu.z_slice, Pu.z_slT, Pu.z_slL, Pu.rvQ_ok, Pu.z_revT, Pu.r1Q_ok, Pu.z_rg1, Pu.z_tupR, Pu.z_lstR, Pu.lq1_ok, Pu.lq2_ok, Pu.lq3_ok, Pu.z_callL, Pu.nq_ok, Pu.z_fnK, Pu.qs_nx, Pu.qs_rt, Pu.qs_bk, Pu.qs_ct, Pu.qs_pick, Pu.z_seq, Pu.z_next, Pu.z_bk, Pu.z_ct, Pu.eq1_ok, Pu.z_expr, Pu.rq1_ok, Pu.z_ret, Pu.z_retN, Pu.gq1_ok, Pu.gq2_ok, Pu.z_asg, Pu.z_nm, Pu.z_gt, Pu.z_gw, Pu.z_gn, Pu.gcq_ok, Pu.z_gc, Pu.sbI_ok, Pu.sbJ_ok, Pu.sbO_ok, Pu.z_sub, Pu.puI_ok, Pu.z_put, Pu.apI_ok, Pu.z_append, Pu.pq1_ok, Pu.pq2_ok, Pu.z_par, Pu.p3q1_ok, Pu.p3q2_ok, Pu.p3q3_ok, Pu.z_par3, Pu.wq_ok, Pu.iqS_ok, Pu.it_tup, Pu.it_lst, Pu.it_rl, Pu.z_iSeq, Pu.z_iRng1, Pu.enQ_tup, Pu.enQ_lst, Pu.z_iEnum, Pu.zq1_ok, Pu.zq2_ok, Pu.z_iZip, Pu.foq_ok, Pu.z_for, Pu.for_nil, Pu.toq_nx, Pu.toq_ct, Pu.toq_bk, Pu.toq_rt, Pu.toq_pick, Pu.tgq_ok, Pu.lcq_ok, Pu.z_lc, Pu.lc_nil, Pu.wp_nil', Pu.wp_cons', Pu.z_body', Pu.finP_nx, Pu.finP_rt, Pu.finP_pick, Pu.y_add, Pu.y_sub, Pu.y_lt, Pu.y_le, Pu.y_gt, Pu.y_ge, Pu.y_eqI, Pu.y_eqS, Pu.y_neI, Pu.y_neS, Pu.y_lenT, Pu.y_lenL, Pu.y_lenR, Pu.y_int, Pu.y_intB, Pu.y_tupT, Pu.y_tupL, Pu.y_lstT, Pu.y_lstL, Pu.y_isii, Pu.y_isib, Pu.y_isss, Pu.y_istt, Pu.y_ixT, Pu.y_ixW, Pu.y_ixL, Pu.at_0, Pu.at_1, Pu.at_2, Pu.tp_non, Pu.tp_bl, Pu.tp_int, Pu.tp_tup, Pu.tp_lst, List.getElem?_cons_zero, List.getElem?_cons_succ, List.set_cons_zero, List.set_cons_succ, List.map_cons, List.map_nil, List.replicate_zero, List.replicate_succ, List.cons_append, List.nil_append, List.append_nil, List.length_cons, List.length_nil, Nat.sub_self, Bool.not_true, Bool.not_false, decide_true, decide_false, Nat.zero_add, Nat.add_one_sub_one, eq_self, mw, sgn_eq, sideE]
    rfl⟩)]
  have sz : (mts (List.range n) r).length ≤ 1000000 := by rw [mts_len]; have := hr.1; omega
  have em : P.tup ((mts (List.range n) r).map mtV) = metV n r := rfl
  simp only [Vm.bind_some', Vm.pick_t, Vm.pick_f, Pu.gq_ok, Pu.z_var, Pu.z_c, Pu.wr_ok, Pu.bq1_ok, Pu.bq2_ok, Pu.z_bin, Pu.iq1_ok, Pu.z_if, Pu.z_ifS, Pu.z_nil, Pu.cq1_ok, Pu.cq2_ok, Pu.z_cons, Pu.fq1_ok, Pu.z_fn, Pu.z_tup, Pu.z_lst, Pu.tupQ_0, Pu.tupQ_1, Pu.tupQ_2, Pu.tupQ_3, Pu.lstQ_0, Pu.lstQ_1, Pu.lstQ_2, Pu.lstQ_3, Pu.lstQ_4, Pu.lstQ_5, Pu.lstQ_6, Pu.bq_ok, Pu.z_b, Pu.blQ_ok, Pu.z_bV, Pu.tq1_ok, Pu.tq2_ok, Pu.z_bT, Pu.aq1_ok, Pu.z_bAnd, Pu.oq1_ok, Pu.z_bOr, Pu.nq1_ok, Pu.z_bNot, Pu.z_yes, Pu.vq1_ok, Pu.vq2_ok, Pu.z_and, Pu.uq1_ok, Pu.uq2_ok, Pu.z_or, Pu.xq1_ok, Pu.xq2_ok, Pu.z_not, Pu.ngQ_ok, Pu.z_neg, Pu.kq3_ok, Pu.kq2_ok, Pu.kq1_ok, Pu.z_chain, Pu.z_oNone, Pu.osQ_ok, Pu.z_oSome, Pu.sq1_ok, Pu.sq2_ok, Pu.sq3_ok, Pu.z_slice, Pu.z_slT, Pu.z_slL, Pu.rvQ_ok, Pu.z_revT, Pu.r1Q_ok, Pu.z_rg1, Pu.z_tupR, Pu.z_lstR, Pu.lq1_ok, Pu.lq2_ok, Pu.lq3_ok, Pu.z_callL, Pu.nq_ok, Pu.z_fnK, Pu.qs_nx, Pu.qs_rt, Pu.qs_bk, Pu.qs_ct, Pu.qs_pick, Pu.z_seq, Pu.z_next, Pu.z_bk, Pu.z_ct, Pu.eq1_ok, Pu.z_expr, Pu.rq1_ok, Pu.z_ret, Pu.z_retN, Pu.gq1_ok, Pu.gq2_ok, Pu.z_asg, Pu.z_nm, Pu.z_gt, Pu.z_gw, Pu.z_gn, Pu.gcq_ok, Pu.z_gc, Pu.sbI_ok, Pu.sbJ_ok, Pu.sbO_ok, Pu.z_sub, Pu.puI_ok, Pu.z_put, Pu.apI_ok, Pu.z_append, Pu.pq1_ok, Pu.pq2_ok, Pu.z_par, Pu.p3q1_ok, Pu.p3q2_ok, Pu.p3q3_ok, Pu.z_par3, Pu.wq_ok, Pu.iqS_ok, Pu.it_tup, Pu.it_lst, Pu.it_rl, Pu.z_iSeq, Pu.z_iRng1, Pu.enQ_tup, Pu.enQ_lst, Pu.z_iEnum, Pu.zq1_ok, Pu.zq2_ok, Pu.z_iZip, Pu.foq_ok, Pu.z_for, Pu.for_nil, Pu.toq_nx, Pu.toq_ct, Pu.toq_bk, Pu.toq_rt, Pu.toq_pick, Pu.tgq_ok, Pu.lcq_ok, Pu.z_lc, Pu.lc_nil, Pu.wp_nil', Pu.wp_cons', Pu.z_body', Pu.finP_nx, Pu.finP_rt, Pu.finP_pick, Pu.y_add, Pu.y_sub, Pu.y_lt, Pu.y_le, Pu.y_gt, Pu.y_ge, Pu.y_eqI, Pu.y_eqS, Pu.y_neI, Pu.y_neS, Pu.y_lenT, Pu.y_lenL, Pu.y_lenR, Pu.y_int, Pu.y_intB, Pu.y_tupT, Pu.y_tupL, Pu.y_lstT, Pu.y_lstL, Pu.y_isii, Pu.y_isib, Pu.y_isss, Pu.y_istt, Pu.y_ixT, Pu.y_ixW, Pu.y_ixL, Pu.at_0, Pu.at_1, Pu.at_2, Pu.tp_non, Pu.tp_bl, Pu.tp_int, Pu.tp_tup, Pu.tp_lst, List.getElem?_cons_zero, List.getElem?_cons_succ, List.set_cons_zero, List.set_cons_succ, List.map_cons, List.map_nil, List.replicate_zero, List.replicate_succ, List.cons_append, List.nil_append, List.append_nil, List.length_cons, List.length_nil, Nat.sub_self, Bool.not_true, Bool.not_false, decide_true, decide_false, Nat.zero_add, Nat.add_one_sub_one, eq_self, lcJ_ok sz, List.length_map, em, w_met h1 h2 hr, w_like (gd_met h2 hr), w_crossed_right h1 h2 hr]

theorem gd_3 {w k : Nat} {a b c : P} (ga : Gd w k a) (gb : Gd w k b) (gc : Gd w k c) : Gd (3 * (w + 1)) (k + 1) (.lst [a, b, c]) := (GdL.cons ga (.cons gb (.cons gc .nil))).lst
theorem gd_2 {w k : Nat} {a b : P} (ga : Gd w k a) (gb : Gd w k b) : Gd (2 * (w + 1)) (k + 1) (.lst [a, b]) := (GdL.cons ga (.cons gb .nil)).lst
theorem back_due : ((List.range n).map fun k => P.int ((back_ (List.range n) r).idxOf k : Nat)) = nv (back_ (List.range n) (backR r)) := by
  rw [back_inv]; simp [nv]
theorem glass_due (hr : Ok n r) : ((List.range n).map fun k => P.int ((n - 1 - (back_ (List.range n) r).getD (n - 1 - k) 0 : Nat) : Int)) = nv (back_ (List.range n) (mirr n r)) := by
  rw [back_mirr_eq hr.2]
  have bl : (back_ (List.range n) r).length = n := by rw [back_len, List.length_range]
  apply List.ext_getElem
  · simp [nv, bl]
  · intro i h1 h2
    simp only [List.length_map, List.length_range] at h1
    simp [nv, bl, List.getD, List.getElem?_eq_getElem (show n - 1 - i < (back_ (List.range n) r).length by omega)]
theorem w_orders {l : List (List (Bool × Nat))} {pe : PEn} (h1 : 2 ≤ n) (h2 : n ≤ 5) (hl : ∀ q ∈ l, Ok n q) (g : ∀ q, ∃ pe', qNm 10 (rowV q) (wipeP pe [10]) s = some (pe', s) ∧ pe'[0]? = some (some (.int n)) ∧ pe'[10]? = some (some (rowV q))) : lcP [10] (qNm 10) qbYes (qFn p_order_of (qCons (qVar 0) (qCons (qVar 10) qNil))) pe (l.map rowV) s = some (l.map (ordV n), s) :=
  lc_all (F := ordV n) _ fun q m => by
    obtain ⟨pe', e, e1, e2⟩ := g q
    refine ⟨pe', e, ?_⟩
    simp only [Vm.bind_some', Vm.pick_t, Vm.pick_f, Pu.gq_ok, Pu.z_var, Pu.z_c, Pu.wr_ok, Pu.bq1_ok, Pu.bq2_ok, Pu.z_bin, Pu.iq1_ok, Pu.z_if, Pu.z_ifS, Pu.z_nil, Pu.cq1_ok, Pu.cq2_ok, Pu.z_cons, Pu.fq1_ok, Pu.z_fn, Pu.z_tup, Pu.z_lst, Pu.tupQ_0, Pu.tupQ_1, Pu.tupQ_2, Pu.tupQ_3, Pu.lstQ_0, Pu.lstQ_1, Pu.lstQ_2, Pu.lstQ_3, Pu.lstQ_4, Pu.lstQ_5, Pu.lstQ_6, Pu.bq_ok, Pu.z_b, Pu.blQ_ok, Pu.z_bV, Pu.tq1_ok, Pu.tq2_ok, Pu.z_bT, Pu.aq1_ok, Pu.z_bAnd, Pu.oq1_ok, Pu.z_bOr, Pu.nq1_ok, Pu.z_bNot, Pu.z_yes, Pu.vq1_ok, Pu.vq2_ok, Pu.z_and, Pu.uq1_ok, Pu.uq2_ok, Pu.z_or, Pu.xq1_ok, Pu.xq2_ok, Pu.z_not, Pu.ngQ_ok, Pu.z_neg, Pu.kq3_ok, Pu.kq2_ok, Pu.kq1_ok, Pu.z_chain, Pu.z_oNone, Pu.osQ_ok, Pu.z_oSome, Pu.sq1_ok, Pu.sq2_ok, Pu.sq3_ok, Pu.z_slice, Pu.z_slT, Pu.z_slL, Pu.rvQ_ok, Pu.z_revT, Pu.r1Q_ok, Pu.z_rg1, Pu.z_tupR, Pu.z_lstR, Pu.lq1_ok, Pu.lq2_ok, Pu.lq3_ok, Pu.z_callL, Pu.nq_ok, Pu.z_fnK, Pu.qs_nx, Pu.qs_rt, Pu.qs_bk, Pu.qs_ct, Pu.qs_pick, Pu.z_seq, Pu.z_next, Pu.z_bk, Pu.z_ct, Pu.eq1_ok, Pu.z_expr, Pu.rq1_ok, Pu.z_ret, Pu.z_retN, Pu.gq1_ok, Pu.gq2_ok, Pu.z_asg, Pu.z_nm, Pu.z_gt, Pu.z_gw, Pu.z_gn, Pu.gcq_ok, Pu.z_gc, Pu.sbI_ok, Pu.sbJ_ok, Pu.sbO_ok, Pu.z_sub, Pu.puI_ok, Pu.z_put, Pu.apI_ok, Pu.z_append, Pu.pq1_ok, Pu.pq2_ok, Pu.z_par, Pu.p3q1_ok, Pu.p3q2_ok, Pu.p3q3_ok, Pu.z_par3, Pu.wq_ok, Pu.iqS_ok, Pu.it_tup, Pu.it_lst, Pu.it_rl, Pu.z_iSeq, Pu.z_iRng1, Pu.enQ_tup, Pu.enQ_lst, Pu.z_iEnum, Pu.zq1_ok, Pu.zq2_ok, Pu.z_iZip, Pu.foq_ok, Pu.z_for, Pu.for_nil, Pu.toq_nx, Pu.toq_ct, Pu.toq_bk, Pu.toq_rt, Pu.toq_pick, Pu.tgq_ok, Pu.lcq_ok, Pu.z_lc, Pu.lc_nil, Pu.wp_nil', Pu.wp_cons', Pu.z_body', Pu.finP_nx, Pu.finP_rt, Pu.finP_pick, Pu.y_add, Pu.y_sub, Pu.y_lt, Pu.y_le, Pu.y_gt, Pu.y_ge, Pu.y_eqI, Pu.y_eqS, Pu.y_neI, Pu.y_neS, Pu.y_lenT, Pu.y_lenL, Pu.y_lenR, Pu.y_int, Pu.y_intB, Pu.y_tupT, Pu.y_tupL, Pu.y_lstT, Pu.y_lstL, Pu.y_isii, Pu.y_isib, Pu.y_isss, Pu.y_istt, Pu.y_ixT, Pu.y_ixW, Pu.y_ixL, Pu.at_0, Pu.at_1, Pu.at_2, Pu.tp_non, Pu.tp_bl, Pu.tp_int, Pu.tp_tup, Pu.tp_lst, List.getElem?_cons_zero, List.getElem?_cons_succ, List.set_cons_zero, List.set_cons_succ, List.map_cons, List.map_nil, List.replicate_zero, List.replicate_succ, List.cons_append, List.nil_append, List.append_nil, List.length_cons, List.length_nil, Nat.sub_self, Bool.not_true, Bool.not_false, decide_true, decide_false, Nat.zero_add, Nat.add_one_sub_one, eq_self, e1, e2, w_order_of h1 h2 (hl q m)]
theorem w_made_right (h1 : 2 ≤ n) (h2 : n ≤ 5) (hr : Ok n r) : p__law_made_right [.int n, rowV r] s = some (.bl true, s) := by
  have rn : (List.range n).length ≤ 1000000 := by rw [List.length_range]; omega
  have sz : (mts (List.range n) r).length ≤ 1000000 := by rw [mts_len]; have := hr.1; omega
  have bl : (back_ (List.range n) r).length = n := by rw [back_len, List.length_range]
  unfold p__law_made_right q__law_made_right
  simp only [Vm.bind_some', Vm.pick_t, Vm.pick_f, Pu.gq_ok, Pu.z_var, Pu.z_c, Pu.wr_ok, Pu.bq1_ok, Pu.bq2_ok, Pu.z_bin, Pu.iq1_ok, Pu.z_if, Pu.z_ifS, Pu.z_nil, Pu.cq1_ok, Pu.cq2_ok, Pu.z_cons, Pu.fq1_ok, Pu.z_fn, Pu.z_tup, Pu.z_lst, Pu.tupQ_0, Pu.tupQ_1, Pu.tupQ_2, Pu.tupQ_3, Pu.lstQ_0, Pu.lstQ_1, Pu.lstQ_2, Pu.lstQ_3, Pu.lstQ_4, Pu.lstQ_5, Pu.lstQ_6, Pu.bq_ok, Pu.z_b, Pu.blQ_ok, Pu.z_bV, Pu.tq1_ok, Pu.tq2_ok, Pu.z_bT, Pu.aq1_ok, Pu.z_bAnd, Pu.oq1_ok, Pu.z_bOr, Pu.nq1_ok, Pu.z_bNot, Pu.z_yes, Pu.vq1_ok, Pu.vq2_ok, Pu.z_and, Pu.uq1_ok, Pu.uq2_ok, Pu.z_or, Pu.xq1_ok, Pu.xq2_ok, Pu.z_not, Pu.ngQ_ok, Pu.z_neg, Pu.kq3_ok, Pu.kq2_ok, Pu.kq1_ok, Pu.z_chain, Pu.z_oNone, Pu.osQ_ok, Pu.z_oSome, Pu.sq1_ok, Pu.sq2_ok, Pu.sq3_ok, Pu.z_slice, Pu.z_slT, Pu.z_slL, Pu.rvQ_ok, Pu.z_revT, Pu.r1Q_ok, Pu.z_rg1, Pu.z_tupR, Pu.z_lstR, Pu.lq1_ok, Pu.lq2_ok, Pu.lq3_ok, Pu.z_callL, Pu.nq_ok, Pu.z_fnK, Pu.qs_nx, Pu.qs_rt, Pu.qs_bk, Pu.qs_ct, Pu.qs_pick, Pu.z_seq, Pu.z_next, Pu.z_bk, Pu.z_ct, Pu.eq1_ok, Pu.z_expr, Pu.rq1_ok, Pu.z_ret, Pu.z_retN, Pu.gq1_ok, Pu.gq2_ok, Pu.z_asg, Pu.z_nm, Pu.z_gt, Pu.z_gw, Pu.z_gn, Pu.gcq_ok, Pu.z_gc, Pu.sbI_ok, Pu.sbJ_ok, Pu.sbO_ok, Pu.z_sub, Pu.puI_ok, Pu.z_put, Pu.apI_ok, Pu.z_append, Pu.pq1_ok, Pu.pq2_ok, Pu.z_par, Pu.p3q1_ok, Pu.p3q2_ok, Pu.p3q3_ok, Pu.z_par3, Pu.wq_ok, Pu.iqS_ok, Pu.it_tup, Pu.it_lst, Pu.it_rl, Pu.z_iSeq, Pu.z_iRng1, Pu.enQ_tup, Pu.enQ_lst, Pu.z_iEnum, Pu.zq1_ok, Pu.zq2_ok, Pu.z_iZip, Pu.foq_ok, Pu.z_for, Pu.for_nil, Pu.toq_nx, Pu.toq_ct, Pu.toq_bk, Pu.toq_rt, Pu.toq_pick, Pu.tgq_ok, Pu.lcq_ok, Pu.z_lc, Pu.lc_nil, Pu.wp_nil', Pu.wp_cons', Pu.z_body', Pu.finP_nx, Pu.finP_rt, Pu.finP_pick, Pu.y_add, Pu.y_sub, Pu.y_lt, Pu.y_le, Pu.y_gt, Pu.y_ge, Pu.y_eqI, Pu.y_eqS, Pu.y_neI, Pu.y_neS, Pu.y_lenT, Pu.y_lenL, Pu.y_lenR, Pu.y_int, Pu.y_intB, Pu.y_tupT, Pu.y_tupL, Pu.y_lstT, Pu.y_lstL, Pu.y_isii, Pu.y_isib, Pu.y_isss, Pu.y_istt, Pu.y_ixT, Pu.y_ixW, Pu.y_ixL, Pu.at_0, Pu.at_1, Pu.at_2, Pu.tp_non, Pu.tp_bl, Pu.tp_int, Pu.tp_tup, Pu.tp_lst, List.getElem?_cons_zero, List.getElem?_cons_succ, List.set_cons_zero, List.set_cons_succ, List.map_cons, List.map_nil, List.replicate_zero, List.replicate_succ, List.cons_append, List.nil_append, List.append_nil, List.length_cons, List.length_nil, Nat.sub_self, Bool.not_true, Bool.not_false, decide_true, decide_false, Nat.zero_add, Nat.add_one_sub_one, eq_self, w_l_back hr, w_l_mirror hr, w_l_over hr, w_back_row h1 h2 hr, w_mirrored h1 h2 hr, w_turned h1 h2 hr, w_like (gd_3 (gd_row h2 hr.back) (gd_row h2 hr.mirr) (gd_row h2 hr.turned)), w_l_ways h2 hr, lw_last, rgQ_nv (show n ≤ 1000 by omega)]
  rw [nv_map, lc_all (F := fun k => .int ((back_ (List.range n) r).idxOf k : Nat)) _ (fun k m => ⟨_, rfl, by
    have or : ordV n r = .tup (nv (back_ (List.range n) r)) := rfl
    rw [or]
    simp only [Vm.bind_some', Vm.pick_t, Vm.pick_f, Pu.gq_ok, Pu.z_var, Pu.z_c, Pu.wr_ok, Pu.bq1_ok, Pu.bq2_ok, Pu.z_bin, Pu.iq1_ok, Pu.z_if, Pu.z_ifS, Pu.z_nil, Pu.cq1_ok, Pu.cq2_ok, Pu.z_cons, Pu.fq1_ok, Pu.z_fn, Pu.z_tup, Pu.z_lst, Pu.tupQ_0, Pu.tupQ_1, Pu.tupQ_2, Pu.tupQ_3, Pu.lstQ_0, Pu.lstQ_1, Pu.lstQ_2, Pu.lstQ_3, Pu.lstQ_4, Pu.lstQ_5, Pu.lstQ_6, Pu.bq_ok, Pu.z_b, Pu.blQ_ok, Pu.z_bV, Pu.tq1_ok, Pu.tq2_ok, Pu.z_bT, Pu.aq1_ok, Pu.z_bAnd, Pu.oq1_ok, Pu.z_bOr, Pu.nq1_ok, Pu.z_bNot, Pu.z_yes, Pu.vq1_ok, Pu.vq2_ok, Pu.z_and, Pu.uq1_ok, Pu.uq2_ok, Pu.z_or, Pu.xq1_ok, Pu.xq2_ok, Pu.z_not, Pu.ngQ_ok, Pu.z_neg, Pu.kq3_ok, Pu.kq2_ok, Pu.kq1_ok, Pu.z_chain, Pu.z_oNone, Pu.osQ_ok, Pu.z_oSome, Pu.sq1_ok, Pu.sq2_ok, Pu.sq3_ok, Pu.z_slice, Pu.z_slT, Pu.z_slL, Pu.rvQ_ok, Pu.z_revT, Pu.r1Q_ok, Pu.z_rg1, Pu.z_tupR, Pu.z_lstR, Pu.lq1_ok, Pu.lq2_ok, Pu.lq3_ok, Pu.z_callL, Pu.nq_ok, Pu.z_fnK, Pu.qs_nx, Pu.qs_rt, Pu.qs_bk, Pu.qs_ct, Pu.qs_pick, Pu.z_seq, Pu.z_next, Pu.z_bk, Pu.z_ct, Pu.eq1_ok, Pu.z_expr, Pu.rq1_ok, Pu.z_ret, Pu.z_retN, Pu.gq1_ok, Pu.gq2_ok, Pu.z_asg, Pu.z_nm, Pu.z_gt, Pu.z_gw, Pu.z_gn, Pu.gcq_ok, Pu.z_gc, Pu.sbI_ok, Pu.sbJ_ok, Pu.sbO_ok, Pu.z_sub, Pu.puI_ok, Pu.z_put, Pu.apI_ok, Pu.z_append, Pu.pq1_ok, Pu.pq2_ok, Pu.z_par, Pu.p3q1_ok, Pu.p3q2_ok, Pu.p3q3_ok, Pu.z_par3, Pu.wq_ok, Pu.iqS_ok, Pu.it_tup, Pu.it_lst, Pu.it_rl, Pu.z_iSeq, Pu.z_iRng1, Pu.enQ_tup, Pu.enQ_lst, Pu.z_iEnum, Pu.zq1_ok, Pu.zq2_ok, Pu.z_iZip, Pu.foq_ok, Pu.z_for, Pu.for_nil, Pu.toq_nx, Pu.toq_ct, Pu.toq_bk, Pu.toq_rt, Pu.toq_pick, Pu.tgq_ok, Pu.lcq_ok, Pu.z_lc, Pu.lc_nil, Pu.wp_nil', Pu.wp_cons', Pu.z_body', Pu.finP_nx, Pu.finP_rt, Pu.finP_pick, Pu.y_add, Pu.y_sub, Pu.y_lt, Pu.y_le, Pu.y_gt, Pu.y_ge, Pu.y_eqI, Pu.y_eqS, Pu.y_neI, Pu.y_neS, Pu.y_lenT, Pu.y_lenL, Pu.y_lenR, Pu.y_int, Pu.y_intB, Pu.y_tupT, Pu.y_tupL, Pu.y_lstT, Pu.y_lstL, Pu.y_isii, Pu.y_isib, Pu.y_isss, Pu.y_istt, Pu.y_ixT, Pu.y_ixW, Pu.y_ixL, Pu.at_0, Pu.at_1, Pu.at_2, Pu.tp_non, Pu.tp_bl, Pu.tp_int, Pu.tp_tup, Pu.tp_lst, List.getElem?_cons_zero, List.getElem?_cons_succ, List.set_cons_zero, List.set_cons_succ, List.map_cons, List.map_nil, List.replicate_zero, List.replicate_succ, List.cons_append, List.nil_append, List.append_nil, List.length_cons, List.length_nil, Nat.sub_self, Bool.not_true, Bool.not_false, decide_true, decide_false, Nat.zero_add, Nat.add_one_sub_one, eq_self, y_index (back_mem.mpr m)]⟩), back_due]
  simp only [Vm.bind_some', Vm.pick_t, Vm.pick_f, Pu.gq_ok, Pu.z_var, Pu.z_c, Pu.wr_ok, Pu.bq1_ok, Pu.bq2_ok, Pu.z_bin, Pu.iq1_ok, Pu.z_if, Pu.z_ifS, Pu.z_nil, Pu.cq1_ok, Pu.cq2_ok, Pu.z_cons, Pu.fq1_ok, Pu.z_fn, Pu.z_tup, Pu.z_lst, Pu.tupQ_0, Pu.tupQ_1, Pu.tupQ_2, Pu.tupQ_3, Pu.lstQ_0, Pu.lstQ_1, Pu.lstQ_2, Pu.lstQ_3, Pu.lstQ_4, Pu.lstQ_5, Pu.lstQ_6, Pu.bq_ok, Pu.z_b, Pu.blQ_ok, Pu.z_bV, Pu.tq1_ok, Pu.tq2_ok, Pu.z_bT, Pu.aq1_ok, Pu.z_bAnd, Pu.oq1_ok, Pu.z_bOr, Pu.nq1_ok, Pu.z_bNot, Pu.z_yes, Pu.vq1_ok, Pu.vq2_ok, Pu.z_and, Pu.uq1_ok, Pu.uq2_ok, Pu.z_or, Pu.xq1_ok, Pu.xq2_ok, Pu.z_not, Pu.ngQ_ok, Pu.z_neg, Pu.kq3_ok, Pu.kq2_ok, Pu.kq1_ok, Pu.z_chain, Pu.z_oNone, Pu.osQ_ok, Pu.z_oSome, Pu.sq1_ok, Pu.sq2_ok, Pu.sq3_ok, Pu.z_slice, Pu.z_slT, Pu.z_slL, Pu.rvQ_ok, Pu.z_revT, Pu.r1Q_ok, Pu.z_rg1, Pu.z_tupR, Pu.z_lstR, Pu.lq1_ok, Pu.lq2_ok, Pu.lq3_ok, Pu.z_callL, Pu.nq_ok, Pu.z_fnK, Pu.qs_nx, Pu.qs_rt, Pu.qs_bk, Pu.qs_ct, Pu.qs_pick, Pu.z_seq, Pu.z_next, Pu.z_bk, Pu.z_ct, Pu.eq1_ok, Pu.z_expr, Pu.rq1_ok, Pu.z_ret, Pu.z_retN, Pu.gq1_ok, Pu.gq2_ok, Pu.z_asg, Pu.z_nm, Pu.z_gt, Pu.z_gw, Pu.z_gn, Pu.gcq_ok, Pu.z_gc, Pu.sbI_ok, Pu.sbJ_ok, Pu.sbO_ok, Pu.z_sub, Pu.puI_ok, Pu.z_put, Pu.apI_ok, Pu.z_append, Pu.pq1_ok, Pu.pq2_ok, Pu.z_par, Pu.p3q1_ok, Pu.p3q2_ok, Pu.p3q3_ok, Pu.z_par3, Pu.wq_ok, Pu.iqS_ok, Pu.it_tup, Pu.it_lst, Pu.it_rl, Pu.z_iSeq, Pu.z_iRng1, Pu.enQ_tup, Pu.enQ_lst, Pu.z_iEnum, Pu.zq1_ok, Pu.zq2_ok, Pu.z_iZip, Pu.foq_ok, Pu.z_for, Pu.for_nil, Pu.toq_nx, Pu.toq_ct, Pu.toq_bk, Pu.toq_rt, Pu.toq_pick, Pu.tgq_ok, Pu.lcq_ok, Pu.z_lc, Pu.lc_nil, Pu.wp_nil', Pu.wp_cons', Pu.z_body', Pu.finP_nx, Pu.finP_rt, Pu.finP_pick, Pu.y_add, Pu.y_sub, Pu.y_lt, Pu.y_le, Pu.y_gt, Pu.y_ge, Pu.y_eqI, Pu.y_eqS, Pu.y_neI, Pu.y_neS, Pu.y_lenT, Pu.y_lenL, Pu.y_lenR, Pu.y_int, Pu.y_intB, Pu.y_tupT, Pu.y_tupL, Pu.y_lstT, Pu.y_lstL, Pu.y_isii, Pu.y_isib, Pu.y_isss, Pu.y_istt, Pu.y_ixT, Pu.y_ixW, Pu.y_ixL, Pu.at_0, Pu.at_1, Pu.at_2, Pu.tp_non, Pu.tp_bl, Pu.tp_int, Pu.tp_tup, Pu.tp_lst, List.getElem?_cons_zero, List.getElem?_cons_succ, List.set_cons_zero, List.set_cons_succ, List.map_cons, List.map_nil, List.replicate_zero, List.replicate_succ, List.cons_append, List.nil_append, List.append_nil, List.length_cons, List.length_nil, Nat.sub_self, Bool.not_true, Bool.not_false, decide_true, decide_false, Nat.zero_add, Nat.add_one_sub_one, eq_self, lcJ_ok rn, List.length_map, rgQ_nv (show n ≤ 1000 by omega)]
  rw [nv_map (List.range n), lc_all (F := fun k => .int ((n - 1 - (back_ (List.range n) r).getD (n - 1 - k) 0 : Nat) : Int)) _ (fun k m => ⟨_, rfl, by
    have or : ordV n r = .tup (nv (back_ (List.range n) r)) := rfl
    have hk := List.mem_range.mp m
    have e1 : (n : Int) - 1 - (k : Int) = ((n - 1 - k : Nat) : Int) := by omega
    have hj : n - 1 - k < (back_ (List.range n) r).length := by omega
    have lt : (back_ (List.range n) r)[n - 1 - k] < n := List.mem_range.mp (back_mem.mp (List.getElem_mem hj))
    rw [or]
    simp only [Vm.bind_some', Vm.pick_t, Vm.pick_f, Pu.gq_ok, Pu.z_var, Pu.z_c, Pu.wr_ok, Pu.bq1_ok, Pu.bq2_ok, Pu.z_bin, Pu.iq1_ok, Pu.z_if, Pu.z_ifS, Pu.z_nil, Pu.cq1_ok, Pu.cq2_ok, Pu.z_cons, Pu.fq1_ok, Pu.z_fn, Pu.z_tup, Pu.z_lst, Pu.tupQ_0, Pu.tupQ_1, Pu.tupQ_2, Pu.tupQ_3, Pu.lstQ_0, Pu.lstQ_1, Pu.lstQ_2, Pu.lstQ_3, Pu.lstQ_4, Pu.lstQ_5, Pu.lstQ_6, Pu.bq_ok, Pu.z_b, Pu.blQ_ok, Pu.z_bV, Pu.tq1_ok, Pu.tq2_ok, Pu.z_bT, Pu.aq1_ok, Pu.z_bAnd, Pu.oq1_ok, Pu.z_bOr, Pu.nq1_ok, Pu.z_bNot, Pu.z_yes, Pu.vq1_ok, Pu.vq2_ok, Pu.z_and, Pu.uq1_ok, Pu.uq2_ok, Pu.z_or, Pu.xq1_ok, Pu.xq2_ok, Pu.z_not, Pu.ngQ_ok, Pu.z_neg, Pu.kq3_ok, Pu.kq2_ok, Pu.kq1_ok, Pu.z_chain, Pu.z_oNone, Pu.osQ_ok, Pu.z_oSome, Pu.sq1_ok, Pu.sq2_ok, Pu.sq3_ok, Pu.z_slice, Pu.z_slT, Pu.z_slL, Pu.rvQ_ok, Pu.z_revT, Pu.r1Q_ok, Pu.z_rg1, Pu.z_tupR, Pu.z_lstR, Pu.lq1_ok, Pu.lq2_ok, Pu.lq3_ok, Pu.z_callL, Pu.nq_ok, Pu.z_fnK, Pu.qs_nx, Pu.qs_rt, Pu.qs_bk, Pu.qs_ct, Pu.qs_pick, Pu.z_seq, Pu.z_next, Pu.z_bk, Pu.z_ct, Pu.eq1_ok, Pu.z_expr, Pu.rq1_ok, Pu.z_ret, Pu.z_retN, Pu.gq1_ok, Pu.gq2_ok, Pu.z_asg, Pu.z_nm, Pu.z_gt, Pu.z_gw, Pu.z_gn, Pu.gcq_ok, Pu.z_gc, Pu.sbI_ok, Pu.sbJ_ok, Pu.sbO_ok, Pu.z_sub, Pu.puI_ok, Pu.z_put, Pu.apI_ok, Pu.z_append, Pu.pq1_ok, Pu.pq2_ok, Pu.z_par, Pu.p3q1_ok, Pu.p3q2_ok, Pu.p3q3_ok, Pu.z_par3, Pu.wq_ok, Pu.iqS_ok, Pu.it_tup, Pu.it_lst, Pu.it_rl, Pu.z_iSeq, Pu.z_iRng1, Pu.enQ_tup, Pu.enQ_lst, Pu.z_iEnum, Pu.zq1_ok, Pu.zq2_ok, Pu.z_iZip, Pu.foq_ok, Pu.z_for, Pu.for_nil, Pu.toq_nx, Pu.toq_ct, Pu.toq_bk, Pu.toq_rt, Pu.toq_pick, Pu.tgq_ok, Pu.lcq_ok, Pu.z_lc, Pu.lc_nil, Pu.wp_nil', Pu.wp_cons', Pu.z_body', Pu.finP_nx, Pu.finP_rt, Pu.finP_pick, Pu.y_add, Pu.y_sub, Pu.y_lt, Pu.y_le, Pu.y_gt, Pu.y_ge, Pu.y_eqI, Pu.y_eqS, Pu.y_neI, Pu.y_neS, Pu.y_lenT, Pu.y_lenL, Pu.y_lenR, Pu.y_int, Pu.y_intB, Pu.y_tupT, Pu.y_tupL, Pu.y_lstT, Pu.y_lstL, Pu.y_isii, Pu.y_isib, Pu.y_isss, Pu.y_istt, Pu.y_ixT, Pu.y_ixW, Pu.y_ixL, Pu.at_0, Pu.at_1, Pu.at_2, Pu.tp_non, Pu.tp_bl, Pu.tp_int, Pu.tp_tup, Pu.tp_lst, List.getElem?_cons_zero, List.getElem?_cons_succ, List.set_cons_zero, List.set_cons_succ, List.map_cons, List.map_nil, List.replicate_zero, List.replicate_succ, List.cons_append, List.nil_append, List.append_nil, List.length_cons, List.length_nil, Nat.sub_self, Bool.not_true, Bool.not_false, decide_true, decide_false, Nat.zero_add, Nat.add_one_sub_one, eq_self, e1, at_nv hj]
    rw [getD_eq hj]
    have : (n : Int) - 1 - (((back_ (List.range n) r)[n - 1 - k] : Nat) : Int) = ((n - 1 - (back_ (List.range n) r)[n - 1 - k] : Nat) : Int) := by omega
    rw [this]⟩), glass_due hr]
  have tm : [rowV (backR r), rowV (mirr n r), rowV (turned r)] = [backR r, mirr n r, turned r].map rowV := rfl
  simp only [Vm.bind_some', Vm.pick_t, Vm.pick_f, Pu.gq_ok, Pu.z_var, Pu.z_c, Pu.wr_ok, Pu.bq1_ok, Pu.bq2_ok, Pu.z_bin, Pu.iq1_ok, Pu.z_if, Pu.z_ifS, Pu.z_nil, Pu.cq1_ok, Pu.cq2_ok, Pu.z_cons, Pu.fq1_ok, Pu.z_fn, Pu.z_tup, Pu.z_lst, Pu.tupQ_0, Pu.tupQ_1, Pu.tupQ_2, Pu.tupQ_3, Pu.lstQ_0, Pu.lstQ_1, Pu.lstQ_2, Pu.lstQ_3, Pu.lstQ_4, Pu.lstQ_5, Pu.lstQ_6, Pu.bq_ok, Pu.z_b, Pu.blQ_ok, Pu.z_bV, Pu.tq1_ok, Pu.tq2_ok, Pu.z_bT, Pu.aq1_ok, Pu.z_bAnd, Pu.oq1_ok, Pu.z_bOr, Pu.nq1_ok, Pu.z_bNot, Pu.z_yes, Pu.vq1_ok, Pu.vq2_ok, Pu.z_and, Pu.uq1_ok, Pu.uq2_ok, Pu.z_or, Pu.xq1_ok, Pu.xq2_ok, Pu.z_not, Pu.ngQ_ok, Pu.z_neg, Pu.kq3_ok, Pu.kq2_ok, Pu.kq1_ok, Pu.z_chain, Pu.z_oNone, Pu.osQ_ok, Pu.z_oSome, Pu.sq1_ok, Pu.sq2_ok, Pu.sq3_ok, Pu.z_slice, Pu.z_slT, Pu.z_slL, Pu.rvQ_ok, Pu.z_revT, Pu.r1Q_ok, Pu.z_rg1, Pu.z_tupR, Pu.z_lstR, Pu.lq1_ok, Pu.lq2_ok, Pu.lq3_ok, Pu.z_callL, Pu.nq_ok, Pu.z_fnK, Pu.qs_nx, Pu.qs_rt, Pu.qs_bk, Pu.qs_ct, Pu.qs_pick, Pu.z_seq, Pu.z_next, Pu.z_bk, Pu.z_ct, Pu.eq1_ok, Pu.z_expr, Pu.rq1_ok, Pu.z_ret, Pu.z_retN, Pu.gq1_ok, Pu.gq2_ok, Pu.z_asg, Pu.z_nm, Pu.z_gt, Pu.z_gw, Pu.z_gn, Pu.gcq_ok, Pu.z_gc, Pu.sbI_ok, Pu.sbJ_ok, Pu.sbO_ok, Pu.z_sub, Pu.puI_ok, Pu.z_put, Pu.apI_ok, Pu.z_append, Pu.pq1_ok, Pu.pq2_ok, Pu.z_par, Pu.p3q1_ok, Pu.p3q2_ok, Pu.p3q3_ok, Pu.z_par3, Pu.wq_ok, Pu.iqS_ok, Pu.it_tup, Pu.it_lst, Pu.it_rl, Pu.z_iSeq, Pu.z_iRng1, Pu.enQ_tup, Pu.enQ_lst, Pu.z_iEnum, Pu.zq1_ok, Pu.zq2_ok, Pu.z_iZip, Pu.foq_ok, Pu.z_for, Pu.for_nil, Pu.toq_nx, Pu.toq_ct, Pu.toq_bk, Pu.toq_rt, Pu.toq_pick, Pu.tgq_ok, Pu.lcq_ok, Pu.z_lc, Pu.lc_nil, Pu.wp_nil', Pu.wp_cons', Pu.z_body', Pu.finP_nx, Pu.finP_rt, Pu.finP_pick, Pu.y_add, Pu.y_sub, Pu.y_lt, Pu.y_le, Pu.y_gt, Pu.y_ge, Pu.y_eqI, Pu.y_eqS, Pu.y_neI, Pu.y_neS, Pu.y_lenT, Pu.y_lenL, Pu.y_lenR, Pu.y_int, Pu.y_intB, Pu.y_tupT, Pu.y_tupL, Pu.y_lstT, Pu.y_lstL, Pu.y_isii, Pu.y_isib, Pu.y_isss, Pu.y_istt, Pu.y_ixT, Pu.y_ixW, Pu.y_ixL, Pu.at_0, Pu.at_1, Pu.at_2, Pu.tp_non, Pu.tp_bl, Pu.tp_int, Pu.tp_tup, Pu.tp_lst, List.getElem?_cons_zero, List.getElem?_cons_succ, List.set_cons_zero, List.set_cons_succ, List.map_cons, List.map_nil, List.replicate_zero, List.replicate_succ, List.cons_append, List.nil_append, List.append_nil, List.length_cons, List.length_nil, Nat.sub_self, Bool.not_true, Bool.not_false, decide_true, decide_false, Nat.zero_add, Nat.add_one_sub_one, eq_self, lcJ_ok rn, List.length_map]
  rw [tm, w_orders h1 h2 (by
    intro q m
    simp only [List.mem_cons, List.not_mem_nil, or_false] at m
    rcases m with rfl | rfl | rfl
    · exact hr.back
    · exact hr.mirr
    · exact hr.turned) (fun q => ⟨_, rfl, rfl, rfl⟩)]
  have o1 : P.tup (nv (back_ (List.range n) (backR r))) = ordV n (backR r) := rfl
  have o2 : P.tup (nv (back_ (List.range n) (mirr n r))) = ordV n (mirr n r) := rfl
  have o3 : ordV n (turned r) = ordV n r := by unfold ordV; rw [back_turned]
  simp only [Vm.bind_some', Vm.pick_t, Vm.pick_f, Pu.gq_ok, Pu.z_var, Pu.z_c, Pu.wr_ok, Pu.bq1_ok, Pu.bq2_ok, Pu.z_bin, Pu.iq1_ok, Pu.z_if, Pu.z_ifS, Pu.z_nil, Pu.cq1_ok, Pu.cq2_ok, Pu.z_cons, Pu.fq1_ok, Pu.z_fn, Pu.z_tup, Pu.z_lst, Pu.tupQ_0, Pu.tupQ_1, Pu.tupQ_2, Pu.tupQ_3, Pu.lstQ_0, Pu.lstQ_1, Pu.lstQ_2, Pu.lstQ_3, Pu.lstQ_4, Pu.lstQ_5, Pu.lstQ_6, Pu.bq_ok, Pu.z_b, Pu.blQ_ok, Pu.z_bV, Pu.tq1_ok, Pu.tq2_ok, Pu.z_bT, Pu.aq1_ok, Pu.z_bAnd, Pu.oq1_ok, Pu.z_bOr, Pu.nq1_ok, Pu.z_bNot, Pu.z_yes, Pu.vq1_ok, Pu.vq2_ok, Pu.z_and, Pu.uq1_ok, Pu.uq2_ok, Pu.z_or, Pu.xq1_ok, Pu.xq2_ok, Pu.z_not, Pu.ngQ_ok, Pu.z_neg, Pu.kq3_ok, Pu.kq2_ok, Pu.kq1_ok, Pu.z_chain, Pu.z_oNone, Pu.osQ_ok, Pu.z_oSome, Pu.sq1_ok, Pu.sq2_ok, Pu.sq3_ok, Pu.z_slice, Pu.z_slT, Pu.z_slL, Pu.rvQ_ok, Pu.z_revT, Pu.r1Q_ok, Pu.z_rg1, Pu.z_tupR, Pu.z_lstR, Pu.lq1_ok, Pu.lq2_ok, Pu.lq3_ok, Pu.z_callL, Pu.nq_ok, Pu.z_fnK, Pu.qs_nx, Pu.qs_rt, Pu.qs_bk, Pu.qs_ct, Pu.qs_pick, Pu.z_seq, Pu.z_next, Pu.z_bk, Pu.z_ct, Pu.eq1_ok, Pu.z_expr, Pu.rq1_ok, Pu.z_ret, Pu.z_retN, Pu.gq1_ok, Pu.gq2_ok, Pu.z_asg, Pu.z_nm, Pu.z_gt, Pu.z_gw, Pu.z_gn, Pu.gcq_ok, Pu.z_gc, Pu.sbI_ok, Pu.sbJ_ok, Pu.sbO_ok, Pu.z_sub, Pu.puI_ok, Pu.z_put, Pu.apI_ok, Pu.z_append, Pu.pq1_ok, Pu.pq2_ok, Pu.z_par, Pu.p3q1_ok, Pu.p3q2_ok, Pu.p3q3_ok, Pu.z_par3, Pu.wq_ok, Pu.iqS_ok, Pu.it_tup, Pu.it_lst, Pu.it_rl, Pu.z_iSeq, Pu.z_iRng1, Pu.enQ_tup, Pu.enQ_lst, Pu.z_iEnum, Pu.zq1_ok, Pu.zq2_ok, Pu.z_iZip, Pu.foq_ok, Pu.z_for, Pu.for_nil, Pu.toq_nx, Pu.toq_ct, Pu.toq_bk, Pu.toq_rt, Pu.toq_pick, Pu.tgq_ok, Pu.lcq_ok, Pu.z_lc, Pu.lc_nil, Pu.wp_nil', Pu.wp_cons', Pu.z_body', Pu.finP_nx, Pu.finP_rt, Pu.finP_pick, Pu.y_add, Pu.y_sub, Pu.y_lt, Pu.y_le, Pu.y_gt, Pu.y_ge, Pu.y_eqI, Pu.y_eqS, Pu.y_neI, Pu.y_neS, Pu.y_lenT, Pu.y_lenL, Pu.y_lenR, Pu.y_int, Pu.y_intB, Pu.y_tupT, Pu.y_tupL, Pu.y_lstT, Pu.y_lstL, Pu.y_isii, Pu.y_isib, Pu.y_isss, Pu.y_istt, Pu.y_ixT, Pu.y_ixW, Pu.y_ixL, Pu.at_0, Pu.at_1, Pu.at_2, Pu.tp_non, Pu.tp_bl, Pu.tp_int, Pu.tp_tup, Pu.tp_lst, List.getElem?_cons_zero, List.getElem?_cons_succ, List.set_cons_zero, List.set_cons_succ, List.map_cons, List.map_nil, List.replicate_zero, List.replicate_succ, List.cons_append, List.nil_append, List.append_nil, List.length_cons, List.length_nil, Nat.sub_self, Bool.not_true, Bool.not_false, decide_true, decide_false, Nat.zero_add, Nat.add_one_sub_one, eq_self, lcJ_ok (show 0 + 1 + 1 + 1 ≤ 1000000 by decide), o1, o2, o3]
  have mv : metV n r = .tup ((mts (List.range n) r).map mtV) := rfl
  simp only [Vm.bind_some', Vm.pick_t, Vm.pick_f, Pu.gq_ok, Pu.z_var, Pu.z_c, Pu.wr_ok, Pu.bq1_ok, Pu.bq2_ok, Pu.z_bin, Pu.iq1_ok, Pu.z_if, Pu.z_ifS, Pu.z_nil, Pu.cq1_ok, Pu.cq2_ok, Pu.z_cons, Pu.fq1_ok, Pu.z_fn, Pu.z_tup, Pu.z_lst, Pu.tupQ_0, Pu.tupQ_1, Pu.tupQ_2, Pu.tupQ_3, Pu.lstQ_0, Pu.lstQ_1, Pu.lstQ_2, Pu.lstQ_3, Pu.lstQ_4, Pu.lstQ_5, Pu.lstQ_6, Pu.bq_ok, Pu.z_b, Pu.blQ_ok, Pu.z_bV, Pu.tq1_ok, Pu.tq2_ok, Pu.z_bT, Pu.aq1_ok, Pu.z_bAnd, Pu.oq1_ok, Pu.z_bOr, Pu.nq1_ok, Pu.z_bNot, Pu.z_yes, Pu.vq1_ok, Pu.vq2_ok, Pu.z_and, Pu.uq1_ok, Pu.uq2_ok, Pu.z_or, Pu.xq1_ok, Pu.xq2_ok, Pu.z_not, Pu.ngQ_ok, Pu.z_neg, Pu.kq3_ok, Pu.kq2_ok, Pu.kq1_ok, Pu.z_chain, Pu.z_oNone, Pu.osQ_ok, Pu.z_oSome, Pu.sq1_ok, Pu.sq2_ok, Pu.sq3_ok, Pu.z_slice, Pu.z_slT, Pu.z_slL, Pu.rvQ_ok, Pu.z_revT, Pu.r1Q_ok, Pu.z_rg1, Pu.z_tupR, Pu.z_lstR, Pu.lq1_ok, Pu.lq2_ok, Pu.lq3_ok, Pu.z_callL, Pu.nq_ok, Pu.z_fnK, Pu.qs_nx, Pu.qs_rt, Pu.qs_bk, Pu.qs_ct, Pu.qs_pick, Pu.z_seq, Pu.z_next, Pu.z_bk, Pu.z_ct, Pu.eq1_ok, Pu.z_expr, Pu.rq1_ok, Pu.z_ret, Pu.z_retN, Pu.gq1_ok, Pu.gq2_ok, Pu.z_asg, Pu.z_nm, Pu.z_gt, Pu.z_gw, Pu.z_gn, Pu.gcq_ok, Pu.z_gc, Pu.sbI_ok, Pu.sbJ_ok, Pu.sbO_ok, Pu.z_sub, Pu.puI_ok, Pu.z_put, Pu.apI_ok, Pu.z_append, Pu.pq1_ok, Pu.pq2_ok, Pu.z_par, Pu.p3q1_ok, Pu.p3q2_ok, Pu.p3q3_ok, Pu.z_par3, Pu.wq_ok, Pu.iqS_ok, Pu.it_tup, Pu.it_lst, Pu.it_rl, Pu.z_iSeq, Pu.z_iRng1, Pu.enQ_tup, Pu.enQ_lst, Pu.z_iEnum, Pu.zq1_ok, Pu.zq2_ok, Pu.z_iZip, Pu.foq_ok, Pu.z_for, Pu.for_nil, Pu.toq_nx, Pu.toq_ct, Pu.toq_bk, Pu.toq_rt, Pu.toq_pick, Pu.tgq_ok, Pu.lcq_ok, Pu.z_lc, Pu.lc_nil, Pu.wp_nil', Pu.wp_cons', Pu.z_body', Pu.finP_nx, Pu.finP_rt, Pu.finP_pick, Pu.y_add, Pu.y_sub, Pu.y_lt, Pu.y_le, Pu.y_gt, Pu.y_ge, Pu.y_eqI, Pu.y_eqS, Pu.y_neI, Pu.y_neS, Pu.y_lenT, Pu.y_lenL, Pu.y_lenR, Pu.y_int, Pu.y_intB, Pu.y_tupT, Pu.y_tupL, Pu.y_lstT, Pu.y_lstL, Pu.y_isii, Pu.y_isib, Pu.y_isss, Pu.y_istt, Pu.y_ixT, Pu.y_ixW, Pu.y_ixL, Pu.at_0, Pu.at_1, Pu.at_2, Pu.tp_non, Pu.tp_bl, Pu.tp_int, Pu.tp_tup, Pu.tp_lst, List.getElem?_cons_zero, List.getElem?_cons_succ, List.set_cons_zero, List.set_cons_succ, List.map_cons, List.map_nil, List.replicate_zero, List.replicate_succ, List.cons_append, List.nil_append, List.append_nil, List.length_cons, List.length_nil, Nat.sub_self, Bool.not_true, Bool.not_false, decide_true, decide_false, Nat.zero_add, Nat.add_one_sub_one, eq_self, w_like (gd_3 (gd_ord (r := backR r) h2) (gd_ord (r := mirr n r) h2) (gd_ord (r := r) h2)), w_met h1 h2 hr]
  rw [mv]
  simp only [Vm.bind_some', Vm.pick_t, Vm.pick_f, Pu.gq_ok, Pu.z_var, Pu.z_c, Pu.wr_ok, Pu.bq1_ok, Pu.bq2_ok, Pu.z_bin, Pu.iq1_ok, Pu.z_if, Pu.z_ifS, Pu.z_nil, Pu.cq1_ok, Pu.cq2_ok, Pu.z_cons, Pu.fq1_ok, Pu.z_fn, Pu.z_tup, Pu.z_lst, Pu.tupQ_0, Pu.tupQ_1, Pu.tupQ_2, Pu.tupQ_3, Pu.lstQ_0, Pu.lstQ_1, Pu.lstQ_2, Pu.lstQ_3, Pu.lstQ_4, Pu.lstQ_5, Pu.lstQ_6, Pu.bq_ok, Pu.z_b, Pu.blQ_ok, Pu.z_bV, Pu.tq1_ok, Pu.tq2_ok, Pu.z_bT, Pu.aq1_ok, Pu.z_bAnd, Pu.oq1_ok, Pu.z_bOr, Pu.nq1_ok, Pu.z_bNot, Pu.z_yes, Pu.vq1_ok, Pu.vq2_ok, Pu.z_and, Pu.uq1_ok, Pu.uq2_ok, Pu.z_or, Pu.xq1_ok, Pu.xq2_ok, Pu.z_not, Pu.ngQ_ok, Pu.z_neg, Pu.kq3_ok, Pu.kq2_ok, Pu.kq1_ok, Pu.z_chain, Pu.z_oNone, Pu.osQ_ok, Pu.z_oSome, Pu.sq1_ok, Pu.sq2_ok, Pu.sq3_ok, Pu.z_slice, Pu.z_slT, Pu.z_slL, Pu.rvQ_ok, Pu.z_revT, Pu.r1Q_ok, Pu.z_rg1, Pu.z_tupR, Pu.z_lstR, Pu.lq1_ok, Pu.lq2_ok, Pu.lq3_ok, Pu.z_callL, Pu.nq_ok, Pu.z_fnK, Pu.qs_nx, Pu.qs_rt, Pu.qs_bk, Pu.qs_ct, Pu.qs_pick, Pu.z_seq, Pu.z_next, Pu.z_bk, Pu.z_ct, Pu.eq1_ok, Pu.z_expr, Pu.rq1_ok, Pu.z_ret, Pu.z_retN, Pu.gq1_ok, Pu.gq2_ok, Pu.z_asg, Pu.z_nm, Pu.z_gt, Pu.z_gw, Pu.z_gn, Pu.gcq_ok, Pu.z_gc, Pu.sbI_ok, Pu.sbJ_ok, Pu.sbO_ok, Pu.z_sub, Pu.puI_ok, Pu.z_put, Pu.apI_ok, Pu.z_append, Pu.pq1_ok, Pu.pq2_ok, Pu.z_par, Pu.p3q1_ok, Pu.p3q2_ok, Pu.p3q3_ok, Pu.z_par3, Pu.wq_ok, Pu.iqS_ok, Pu.it_tup, Pu.it_lst, Pu.it_rl, Pu.z_iSeq, Pu.z_iRng1, Pu.enQ_tup, Pu.enQ_lst, Pu.z_iEnum, Pu.zq1_ok, Pu.zq2_ok, Pu.z_iZip, Pu.foq_ok, Pu.z_for, Pu.for_nil, Pu.toq_nx, Pu.toq_ct, Pu.toq_bk, Pu.toq_rt, Pu.toq_pick, Pu.tgq_ok, Pu.lcq_ok, Pu.z_lc, Pu.lc_nil, Pu.wp_nil', Pu.wp_cons', Pu.z_body', Pu.finP_nx, Pu.finP_rt, Pu.finP_pick, Pu.y_add, Pu.y_sub, Pu.y_lt, Pu.y_le, Pu.y_gt, Pu.y_ge, Pu.y_eqI, Pu.y_eqS, Pu.y_neI, Pu.y_neS, Pu.y_lenT, Pu.y_lenL, Pu.y_lenR, Pu.y_int, Pu.y_intB, Pu.y_tupT, Pu.y_tupL, Pu.y_lstT, Pu.y_lstL, Pu.y_isii, Pu.y_isib, Pu.y_isss, Pu.y_istt, Pu.y_ixT, Pu.y_ixW, Pu.y_ixL, Pu.at_0, Pu.at_1, Pu.at_2, Pu.tp_non, Pu.tp_bl, Pu.tp_int, Pu.tp_tup, Pu.tp_lst, List.getElem?_cons_zero, List.getElem?_cons_succ, List.set_cons_zero, List.set_cons_succ, List.map_cons, List.map_nil, List.replicate_zero, List.replicate_succ, List.cons_append, List.nil_append, List.append_nil, List.length_cons, List.length_nil, Nat.sub_self, Bool.not_true, Bool.not_false, decide_true, decide_false, Nat.zero_add, Nat.add_one_sub_one, eq_self]
  have mb : ∀ m ∈ mts (List.range n) r, m.1 ≤ n - 1 ∧ m.2.1 ≤ n - 1 := fun m z => mts_le (N := n - 1) (fun a z => by have := List.mem_range.mp z; omega) m z
  rw [lc_all (F := fun m => mtV (mflip (fun k => n - 1 - k) m)) _ (fun m z => ⟨_, rfl, by
    have b := mb m z
    have mt : mtV m = .tup [.int (m.1 : Int), .int (m.2.1 : Int), .str (sd m.2.2)] := rfl
    have e1 : (n : Int) - 1 - (m.1 : Int) = ((n - 1 - m.1 : Nat) : Int) := by omega
    have e2 : (n : Int) - 1 - (m.2.1 : Int) = ((n - 1 - m.2.1 : Nat) : Int) := by omega
    rw [mt]
    simp only [Vm.bind_some', Vm.pick_t, Vm.pick_f, Pu.gq_ok, Pu.z_var, Pu.z_c, Pu.wr_ok, Pu.bq1_ok, Pu.bq2_ok, Pu.z_bin, Pu.iq1_ok, Pu.z_if, Pu.z_ifS, Pu.z_nil, Pu.cq1_ok, Pu.cq2_ok, Pu.z_cons, Pu.fq1_ok, Pu.z_fn, Pu.z_tup, Pu.z_lst, Pu.tupQ_0, Pu.tupQ_1, Pu.tupQ_2, Pu.tupQ_3, Pu.lstQ_0, Pu.lstQ_1, Pu.lstQ_2, Pu.lstQ_3, Pu.lstQ_4, Pu.lstQ_5, Pu.lstQ_6, Pu.bq_ok, Pu.z_b, Pu.blQ_ok, Pu.z_bV, Pu.tq1_ok, Pu.tq2_ok, Pu.z_bT, Pu.aq1_ok, Pu.z_bAnd, Pu.oq1_ok, Pu.z_bOr, Pu.nq1_ok, Pu.z_bNot, Pu.z_yes, Pu.vq1_ok, Pu.vq2_ok, Pu.z_and, Pu.uq1_ok, Pu.uq2_ok, Pu.z_or, Pu.xq1_ok, Pu.xq2_ok, Pu.z_not, Pu.ngQ_ok, Pu.z_neg, Pu.kq3_ok, Pu.kq2_ok, Pu.kq1_ok, Pu.z_chain, Pu.z_oNone, Pu.osQ_ok, Pu.z_oSome, Pu.sq1_ok, Pu.sq2_ok, Pu.sq3_ok, Pu.z_slice, Pu.z_slT, Pu.z_slL, Pu.rvQ_ok, Pu.z_revT, Pu.r1Q_ok, Pu.z_rg1, Pu.z_tupR, Pu.z_lstR, Pu.lq1_ok, Pu.lq2_ok, Pu.lq3_ok, Pu.z_callL, Pu.nq_ok, Pu.z_fnK, Pu.qs_nx, Pu.qs_rt, Pu.qs_bk, Pu.qs_ct, Pu.qs_pick, Pu.z_seq, Pu.z_next, Pu.z_bk, Pu.z_ct, Pu.eq1_ok, Pu.z_expr, Pu.rq1_ok, Pu.z_ret, Pu.z_retN, Pu.gq1_ok, Pu.gq2_ok, Pu.z_asg, Pu.z_nm, Pu.z_gt, Pu.z_gw, Pu.z_gn, Pu.gcq_ok, Pu.z_gc, Pu.sbI_ok, Pu.sbJ_ok, Pu.sbO_ok, Pu.z_sub, Pu.puI_ok, Pu.z_put, Pu.apI_ok, Pu.z_append, Pu.pq1_ok, Pu.pq2_ok, Pu.z_par, Pu.p3q1_ok, Pu.p3q2_ok, Pu.p3q3_ok, Pu.z_par3, Pu.wq_ok, Pu.iqS_ok, Pu.it_tup, Pu.it_lst, Pu.it_rl, Pu.z_iSeq, Pu.z_iRng1, Pu.enQ_tup, Pu.enQ_lst, Pu.z_iEnum, Pu.zq1_ok, Pu.zq2_ok, Pu.z_iZip, Pu.foq_ok, Pu.z_for, Pu.for_nil, Pu.toq_nx, Pu.toq_ct, Pu.toq_bk, Pu.toq_rt, Pu.toq_pick, Pu.tgq_ok, Pu.lcq_ok, Pu.z_lc, Pu.lc_nil, Pu.wp_nil', Pu.wp_cons', Pu.z_body', Pu.finP_nx, Pu.finP_rt, Pu.finP_pick, Pu.y_add, Pu.y_sub, Pu.y_lt, Pu.y_le, Pu.y_gt, Pu.y_ge, Pu.y_eqI, Pu.y_eqS, Pu.y_neI, Pu.y_neS, Pu.y_lenT, Pu.y_lenL, Pu.y_lenR, Pu.y_int, Pu.y_intB, Pu.y_tupT, Pu.y_tupL, Pu.y_lstT, Pu.y_lstL, Pu.y_isii, Pu.y_isib, Pu.y_isss, Pu.y_istt, Pu.y_ixT, Pu.y_ixW, Pu.y_ixL, Pu.at_0, Pu.at_1, Pu.at_2, Pu.tp_non, Pu.tp_bl, Pu.tp_int, Pu.tp_tup, Pu.tp_lst, List.getElem?_cons_zero, List.getElem?_cons_succ, List.set_cons_zero, List.set_cons_succ, List.map_cons, List.map_nil, List.replicate_zero, List.replicate_succ, List.cons_append, List.nil_append, List.append_nil, List.length_cons, List.length_nil, Nat.sub_self, Bool.not_true, Bool.not_false, decide_true, decide_false, Nat.zero_add, Nat.add_one_sub_one, eq_self, e1, e2, w_l_other]
    rfl⟩)]
  simp only [Vm.bind_some', Vm.pick_t, Vm.pick_f, Pu.gq_ok, Pu.z_var, Pu.z_c, Pu.wr_ok, Pu.bq1_ok, Pu.bq2_ok, Pu.z_bin, Pu.iq1_ok, Pu.z_if, Pu.z_ifS, Pu.z_nil, Pu.cq1_ok, Pu.cq2_ok, Pu.z_cons, Pu.fq1_ok, Pu.z_fn, Pu.z_tup, Pu.z_lst, Pu.tupQ_0, Pu.tupQ_1, Pu.tupQ_2, Pu.tupQ_3, Pu.lstQ_0, Pu.lstQ_1, Pu.lstQ_2, Pu.lstQ_3, Pu.lstQ_4, Pu.lstQ_5, Pu.lstQ_6, Pu.bq_ok, Pu.z_b, Pu.blQ_ok, Pu.z_bV, Pu.tq1_ok, Pu.tq2_ok, Pu.z_bT, Pu.aq1_ok, Pu.z_bAnd, Pu.oq1_ok, Pu.z_bOr, Pu.nq1_ok, Pu.z_bNot, Pu.z_yes, Pu.vq1_ok, Pu.vq2_ok, Pu.z_and, Pu.uq1_ok, Pu.uq2_ok, Pu.z_or, Pu.xq1_ok, Pu.xq2_ok, Pu.z_not, Pu.ngQ_ok, Pu.z_neg, Pu.kq3_ok, Pu.kq2_ok, Pu.kq1_ok, Pu.z_chain, Pu.z_oNone, Pu.osQ_ok, Pu.z_oSome, Pu.sq1_ok, Pu.sq2_ok, Pu.sq3_ok, Pu.z_slice, Pu.z_slT, Pu.z_slL, Pu.rvQ_ok, Pu.z_revT, Pu.r1Q_ok, Pu.z_rg1, Pu.z_tupR, Pu.z_lstR, Pu.lq1_ok, Pu.lq2_ok, Pu.lq3_ok, Pu.z_callL, Pu.nq_ok, Pu.z_fnK, Pu.qs_nx, Pu.qs_rt, Pu.qs_bk, Pu.qs_ct, Pu.qs_pick, Pu.z_seq, Pu.z_next, Pu.z_bk, Pu.z_ct, Pu.eq1_ok, Pu.z_expr, Pu.rq1_ok, Pu.z_ret, Pu.z_retN, Pu.gq1_ok, Pu.gq2_ok, Pu.z_asg, Pu.z_nm, Pu.z_gt, Pu.z_gw, Pu.z_gn, Pu.gcq_ok, Pu.z_gc, Pu.sbI_ok, Pu.sbJ_ok, Pu.sbO_ok, Pu.z_sub, Pu.puI_ok, Pu.z_put, Pu.apI_ok, Pu.z_append, Pu.pq1_ok, Pu.pq2_ok, Pu.z_par, Pu.p3q1_ok, Pu.p3q2_ok, Pu.p3q3_ok, Pu.z_par3, Pu.wq_ok, Pu.iqS_ok, Pu.it_tup, Pu.it_lst, Pu.it_rl, Pu.z_iSeq, Pu.z_iRng1, Pu.enQ_tup, Pu.enQ_lst, Pu.z_iEnum, Pu.zq1_ok, Pu.zq2_ok, Pu.z_iZip, Pu.foq_ok, Pu.z_for, Pu.for_nil, Pu.toq_nx, Pu.toq_ct, Pu.toq_bk, Pu.toq_rt, Pu.toq_pick, Pu.tgq_ok, Pu.lcq_ok, Pu.z_lc, Pu.lc_nil, Pu.wp_nil', Pu.wp_cons', Pu.z_body', Pu.finP_nx, Pu.finP_rt, Pu.finP_pick, Pu.y_add, Pu.y_sub, Pu.y_lt, Pu.y_le, Pu.y_gt, Pu.y_ge, Pu.y_eqI, Pu.y_eqS, Pu.y_neI, Pu.y_neS, Pu.y_lenT, Pu.y_lenL, Pu.y_lenR, Pu.y_int, Pu.y_intB, Pu.y_tupT, Pu.y_tupL, Pu.y_lstT, Pu.y_lstL, Pu.y_isii, Pu.y_isib, Pu.y_isss, Pu.y_istt, Pu.y_ixT, Pu.y_ixW, Pu.y_ixL, Pu.at_0, Pu.at_1, Pu.at_2, Pu.tp_non, Pu.tp_bl, Pu.tp_int, Pu.tp_tup, Pu.tp_lst, List.getElem?_cons_zero, List.getElem?_cons_succ, List.set_cons_zero, List.set_cons_succ, List.map_cons, List.map_nil, List.replicate_zero, List.replicate_succ, List.cons_append, List.nil_append, List.append_nil, List.length_cons, List.length_nil, Nat.sub_self, Bool.not_true, Bool.not_false, decide_true, decide_false, Nat.zero_add, Nat.add_one_sub_one, eq_self, lcJ_ok sz, List.length_map]
  rw [lc_all (F := fun m => mtV (mturn m)) _ (fun m z => ⟨_, rfl, by
    have mt : mtV m = .tup [.int (m.1 : Int), .int (m.2.1 : Int), .str (sd m.2.2)] := rfl
    rw [mt]
    simp only [Vm.bind_some', Vm.pick_t, Vm.pick_f, Pu.gq_ok, Pu.z_var, Pu.z_c, Pu.wr_ok, Pu.bq1_ok, Pu.bq2_ok, Pu.z_bin, Pu.iq1_ok, Pu.z_if, Pu.z_ifS, Pu.z_nil, Pu.cq1_ok, Pu.cq2_ok, Pu.z_cons, Pu.fq1_ok, Pu.z_fn, Pu.z_tup, Pu.z_lst, Pu.tupQ_0, Pu.tupQ_1, Pu.tupQ_2, Pu.tupQ_3, Pu.lstQ_0, Pu.lstQ_1, Pu.lstQ_2, Pu.lstQ_3, Pu.lstQ_4, Pu.lstQ_5, Pu.lstQ_6, Pu.bq_ok, Pu.z_b, Pu.blQ_ok, Pu.z_bV, Pu.tq1_ok, Pu.tq2_ok, Pu.z_bT, Pu.aq1_ok, Pu.z_bAnd, Pu.oq1_ok, Pu.z_bOr, Pu.nq1_ok, Pu.z_bNot, Pu.z_yes, Pu.vq1_ok, Pu.vq2_ok, Pu.z_and, Pu.uq1_ok, Pu.uq2_ok, Pu.z_or, Pu.xq1_ok, Pu.xq2_ok, Pu.z_not, Pu.ngQ_ok, Pu.z_neg, Pu.kq3_ok, Pu.kq2_ok, Pu.kq1_ok, Pu.z_chain, Pu.z_oNone, Pu.osQ_ok, Pu.z_oSome, Pu.sq1_ok, Pu.sq2_ok, Pu.sq3_ok, Pu.z_slice, Pu.z_slT, Pu.z_slL, Pu.rvQ_ok, Pu.z_revT, Pu.r1Q_ok, Pu.z_rg1, Pu.z_tupR, Pu.z_lstR, Pu.lq1_ok, Pu.lq2_ok, Pu.lq3_ok, Pu.z_callL, Pu.nq_ok, Pu.z_fnK, Pu.qs_nx, Pu.qs_rt, Pu.qs_bk, Pu.qs_ct, Pu.qs_pick, Pu.z_seq, Pu.z_next, Pu.z_bk, Pu.z_ct, Pu.eq1_ok, Pu.z_expr, Pu.rq1_ok, Pu.z_ret, Pu.z_retN, Pu.gq1_ok, Pu.gq2_ok, Pu.z_asg, Pu.z_nm, Pu.z_gt, Pu.z_gw, Pu.z_gn, Pu.gcq_ok, Pu.z_gc, Pu.sbI_ok, Pu.sbJ_ok, Pu.sbO_ok, Pu.z_sub, Pu.puI_ok, Pu.z_put, Pu.apI_ok, Pu.z_append, Pu.pq1_ok, Pu.pq2_ok, Pu.z_par, Pu.p3q1_ok, Pu.p3q2_ok, Pu.p3q3_ok, Pu.z_par3, Pu.wq_ok, Pu.iqS_ok, Pu.it_tup, Pu.it_lst, Pu.it_rl, Pu.z_iSeq, Pu.z_iRng1, Pu.enQ_tup, Pu.enQ_lst, Pu.z_iEnum, Pu.zq1_ok, Pu.zq2_ok, Pu.z_iZip, Pu.foq_ok, Pu.z_for, Pu.for_nil, Pu.toq_nx, Pu.toq_ct, Pu.toq_bk, Pu.toq_rt, Pu.toq_pick, Pu.tgq_ok, Pu.lcq_ok, Pu.z_lc, Pu.lc_nil, Pu.wp_nil', Pu.wp_cons', Pu.z_body', Pu.finP_nx, Pu.finP_rt, Pu.finP_pick, Pu.y_add, Pu.y_sub, Pu.y_lt, Pu.y_le, Pu.y_gt, Pu.y_ge, Pu.y_eqI, Pu.y_eqS, Pu.y_neI, Pu.y_neS, Pu.y_lenT, Pu.y_lenL, Pu.y_lenR, Pu.y_int, Pu.y_intB, Pu.y_tupT, Pu.y_tupL, Pu.y_lstT, Pu.y_lstL, Pu.y_isii, Pu.y_isib, Pu.y_isss, Pu.y_istt, Pu.y_ixT, Pu.y_ixW, Pu.y_ixL, Pu.at_0, Pu.at_1, Pu.at_2, Pu.tp_non, Pu.tp_bl, Pu.tp_int, Pu.tp_tup, Pu.tp_lst, List.getElem?_cons_zero, List.getElem?_cons_succ, List.set_cons_zero, List.set_cons_succ, List.map_cons, List.map_nil, List.replicate_zero, List.replicate_succ, List.cons_append, List.nil_append, List.append_nil, List.length_cons, List.length_nil, Nat.sub_self, Bool.not_true, Bool.not_false, decide_true, decide_false, Nat.zero_add, Nat.add_one_sub_one, eq_self, w_l_other]
    rfl⟩)]
  have g1 : P.tup ((mts (List.range n) r).map fun m => mtV (mflip (fun k => n - 1 - k) m)) = metV n (mirr n r) := by
    unfold metV
    rw [met_mirr hr, List.map_map]
    rfl
  have g2 : P.tup ((mts (List.range n) r).map fun m => mtV (mturn m)) = metV n (turned r) := by
    unfold metV
    rw [mts_turned, List.map_map]
    rfl
  simp only [Vm.bind_some', Vm.pick_t, Vm.pick_f, Pu.gq_ok, Pu.z_var, Pu.z_c, Pu.wr_ok, Pu.bq1_ok, Pu.bq2_ok, Pu.z_bin, Pu.iq1_ok, Pu.z_if, Pu.z_ifS, Pu.z_nil, Pu.cq1_ok, Pu.cq2_ok, Pu.z_cons, Pu.fq1_ok, Pu.z_fn, Pu.z_tup, Pu.z_lst, Pu.tupQ_0, Pu.tupQ_1, Pu.tupQ_2, Pu.tupQ_3, Pu.lstQ_0, Pu.lstQ_1, Pu.lstQ_2, Pu.lstQ_3, Pu.lstQ_4, Pu.lstQ_5, Pu.lstQ_6, Pu.bq_ok, Pu.z_b, Pu.blQ_ok, Pu.z_bV, Pu.tq1_ok, Pu.tq2_ok, Pu.z_bT, Pu.aq1_ok, Pu.z_bAnd, Pu.oq1_ok, Pu.z_bOr, Pu.nq1_ok, Pu.z_bNot, Pu.z_yes, Pu.vq1_ok, Pu.vq2_ok, Pu.z_and, Pu.uq1_ok, Pu.uq2_ok, Pu.z_or, Pu.xq1_ok, Pu.xq2_ok, Pu.z_not, Pu.ngQ_ok, Pu.z_neg, Pu.kq3_ok, Pu.kq2_ok, Pu.kq1_ok, Pu.z_chain, Pu.z_oNone, Pu.osQ_ok, Pu.z_oSome, Pu.sq1_ok, Pu.sq2_ok, Pu.sq3_ok, Pu.z_slice, Pu.z_slT, Pu.z_slL, Pu.rvQ_ok, Pu.z_revT, Pu.r1Q_ok, Pu.z_rg1, Pu.z_tupR, Pu.z_lstR, Pu.lq1_ok, Pu.lq2_ok, Pu.lq3_ok, Pu.z_callL, Pu.nq_ok, Pu.z_fnK, Pu.qs_nx, Pu.qs_rt, Pu.qs_bk, Pu.qs_ct, Pu.qs_pick, Pu.z_seq, Pu.z_next, Pu.z_bk, Pu.z_ct, Pu.eq1_ok, Pu.z_expr, Pu.rq1_ok, Pu.z_ret, Pu.z_retN, Pu.gq1_ok, Pu.gq2_ok, Pu.z_asg, Pu.z_nm, Pu.z_gt, Pu.z_gw, Pu.z_gn, Pu.gcq_ok, Pu.z_gc, Pu.sbI_ok, Pu.sbJ_ok, Pu.sbO_ok, Pu.z_sub, Pu.puI_ok, Pu.z_put, Pu.apI_ok, Pu.z_append, Pu.pq1_ok, Pu.pq2_ok, Pu.z_par, Pu.p3q1_ok, Pu.p3q2_ok, Pu.p3q3_ok, Pu.z_par3, Pu.wq_ok, Pu.iqS_ok, Pu.it_tup, Pu.it_lst, Pu.it_rl, Pu.z_iSeq, Pu.z_iRng1, Pu.enQ_tup, Pu.enQ_lst, Pu.z_iEnum, Pu.zq1_ok, Pu.zq2_ok, Pu.z_iZip, Pu.foq_ok, Pu.z_for, Pu.for_nil, Pu.toq_nx, Pu.toq_ct, Pu.toq_bk, Pu.toq_rt, Pu.toq_pick, Pu.tgq_ok, Pu.lcq_ok, Pu.z_lc, Pu.lc_nil, Pu.wp_nil', Pu.wp_cons', Pu.z_body', Pu.finP_nx, Pu.finP_rt, Pu.finP_pick, Pu.y_add, Pu.y_sub, Pu.y_lt, Pu.y_le, Pu.y_gt, Pu.y_ge, Pu.y_eqI, Pu.y_eqS, Pu.y_neI, Pu.y_neS, Pu.y_lenT, Pu.y_lenL, Pu.y_lenR, Pu.y_int, Pu.y_intB, Pu.y_tupT, Pu.y_tupL, Pu.y_lstT, Pu.y_lstL, Pu.y_isii, Pu.y_isib, Pu.y_isss, Pu.y_istt, Pu.y_ixT, Pu.y_ixW, Pu.y_ixL, Pu.at_0, Pu.at_1, Pu.at_2, Pu.tp_non, Pu.tp_bl, Pu.tp_int, Pu.tp_tup, Pu.tp_lst, List.getElem?_cons_zero, List.getElem?_cons_succ, List.set_cons_zero, List.set_cons_succ, List.map_cons, List.map_nil, List.replicate_zero, List.replicate_succ, List.cons_append, List.nil_append, List.append_nil, List.length_cons, List.length_nil, Nat.sub_self, Bool.not_true, Bool.not_false, decide_true, decide_false, Nat.zero_add, Nat.add_one_sub_one, eq_self, lcJ_ok sz, List.length_map, g1, g2, w_met h1 h2 hr.mirr, w_met h1 h2 hr.turned, w_like (gd_2 (gd_met h2 hr.mirr) (gd_met h2 hr.turned))]
theorem tw_b : tp__law_twice_right "back_row" = some (2, p_back_row) := rfl
theorem tw_m : tp__law_twice_right "mirrored" = some (2, p_mirrored) := rfl
theorem tw_t : tp__law_twice_right "turned_over" = some (2, p_turned_over) := rfl
theorem w_twice_right (h1 : 2 ≤ n) (h2 : n ≤ 5) (hr : Ok n r) : p__law_twice_right [.int n, rowV r] s = some (.bl true, s) := by
  unfold p__law_twice_right q__law_twice_right
  have L : ∀ {q : List (Bool × Nat)}, Ok n q → p__law_like [rowV q, rowV q] s = some (.bl true, s) := fun hq => w_like (gd_row h2 hq)
  have two : decide (0 + 1 + 1 = 2) = true := rfl
  simp only [Vm.bind_some', Vm.pick_t, Vm.pick_f, Pu.gq_ok, Pu.z_var, Pu.z_c, Pu.wr_ok, Pu.bq1_ok, Pu.bq2_ok, Pu.z_bin, Pu.iq1_ok, Pu.z_if, Pu.z_ifS, Pu.z_nil, Pu.cq1_ok, Pu.cq2_ok, Pu.z_cons, Pu.fq1_ok, Pu.z_fn, Pu.z_tup, Pu.z_lst, Pu.tupQ_0, Pu.tupQ_1, Pu.tupQ_2, Pu.tupQ_3, Pu.lstQ_0, Pu.lstQ_1, Pu.lstQ_2, Pu.lstQ_3, Pu.lstQ_4, Pu.lstQ_5, Pu.lstQ_6, Pu.bq_ok, Pu.z_b, Pu.blQ_ok, Pu.z_bV, Pu.tq1_ok, Pu.tq2_ok, Pu.z_bT, Pu.aq1_ok, Pu.z_bAnd, Pu.oq1_ok, Pu.z_bOr, Pu.nq1_ok, Pu.z_bNot, Pu.z_yes, Pu.vq1_ok, Pu.vq2_ok, Pu.z_and, Pu.uq1_ok, Pu.uq2_ok, Pu.z_or, Pu.xq1_ok, Pu.xq2_ok, Pu.z_not, Pu.ngQ_ok, Pu.z_neg, Pu.kq3_ok, Pu.kq2_ok, Pu.kq1_ok, Pu.z_chain, Pu.z_oNone, Pu.osQ_ok, Pu.z_oSome, Pu.sq1_ok, Pu.sq2_ok, Pu.sq3_ok, Pu.z_slice, Pu.z_slT, Pu.z_slL, Pu.rvQ_ok, Pu.z_revT, Pu.r1Q_ok, Pu.z_rg1, Pu.z_tupR, Pu.z_lstR, Pu.lq1_ok, Pu.lq2_ok, Pu.lq3_ok, Pu.z_callL, Pu.nq_ok, Pu.z_fnK, Pu.qs_nx, Pu.qs_rt, Pu.qs_bk, Pu.qs_ct, Pu.qs_pick, Pu.z_seq, Pu.z_next, Pu.z_bk, Pu.z_ct, Pu.eq1_ok, Pu.z_expr, Pu.rq1_ok, Pu.z_ret, Pu.z_retN, Pu.gq1_ok, Pu.gq2_ok, Pu.z_asg, Pu.z_nm, Pu.z_gt, Pu.z_gw, Pu.z_gn, Pu.gcq_ok, Pu.z_gc, Pu.sbI_ok, Pu.sbJ_ok, Pu.sbO_ok, Pu.z_sub, Pu.puI_ok, Pu.z_put, Pu.apI_ok, Pu.z_append, Pu.pq1_ok, Pu.pq2_ok, Pu.z_par, Pu.p3q1_ok, Pu.p3q2_ok, Pu.p3q3_ok, Pu.z_par3, Pu.wq_ok, Pu.iqS_ok, Pu.it_tup, Pu.it_lst, Pu.it_rl, Pu.z_iSeq, Pu.z_iRng1, Pu.enQ_tup, Pu.enQ_lst, Pu.z_iEnum, Pu.zq1_ok, Pu.zq2_ok, Pu.z_iZip, Pu.foq_ok, Pu.z_for, Pu.for_nil, Pu.toq_nx, Pu.toq_ct, Pu.toq_bk, Pu.toq_rt, Pu.toq_pick, Pu.tgq_ok, Pu.lcq_ok, Pu.z_lc, Pu.lc_nil, Pu.wp_nil', Pu.wp_cons', Pu.z_body', Pu.finP_nx, Pu.finP_rt, Pu.finP_pick, Pu.y_add, Pu.y_sub, Pu.y_lt, Pu.y_le, Pu.y_gt, Pu.y_ge, Pu.y_eqI, Pu.y_eqS, Pu.y_neI, Pu.y_neS, Pu.y_lenT, Pu.y_lenL, Pu.y_lenR, Pu.y_int, Pu.y_intB, Pu.y_tupT, Pu.y_tupL, Pu.y_lstT, Pu.y_lstL, Pu.y_isii, Pu.y_isib, Pu.y_isss, Pu.y_istt, Pu.y_ixT, Pu.y_ixW, Pu.y_ixL, Pu.at_0, Pu.at_1, Pu.at_2, Pu.tp_non, Pu.tp_bl, Pu.tp_int, Pu.tp_tup, Pu.tp_lst, List.getElem?_cons_zero, List.getElem?_cons_succ, List.set_cons_zero, List.set_cons_succ, List.map_cons, List.map_nil, List.replicate_zero, List.replicate_succ, List.cons_append, List.nil_append, List.append_nil, List.length_cons, List.length_nil, Nat.sub_self, Bool.not_true, Bool.not_false, decide_true, decide_false, Nat.zero_add, Nat.add_one_sub_one, eq_self, for_cons, tw_b, tw_m, tw_t, two, w_back_row h1 h2 hr, w_mirrored h1 h2 hr, w_turned h1 h2 hr, w_back_row h1 h2 hr.back, w_mirrored h1 h2 hr.back, w_turned h1 h2 hr.back, w_back_row h1 h2 hr.mirr, w_mirrored h1 h2 hr.mirr, w_turned h1 h2 hr.mirr, w_back_row h1 h2 hr.turned, w_mirrored h1 h2 hr.turned, w_turned h1 h2 hr.turned, bb, mm hr, tt, tm, bt, bm, L hr, L hr.back.mirr, L hr.turned.mirr, L hr.back.turned]
theorem w_back_right (h1 : 2 ≤ n) (h2 : n ≤ 5) (hr : Ok n r) : p__law_back_right [.int n, rowV r] s = some (.bl true, s) := by
  unfold p__law_back_right q__law_back_right
  have ln : pLen [rowV r] = some (.int (r.length : Nat)) := by unfold rowV; rw [y_lenT, List.length_map]
  by_cases h : r.length ≤ 30
  · have d : decide ((30 : Int) < (r.length : Nat)) = false := decide_eq_false (by omega)
    have hb : (backR r).length ≤ 30 := by rw [backR_len]; exact h
    have ad : pAdd (rowV r) (rowV (backR r)) = some (rowV (r ++ backR r)) := by
      unfold rowV
      rw [y_addT (by rw [List.length_map, List.length_map]; omega), ← List.map_append]
    have ok : Ok n (r ++ backR r) := ⟨by rw [List.length_append]; omega, fun c m => (List.mem_append.mp m).elim (hr.2 c) (hr.back.2 c)⟩
    have eo : ordV n (r ++ backR r) = .tup (nv (List.range n)) := by unfold ordV; rw [back_undo]
    simp only [Vm.bind_some', Vm.pick_t, Vm.pick_f, Pu.gq_ok, Pu.z_var, Pu.z_c, Pu.wr_ok, Pu.bq1_ok, Pu.bq2_ok, Pu.z_bin, Pu.iq1_ok, Pu.z_if, Pu.z_ifS, Pu.z_nil, Pu.cq1_ok, Pu.cq2_ok, Pu.z_cons, Pu.fq1_ok, Pu.z_fn, Pu.z_tup, Pu.z_lst, Pu.tupQ_0, Pu.tupQ_1, Pu.tupQ_2, Pu.tupQ_3, Pu.lstQ_0, Pu.lstQ_1, Pu.lstQ_2, Pu.lstQ_3, Pu.lstQ_4, Pu.lstQ_5, Pu.lstQ_6, Pu.bq_ok, Pu.z_b, Pu.blQ_ok, Pu.z_bV, Pu.tq1_ok, Pu.tq2_ok, Pu.z_bT, Pu.aq1_ok, Pu.z_bAnd, Pu.oq1_ok, Pu.z_bOr, Pu.nq1_ok, Pu.z_bNot, Pu.z_yes, Pu.vq1_ok, Pu.vq2_ok, Pu.z_and, Pu.uq1_ok, Pu.uq2_ok, Pu.z_or, Pu.xq1_ok, Pu.xq2_ok, Pu.z_not, Pu.ngQ_ok, Pu.z_neg, Pu.kq3_ok, Pu.kq2_ok, Pu.kq1_ok, Pu.z_chain, Pu.z_oNone, Pu.osQ_ok, Pu.z_oSome, Pu.sq1_ok, Pu.sq2_ok, Pu.sq3_ok, Pu.z_slice, Pu.z_slT, Pu.z_slL, Pu.rvQ_ok, Pu.z_revT, Pu.r1Q_ok, Pu.z_rg1, Pu.z_tupR, Pu.z_lstR, Pu.lq1_ok, Pu.lq2_ok, Pu.lq3_ok, Pu.z_callL, Pu.nq_ok, Pu.z_fnK, Pu.qs_nx, Pu.qs_rt, Pu.qs_bk, Pu.qs_ct, Pu.qs_pick, Pu.z_seq, Pu.z_next, Pu.z_bk, Pu.z_ct, Pu.eq1_ok, Pu.z_expr, Pu.rq1_ok, Pu.z_ret, Pu.z_retN, Pu.gq1_ok, Pu.gq2_ok, Pu.z_asg, Pu.z_nm, Pu.z_gt, Pu.z_gw, Pu.z_gn, Pu.gcq_ok, Pu.z_gc, Pu.sbI_ok, Pu.sbJ_ok, Pu.sbO_ok, Pu.z_sub, Pu.puI_ok, Pu.z_put, Pu.apI_ok, Pu.z_append, Pu.pq1_ok, Pu.pq2_ok, Pu.z_par, Pu.p3q1_ok, Pu.p3q2_ok, Pu.p3q3_ok, Pu.z_par3, Pu.wq_ok, Pu.iqS_ok, Pu.it_tup, Pu.it_lst, Pu.it_rl, Pu.z_iSeq, Pu.z_iRng1, Pu.enQ_tup, Pu.enQ_lst, Pu.z_iEnum, Pu.zq1_ok, Pu.zq2_ok, Pu.z_iZip, Pu.foq_ok, Pu.z_for, Pu.for_nil, Pu.toq_nx, Pu.toq_ct, Pu.toq_bk, Pu.toq_rt, Pu.toq_pick, Pu.tgq_ok, Pu.lcq_ok, Pu.z_lc, Pu.lc_nil, Pu.wp_nil', Pu.wp_cons', Pu.z_body', Pu.finP_nx, Pu.finP_rt, Pu.finP_pick, Pu.y_add, Pu.y_sub, Pu.y_lt, Pu.y_le, Pu.y_gt, Pu.y_ge, Pu.y_eqI, Pu.y_eqS, Pu.y_neI, Pu.y_neS, Pu.y_lenT, Pu.y_lenL, Pu.y_lenR, Pu.y_int, Pu.y_intB, Pu.y_tupT, Pu.y_tupL, Pu.y_lstT, Pu.y_lstL, Pu.y_isii, Pu.y_isib, Pu.y_isss, Pu.y_istt, Pu.y_ixT, Pu.y_ixW, Pu.y_ixL, Pu.at_0, Pu.at_1, Pu.at_2, Pu.tp_non, Pu.tp_bl, Pu.tp_int, Pu.tp_tup, Pu.tp_lst, List.getElem?_cons_zero, List.getElem?_cons_succ, List.set_cons_zero, List.set_cons_succ, List.map_cons, List.map_nil, List.replicate_zero, List.replicate_succ, List.cons_append, List.nil_append, List.append_nil, List.length_cons, List.length_nil, Nat.sub_self, Bool.not_true, Bool.not_false, decide_true, decide_false, Nat.zero_add, Nat.add_one_sub_one, eq_self, ln, d, w_back_row h1 h2 hr, ad, w_order_of h1 h2 ok, eo, w_range (show n ≤ 1000 by omega), w_like (gd_nv (k := 5) (l := List.range n) (by rw [List.length_range]; exact h2) fun a z => by have := List.mem_range.mp z; omega)]
  · have d : decide ((30 : Int) < (r.length : Nat)) = true := decide_eq_true (by omega)
    simp only [Vm.bind_some', Vm.pick_t, Vm.pick_f, Pu.gq_ok, Pu.z_var, Pu.z_c, Pu.wr_ok, Pu.bq1_ok, Pu.bq2_ok, Pu.z_bin, Pu.iq1_ok, Pu.z_if, Pu.z_ifS, Pu.z_nil, Pu.cq1_ok, Pu.cq2_ok, Pu.z_cons, Pu.fq1_ok, Pu.z_fn, Pu.z_tup, Pu.z_lst, Pu.tupQ_0, Pu.tupQ_1, Pu.tupQ_2, Pu.tupQ_3, Pu.lstQ_0, Pu.lstQ_1, Pu.lstQ_2, Pu.lstQ_3, Pu.lstQ_4, Pu.lstQ_5, Pu.lstQ_6, Pu.bq_ok, Pu.z_b, Pu.blQ_ok, Pu.z_bV, Pu.tq1_ok, Pu.tq2_ok, Pu.z_bT, Pu.aq1_ok, Pu.z_bAnd, Pu.oq1_ok, Pu.z_bOr, Pu.nq1_ok, Pu.z_bNot, Pu.z_yes, Pu.vq1_ok, Pu.vq2_ok, Pu.z_and, Pu.uq1_ok, Pu.uq2_ok, Pu.z_or, Pu.xq1_ok, Pu.xq2_ok, Pu.z_not, Pu.ngQ_ok, Pu.z_neg, Pu.kq3_ok, Pu.kq2_ok, Pu.kq1_ok, Pu.z_chain, Pu.z_oNone, Pu.osQ_ok, Pu.z_oSome, Pu.sq1_ok, Pu.sq2_ok, Pu.sq3_ok, Pu.z_slice, Pu.z_slT, Pu.z_slL, Pu.rvQ_ok, Pu.z_revT, Pu.r1Q_ok, Pu.z_rg1, Pu.z_tupR, Pu.z_lstR, Pu.lq1_ok, Pu.lq2_ok, Pu.lq3_ok, Pu.z_callL, Pu.nq_ok, Pu.z_fnK, Pu.qs_nx, Pu.qs_rt, Pu.qs_bk, Pu.qs_ct, Pu.qs_pick, Pu.z_seq, Pu.z_next, Pu.z_bk, Pu.z_ct, Pu.eq1_ok, Pu.z_expr, Pu.rq1_ok, Pu.z_ret, Pu.z_retN, Pu.gq1_ok, Pu.gq2_ok, Pu.z_asg, Pu.z_nm, Pu.z_gt, Pu.z_gw, Pu.z_gn, Pu.gcq_ok, Pu.z_gc, Pu.sbI_ok, Pu.sbJ_ok, Pu.sbO_ok, Pu.z_sub, Pu.puI_ok, Pu.z_put, Pu.apI_ok, Pu.z_append, Pu.pq1_ok, Pu.pq2_ok, Pu.z_par, Pu.p3q1_ok, Pu.p3q2_ok, Pu.p3q3_ok, Pu.z_par3, Pu.wq_ok, Pu.iqS_ok, Pu.it_tup, Pu.it_lst, Pu.it_rl, Pu.z_iSeq, Pu.z_iRng1, Pu.enQ_tup, Pu.enQ_lst, Pu.z_iEnum, Pu.zq1_ok, Pu.zq2_ok, Pu.z_iZip, Pu.foq_ok, Pu.z_for, Pu.for_nil, Pu.toq_nx, Pu.toq_ct, Pu.toq_bk, Pu.toq_rt, Pu.toq_pick, Pu.tgq_ok, Pu.lcq_ok, Pu.z_lc, Pu.lc_nil, Pu.wp_nil', Pu.wp_cons', Pu.z_body', Pu.finP_nx, Pu.finP_rt, Pu.finP_pick, Pu.y_add, Pu.y_sub, Pu.y_lt, Pu.y_le, Pu.y_gt, Pu.y_ge, Pu.y_eqI, Pu.y_eqS, Pu.y_neI, Pu.y_neS, Pu.y_lenT, Pu.y_lenL, Pu.y_lenR, Pu.y_int, Pu.y_intB, Pu.y_tupT, Pu.y_tupL, Pu.y_lstT, Pu.y_lstL, Pu.y_isii, Pu.y_isib, Pu.y_isss, Pu.y_istt, Pu.y_ixT, Pu.y_ixW, Pu.y_ixL, Pu.at_0, Pu.at_1, Pu.at_2, Pu.tp_non, Pu.tp_bl, Pu.tp_int, Pu.tp_tup, Pu.tp_lst, List.getElem?_cons_zero, List.getElem?_cons_succ, List.set_cons_zero, List.set_cons_succ, List.map_cons, List.map_nil, List.replicate_zero, List.replicate_succ, List.cons_append, List.nil_append, List.append_nil, List.length_cons, List.length_nil, Nat.sub_self, Bool.not_true, Bool.not_false, decide_true, decide_false, Nat.zero_add, Nat.add_one_sub_one, eq_self, ln, d]
theorem ad22 {a b c d : P} : pAdd (.lst [a, b]) (.lst [c, d]) = some (.lst [a, b, c, d]) := rfl
theorem ad42 {a b c d e f : P} : pAdd (.lst [a, b, c, d]) (.lst [e, f]) = some (.lst [a, b, c, d, e, f]) := rfl
theorem ad62 {a b c d e f g h : P} : pAdd (.lst [a, b, c, d, e, f]) (.lst [g, h]) = some (.lst [a, b, c, d, e, f, g, h]) := rfl
theorem ad33 {a b c d e f : P} : pAdd (.lst [a, b, c]) (.lst [d, e, f]) = some (.lst [a, b, c, d, e, f]) := rfl
theorem pm2 {a b : P} : perm [1, 0] [a, b] = [b, a] := rfl
theorem pm3 {a b c : P} : perm [2, 1, 0] [a, b, c] = [c, b, a] := rfl
theorem pm4 {a b c d : P} : perm [3, 2, 1, 0] [a, b, c, d] = [d, c, b, a] := rfl
theorem w_names_right (h1 : 2 ≤ n) (h2 : n ≤ 5) (hr : Ok n r) : p__law_names_right [.int n, rowV r] s = some (.bl true, s) := by
  unfold p__law_names_right q__law_names_right
  have c1 : p_crossed [.int (n : Int), rowV r, .int 1, .int 0] s = some (.int (cnt n r 1 0 : Nat), s) := w_crossed (a := 1) (b := 0) h1 h2 hr (by omega) (by omega) (by decide)
  have c2 : p_way_of [.int (n : Int), rowV r, .int 1] s = some (wofV n r 1, s) := w_way_of (k := 1) h1 h2 hr (by omega)
  have up {w k : Nat} {p : P} (g : Gd w k p) (hw : w ≤ 3416) (hk : k ≤ 2) : Gd 3416 2 p := g.mono hw hk
  have G : GdL 3416 2 [ordV n r, wysV n r, wofV n r 1, metV n r, rowV (backR r), rowV (mirr n r), rowV (turned r), .int (cnt n r 1 0 : Nat)] :=
    .cons (up (gd_ord h2) (by decide) (by decide)) (.cons (gd_wys h2 hr) (.cons (up (gd_wof h2 hr (by omega)) (by decide) (by decide)) (.cons (up (gd_met h2 hr) (by decide) (by decide)) (.cons (up (gd_row h2 hr.back) (by decide) (by decide)) (.cons (up (gd_row h2 hr.mirr) (by decide) (by decide)) (.cons (up (gd_row h2 hr.turned) (by decide) (by decide)) (.cons (up (gd_nat (by have := cnt_le (a := 1) (b := 0) hr; omega)) (by decide) (by decide)) .nil)))))))
  simp only [Vm.bind_some', Vm.pick_t, Vm.pick_f, Pu.gq_ok, Pu.z_var, Pu.z_c, Pu.wr_ok, Pu.bq1_ok, Pu.bq2_ok, Pu.z_bin, Pu.iq1_ok, Pu.z_if, Pu.z_ifS, Pu.z_nil, Pu.cq1_ok, Pu.cq2_ok, Pu.z_cons, Pu.fq1_ok, Pu.z_fn, Pu.z_tup, Pu.z_lst, Pu.tupQ_0, Pu.tupQ_1, Pu.tupQ_2, Pu.tupQ_3, Pu.lstQ_0, Pu.lstQ_1, Pu.lstQ_2, Pu.lstQ_3, Pu.lstQ_4, Pu.lstQ_5, Pu.lstQ_6, Pu.bq_ok, Pu.z_b, Pu.blQ_ok, Pu.z_bV, Pu.tq1_ok, Pu.tq2_ok, Pu.z_bT, Pu.aq1_ok, Pu.z_bAnd, Pu.oq1_ok, Pu.z_bOr, Pu.nq1_ok, Pu.z_bNot, Pu.z_yes, Pu.vq1_ok, Pu.vq2_ok, Pu.z_and, Pu.uq1_ok, Pu.uq2_ok, Pu.z_or, Pu.xq1_ok, Pu.xq2_ok, Pu.z_not, Pu.ngQ_ok, Pu.z_neg, Pu.kq3_ok, Pu.kq2_ok, Pu.kq1_ok, Pu.z_chain, Pu.z_oNone, Pu.osQ_ok, Pu.z_oSome, Pu.sq1_ok, Pu.sq2_ok, Pu.sq3_ok, Pu.z_slice, Pu.z_slT, Pu.z_slL, Pu.rvQ_ok, Pu.z_revT, Pu.r1Q_ok, Pu.z_rg1, Pu.z_tupR, Pu.z_lstR, Pu.lq1_ok, Pu.lq2_ok, Pu.lq3_ok, Pu.z_callL, Pu.nq_ok, Pu.z_fnK, Pu.qs_nx, Pu.qs_rt, Pu.qs_bk, Pu.qs_ct, Pu.qs_pick, Pu.z_seq, Pu.z_next, Pu.z_bk, Pu.z_ct, Pu.eq1_ok, Pu.z_expr, Pu.rq1_ok, Pu.z_ret, Pu.z_retN, Pu.gq1_ok, Pu.gq2_ok, Pu.z_asg, Pu.z_nm, Pu.z_gt, Pu.z_gw, Pu.z_gn, Pu.gcq_ok, Pu.z_gc, Pu.sbI_ok, Pu.sbJ_ok, Pu.sbO_ok, Pu.z_sub, Pu.puI_ok, Pu.z_put, Pu.apI_ok, Pu.z_append, Pu.pq1_ok, Pu.pq2_ok, Pu.z_par, Pu.p3q1_ok, Pu.p3q2_ok, Pu.p3q3_ok, Pu.z_par3, Pu.wq_ok, Pu.iqS_ok, Pu.it_tup, Pu.it_lst, Pu.it_rl, Pu.z_iSeq, Pu.z_iRng1, Pu.enQ_tup, Pu.enQ_lst, Pu.z_iEnum, Pu.zq1_ok, Pu.zq2_ok, Pu.z_iZip, Pu.foq_ok, Pu.z_for, Pu.for_nil, Pu.toq_nx, Pu.toq_ct, Pu.toq_bk, Pu.toq_rt, Pu.toq_pick, Pu.tgq_ok, Pu.lcq_ok, Pu.z_lc, Pu.lc_nil, Pu.wp_nil', Pu.wp_cons', Pu.z_body', Pu.finP_nx, Pu.finP_rt, Pu.finP_pick, Pu.y_add, Pu.y_sub, Pu.y_lt, Pu.y_le, Pu.y_gt, Pu.y_ge, Pu.y_eqI, Pu.y_eqS, Pu.y_neI, Pu.y_neS, Pu.y_lenT, Pu.y_lenL, Pu.y_lenR, Pu.y_int, Pu.y_intB, Pu.y_tupT, Pu.y_tupL, Pu.y_lstT, Pu.y_lstL, Pu.y_isii, Pu.y_isib, Pu.y_isss, Pu.y_istt, Pu.y_ixT, Pu.y_ixW, Pu.y_ixL, Pu.at_0, Pu.at_1, Pu.at_2, Pu.tp_non, Pu.tp_bl, Pu.tp_int, Pu.tp_tup, Pu.tp_lst, List.getElem?_cons_zero, List.getElem?_cons_succ, List.set_cons_zero, List.set_cons_succ, List.map_cons, List.map_nil, List.replicate_zero, List.replicate_succ, List.cons_append, List.nil_append, List.append_nil, List.length_cons, List.length_nil, Nat.sub_self, Bool.not_true, Bool.not_false, decide_true, decide_false, Nat.zero_add, Nat.add_one_sub_one, eq_self, c1, c2, w_order_of h1 h2 hr, w_order_on_way h1 h2 hr, w_met h1 h2 hr, w_back_row h1 h2 hr, w_mirrored h1 h2 hr, w_turned h1 h2 hr, w_like (G.lstN (n := 8) (Nat.le_refl 8)), pm2, pm3, pm4, ad22, ad42, ad62, ad33]
end
end K01
namespace Pu
open PySem PySem.Spec PyProof.Rows L2 Vm
/-- a walk that keeps a count -/
theorem for_cnt {g : PGM} {b : PSM} {ps : List P} {pe : PEn} {s : S} {o : Option PO} (hF : forP g b ps pe s = o) (Q : Nat → PEn → S → Prop) {i : Nat} (q : Q i pe s) (h : ∀ p ∈ ps, ∀ j pe s, j < i + ps.length → Q j pe s → ∃ pe' s', tgq (g p pe s) b = some (.nx pe' s') ∧ Q (j + 1) pe' s') : ∃ pe' s', o = some (.nx pe' s') ∧ Q (i + ps.length) pe' s' := by
  subst hF
  induction ps generalizing pe s i with
  | nil => exact ⟨pe, s, rfl, q⟩
  | cons x xs ih =>
    obtain ⟨pe1, s1, e1, q1⟩ := h x (by simp) i pe s (by simp) q
    obtain ⟨pe2, s2, e2, q2⟩ := ih q1 fun y m j pe s hj => h y (by simp [m]) j pe s (by simp only [List.length_cons]; omega)
    refine ⟨pe2, s2, by rw [for_cons, e1]; exact e2, ?_⟩
    rw [List.length_cons, show i + (xs.length + 1) = i + 1 + xs.length by omega]
    exact q2
theorem w_draw {s : S} {L : Int} (h0 : 0 < L) (h1 : L ≤ 1000000) (hs : s.spot ≤ 100000) : pDraw [.gen, .int L] s = some (.int (drawV s L), drawS s L) := if_pos ⟨h0, h1, hs⟩
theorem w_drawN {s : S} {L : Int} (h0 : 0 < L) (h1 : L ≤ 1000000) (hs : s.spot ≤ 100000) : ∃ v : Nat, (v : Int) < L ∧ pDraw [.gen, .int L] s = some (.int (v : Int), drawS s L) := by
  have r := drawV_range s h0
  refine ⟨(drawV s L).toNat, by omega, ?_⟩
  rw [w_draw h0 h1 hs]
  have : ((drawV s L).toNat : Int) = drawV s L := by omega
  rw [this]
def crP (c : Bool × Nat) : PyData := .tuple [.str (Rw.sd c.1), .int (c.2 : Int)]
theorem strOk_sd {b : Bool} : PyData.strOk (Rw.sd b) = true := by cases b <;> decide +kernel
theorem shaped_cr (r : List (Bool × Nat)) : SeqAt.shaped (.list (r.map crP)) = true := by
  have gen : PyData.canLayAll0 (r.map crP) = true ∧ PyData.depthAll (r.map crP) ≤ 1 := by
    induction r with
    | nil => exact ⟨rfl, Nat.zero_le _⟩
    | cons c r ih =>
      have cl : PyData.canLay0 (crP c) = true := by simp [crP, PyData.canLay0, PyData.canLayAll0, strOk_sd]
      have dp : PyData.depth (crP c) = 1 := by simp [crP, PyData.depth, PyData.depthAll]
      refine ⟨by simp only [List.map_cons, PyData.canLayAll0, cl, ih.1, Bool.and_self], ?_⟩
      simp only [List.map_cons, PyData.depthAll, dp]
      have := ih.2
      omega
  have c1 : PyData.canLay0 (.list (r.map crP)) = true := by simp only [PyData.canLay0, gen.1]
  have d1 : PyData.depth (.list (r.map crP)) ≤ 64 := by simp only [PyData.depth]; have := gen.2; omega
  simp only [SeqAt.shaped, c1, Bool.true_and, decide_eq_true_eq]
  exact d1
theorem py_crs {k : Nat} : ∀ r : List (Bool × Nat), (r.map crV).mapM (pyP (k + 2)) = some (r.map crP)
  | [] => by simp
  | c :: r => by
    have ih := py_crs (k := k) r
    rw [List.map_cons, List.mapM_cons, ih]
    rfl
theorem y_neRows {r : List (Bool × Nat)} : pNe (.lst (r.map crV)) (.lst []) = some (.bl (!r.isEmpty)) := by
  have p1 : pyP deep (.lst (r.map crV)) = some (.list (r.map crP)) := by
    show ((r.map crV).mapM (pyP (9 + 2))).map PyData.list = _
    rw [py_crs]; rfl
  have p2 : pyP deep (.lst []) = some (.list []) := by
    show (([] : List P).mapM (pyP 11)).map PyData.list = _
    simp
  have s1 := shaped_cr r
  have s2 : SeqAt.shaped (.list []) = true := by decide +kernel
  have ev : PyData.eqv (.list (r.map crP)) (.list []) = r.isEmpty := by
    cases r with
    | nil => simp [PyData.eqv, PyData.eqvAll]
    | cons g gs => simp [PyData.eqv, PyData.eqvAll]
  show (match pyP deep (.lst (r.map crV)), pyP deep (.lst []) with
    | some a, some b => if (SeqAt.shaped a && SeqAt.shaped b) = true then some (P.bl (!PyData.eqv a b)) else none
    | _, _ => none) = _
  rw [p1, p2]
  simp only [s1, s2, ev, Bool.and_self, if_true]
end Pu
namespace K01
open PySem PySem.Spec PyProof.Rows L2 Vm Pu Rw
section
variable {s : S} {n : Nat} {r : List (Bool × Nat)}
theorem w_of2 (hs : s.spot ≤ 100000) : ∃ b, p__law_of [.gen, .lst [.str "left", .str "right"]] s = some (.str (sd b), drawS s 2) := by
  obtain ⟨v, lt, e⟩ := w_drawN (s := s) (L := 2) (by decide) (by decide) hs
  refine ⟨v == 0, ?_⟩
  unfold p__law_of q__law_of
  have e2 : (((0 + 1 + 1 : Nat) : Int)) = 2 := rfl
  simp only [Vm.bind_some', Vm.pick_t, Vm.pick_f, Pu.gq_ok, Pu.z_var, Pu.z_c, Pu.wr_ok, Pu.bq1_ok, Pu.bq2_ok, Pu.z_bin, Pu.iq1_ok, Pu.z_if, Pu.z_ifS, Pu.z_nil, Pu.cq1_ok, Pu.cq2_ok, Pu.z_cons, Pu.fq1_ok, Pu.z_fn, Pu.z_tup, Pu.z_lst, Pu.tupQ_0, Pu.tupQ_1, Pu.tupQ_2, Pu.tupQ_3, Pu.lstQ_0, Pu.lstQ_1, Pu.lstQ_2, Pu.lstQ_3, Pu.lstQ_4, Pu.lstQ_5, Pu.lstQ_6, Pu.bq_ok, Pu.z_b, Pu.blQ_ok, Pu.z_bV, Pu.tq1_ok, Pu.tq2_ok, Pu.z_bT, Pu.aq1_ok, Pu.z_bAnd, Pu.oq1_ok, Pu.z_bOr, Pu.nq1_ok, Pu.z_bNot, Pu.z_yes, Pu.vq1_ok, Pu.vq2_ok, Pu.z_and, Pu.uq1_ok, Pu.uq2_ok, Pu.z_or, Pu.xq1_ok, Pu.xq2_ok, Pu.z_not, Pu.ngQ_ok, Pu.z_neg, Pu.kq3_ok, Pu.kq2_ok, Pu.kq1_ok, Pu.z_chain, Pu.z_oNone, Pu.osQ_ok, Pu.z_oSome, Pu.sq1_ok, Pu.sq2_ok, Pu.sq3_ok, Pu.z_slice, Pu.z_slT, Pu.z_slL, Pu.rvQ_ok, Pu.z_revT, Pu.r1Q_ok, Pu.z_rg1, Pu.z_tupR, Pu.z_lstR, Pu.lq1_ok, Pu.lq2_ok, Pu.lq3_ok, Pu.z_callL, Pu.nq_ok, Pu.z_fnK, Pu.qs_nx, Pu.qs_rt, Pu.qs_bk, Pu.qs_ct, Pu.qs_pick, Pu.z_seq, Pu.z_next, Pu.z_bk, Pu.z_ct, Pu.eq1_ok, Pu.z_expr, Pu.rq1_ok, Pu.z_ret, Pu.z_retN, Pu.gq1_ok, Pu.gq2_ok, Pu.z_asg, Pu.z_nm, Pu.z_gt, Pu.z_gw, Pu.z_gn, Pu.gcq_ok, Pu.z_gc, Pu.sbI_ok, Pu.sbJ_ok, Pu.sbO_ok, Pu.z_sub, Pu.puI_ok, Pu.z_put, Pu.apI_ok, Pu.z_append, Pu.pq1_ok, Pu.pq2_ok, Pu.z_par, Pu.p3q1_ok, Pu.p3q2_ok, Pu.p3q3_ok, Pu.z_par3, Pu.wq_ok, Pu.iqS_ok, Pu.it_tup, Pu.it_lst, Pu.it_rl, Pu.z_iSeq, Pu.z_iRng1, Pu.enQ_tup, Pu.enQ_lst, Pu.z_iEnum, Pu.zq1_ok, Pu.zq2_ok, Pu.z_iZip, Pu.foq_ok, Pu.z_for, Pu.for_nil, Pu.toq_nx, Pu.toq_ct, Pu.toq_bk, Pu.toq_rt, Pu.toq_pick, Pu.tgq_ok, Pu.lcq_ok, Pu.z_lc, Pu.lc_nil, Pu.wp_nil', Pu.wp_cons', Pu.z_body', Pu.finP_nx, Pu.finP_rt, Pu.finP_pick, Pu.y_add, Pu.y_sub, Pu.y_lt, Pu.y_le, Pu.y_gt, Pu.y_ge, Pu.y_eqI, Pu.y_eqS, Pu.y_neI, Pu.y_neS, Pu.y_lenT, Pu.y_lenL, Pu.y_lenR, Pu.y_int, Pu.y_intB, Pu.y_tupT, Pu.y_tupL, Pu.y_lstT, Pu.y_lstL, Pu.y_isii, Pu.y_isib, Pu.y_isss, Pu.y_istt, Pu.y_ixT, Pu.y_ixW, Pu.y_ixL, Pu.at_0, Pu.at_1, Pu.at_2, Pu.tp_non, Pu.tp_bl, Pu.tp_int, Pu.tp_tup, Pu.tp_lst, List.getElem?_cons_zero, List.getElem?_cons_succ, List.set_cons_zero, List.set_cons_succ, List.map_cons, List.map_nil, List.replicate_zero, List.replicate_succ, List.cons_append, List.nil_append, List.append_nil, List.length_cons, List.length_nil, Nat.sub_self, Bool.not_true, Bool.not_false, decide_true, decide_false, Nat.zero_add, Nat.add_one_sub_one, eq_self, e2, e]
  match v, lt with
  | 0, _ => simp only [Vm.bind_some', Vm.pick_t, Vm.pick_f, Pu.gq_ok, Pu.z_var, Pu.z_c, Pu.wr_ok, Pu.bq1_ok, Pu.bq2_ok, Pu.z_bin, Pu.iq1_ok, Pu.z_if, Pu.z_ifS, Pu.z_nil, Pu.cq1_ok, Pu.cq2_ok, Pu.z_cons, Pu.fq1_ok, Pu.z_fn, Pu.z_tup, Pu.z_lst, Pu.tupQ_0, Pu.tupQ_1, Pu.tupQ_2, Pu.tupQ_3, Pu.lstQ_0, Pu.lstQ_1, Pu.lstQ_2, Pu.lstQ_3, Pu.lstQ_4, Pu.lstQ_5, Pu.lstQ_6, Pu.bq_ok, Pu.z_b, Pu.blQ_ok, Pu.z_bV, Pu.tq1_ok, Pu.tq2_ok, Pu.z_bT, Pu.aq1_ok, Pu.z_bAnd, Pu.oq1_ok, Pu.z_bOr, Pu.nq1_ok, Pu.z_bNot, Pu.z_yes, Pu.vq1_ok, Pu.vq2_ok, Pu.z_and, Pu.uq1_ok, Pu.uq2_ok, Pu.z_or, Pu.xq1_ok, Pu.xq2_ok, Pu.z_not, Pu.ngQ_ok, Pu.z_neg, Pu.kq3_ok, Pu.kq2_ok, Pu.kq1_ok, Pu.z_chain, Pu.z_oNone, Pu.osQ_ok, Pu.z_oSome, Pu.sq1_ok, Pu.sq2_ok, Pu.sq3_ok, Pu.z_slice, Pu.z_slT, Pu.z_slL, Pu.rvQ_ok, Pu.z_revT, Pu.r1Q_ok, Pu.z_rg1, Pu.z_tupR, Pu.z_lstR, Pu.lq1_ok, Pu.lq2_ok, Pu.lq3_ok, Pu.z_callL, Pu.nq_ok, Pu.z_fnK, Pu.qs_nx, Pu.qs_rt, Pu.qs_bk, Pu.qs_ct, Pu.qs_pick, Pu.z_seq, Pu.z_next, Pu.z_bk, Pu.z_ct, Pu.eq1_ok, Pu.z_expr, Pu.rq1_ok, Pu.z_ret, Pu.z_retN, Pu.gq1_ok, Pu.gq2_ok, Pu.z_asg, Pu.z_nm, Pu.z_gt, Pu.z_gw, Pu.z_gn, Pu.gcq_ok, Pu.z_gc, Pu.sbI_ok, Pu.sbJ_ok, Pu.sbO_ok, Pu.z_sub, Pu.puI_ok, Pu.z_put, Pu.apI_ok, Pu.z_append, Pu.pq1_ok, Pu.pq2_ok, Pu.z_par, Pu.p3q1_ok, Pu.p3q2_ok, Pu.p3q3_ok, Pu.z_par3, Pu.wq_ok, Pu.iqS_ok, Pu.it_tup, Pu.it_lst, Pu.it_rl, Pu.z_iSeq, Pu.z_iRng1, Pu.enQ_tup, Pu.enQ_lst, Pu.z_iEnum, Pu.zq1_ok, Pu.zq2_ok, Pu.z_iZip, Pu.foq_ok, Pu.z_for, Pu.for_nil, Pu.toq_nx, Pu.toq_ct, Pu.toq_bk, Pu.toq_rt, Pu.toq_pick, Pu.tgq_ok, Pu.lcq_ok, Pu.z_lc, Pu.lc_nil, Pu.wp_nil', Pu.wp_cons', Pu.z_body', Pu.finP_nx, Pu.finP_rt, Pu.finP_pick, Pu.y_add, Pu.y_sub, Pu.y_lt, Pu.y_le, Pu.y_gt, Pu.y_ge, Pu.y_eqI, Pu.y_eqS, Pu.y_neI, Pu.y_neS, Pu.y_lenT, Pu.y_lenL, Pu.y_lenR, Pu.y_int, Pu.y_intB, Pu.y_tupT, Pu.y_tupL, Pu.y_lstT, Pu.y_lstL, Pu.y_isii, Pu.y_isib, Pu.y_isss, Pu.y_istt, Pu.y_ixT, Pu.y_ixW, Pu.y_ixL, Pu.at_0, Pu.at_1, Pu.at_2, Pu.tp_non, Pu.tp_bl, Pu.tp_int, Pu.tp_tup, Pu.tp_lst, List.getElem?_cons_zero, List.getElem?_cons_succ, List.set_cons_zero, List.set_cons_succ, List.map_cons, List.map_nil, List.replicate_zero, List.replicate_succ, List.cons_append, List.nil_append, List.append_nil, List.length_cons, List.length_nil, Nat.sub_self, Bool.not_true, Bool.not_false, decide_true, decide_false, Nat.zero_add, Nat.add_one_sub_one, eq_self, Int.natCast_zero, at_0]; rfl
  | 1, _ => simp only [Vm.bind_some', Vm.pick_t, Vm.pick_f, Pu.gq_ok, Pu.z_var, Pu.z_c, Pu.wr_ok, Pu.bq1_ok, Pu.bq2_ok, Pu.z_bin, Pu.iq1_ok, Pu.z_if, Pu.z_ifS, Pu.z_nil, Pu.cq1_ok, Pu.cq2_ok, Pu.z_cons, Pu.fq1_ok, Pu.z_fn, Pu.z_tup, Pu.z_lst, Pu.tupQ_0, Pu.tupQ_1, Pu.tupQ_2, Pu.tupQ_3, Pu.lstQ_0, Pu.lstQ_1, Pu.lstQ_2, Pu.lstQ_3, Pu.lstQ_4, Pu.lstQ_5, Pu.lstQ_6, Pu.bq_ok, Pu.z_b, Pu.blQ_ok, Pu.z_bV, Pu.tq1_ok, Pu.tq2_ok, Pu.z_bT, Pu.aq1_ok, Pu.z_bAnd, Pu.oq1_ok, Pu.z_bOr, Pu.nq1_ok, Pu.z_bNot, Pu.z_yes, Pu.vq1_ok, Pu.vq2_ok, Pu.z_and, Pu.uq1_ok, Pu.uq2_ok, Pu.z_or, Pu.xq1_ok, Pu.xq2_ok, Pu.z_not, Pu.ngQ_ok, Pu.z_neg, Pu.kq3_ok, Pu.kq2_ok, Pu.kq1_ok, Pu.z_chain, Pu.z_oNone, Pu.osQ_ok, Pu.z_oSome, Pu.sq1_ok, Pu.sq2_ok, Pu.sq3_ok, Pu.z_slice, Pu.z_slT, Pu.z_slL, Pu.rvQ_ok, Pu.z_revT, Pu.r1Q_ok, Pu.z_rg1, Pu.z_tupR, Pu.z_lstR, Pu.lq1_ok, Pu.lq2_ok, Pu.lq3_ok, Pu.z_callL, Pu.nq_ok, Pu.z_fnK, Pu.qs_nx, Pu.qs_rt, Pu.qs_bk, Pu.qs_ct, Pu.qs_pick, Pu.z_seq, Pu.z_next, Pu.z_bk, Pu.z_ct, Pu.eq1_ok, Pu.z_expr, Pu.rq1_ok, Pu.z_ret, Pu.z_retN, Pu.gq1_ok, Pu.gq2_ok, Pu.z_asg, Pu.z_nm, Pu.z_gt, Pu.z_gw, Pu.z_gn, Pu.gcq_ok, Pu.z_gc, Pu.sbI_ok, Pu.sbJ_ok, Pu.sbO_ok, Pu.z_sub, Pu.puI_ok, Pu.z_put, Pu.apI_ok, Pu.z_append, Pu.pq1_ok, Pu.pq2_ok, Pu.z_par, Pu.p3q1_ok, Pu.p3q2_ok, Pu.p3q3_ok, Pu.z_par3, Pu.wq_ok, Pu.iqS_ok, Pu.it_tup, Pu.it_lst, Pu.it_rl, Pu.z_iSeq, Pu.z_iRng1, Pu.enQ_tup, Pu.enQ_lst, Pu.z_iEnum, Pu.zq1_ok, Pu.zq2_ok, Pu.z_iZip, Pu.foq_ok, Pu.z_for, Pu.for_nil, Pu.toq_nx, Pu.toq_ct, Pu.toq_bk, Pu.toq_rt, Pu.toq_pick, Pu.tgq_ok, Pu.lcq_ok, Pu.z_lc, Pu.lc_nil, Pu.wp_nil', Pu.wp_cons', Pu.z_body', Pu.finP_nx, Pu.finP_rt, Pu.finP_pick, Pu.y_add, Pu.y_sub, Pu.y_lt, Pu.y_le, Pu.y_gt, Pu.y_ge, Pu.y_eqI, Pu.y_eqS, Pu.y_neI, Pu.y_neS, Pu.y_lenT, Pu.y_lenL, Pu.y_lenR, Pu.y_int, Pu.y_intB, Pu.y_tupT, Pu.y_tupL, Pu.y_lstT, Pu.y_lstL, Pu.y_isii, Pu.y_isib, Pu.y_isss, Pu.y_istt, Pu.y_ixT, Pu.y_ixW, Pu.y_ixL, Pu.at_0, Pu.at_1, Pu.at_2, Pu.tp_non, Pu.tp_bl, Pu.tp_int, Pu.tp_tup, Pu.tp_lst, List.getElem?_cons_zero, List.getElem?_cons_succ, List.set_cons_zero, List.set_cons_succ, List.map_cons, List.map_nil, List.replicate_zero, List.replicate_succ, List.cons_append, List.nil_append, List.append_nil, List.length_cons, List.length_nil, Nat.sub_self, Bool.not_true, Bool.not_false, decide_true, decide_false, Nat.zero_add, Nat.add_one_sub_one, eq_self, Int.natCast_one, at_1]; rfl
theorem w_l_row {most : Nat} (h1 : 2 ≤ n) (h2 : n ≤ 5) (hm : most ≤ 60) (hs : s.spot ≤ 90000) : ∃ r s', p__law_row [.gen, .int n, .int most] s = some (rowV r, s') ∧ r.length ≤ most ∧ (∀ c ∈ r, c.2 + 1 < n) ∧ s'.spot ≤ s.spot + 200 := by
  obtain ⟨v, lt, e⟩ := w_drawN (s := s) (L := (most : Int) + 1) (by omega) (by omega) (by omega)
  unfold p__law_row q__law_row
  have sp := drawS_spot s ((most : Int) + 1)
  simp only [Vm.bind_some', Vm.pick_t, Vm.pick_f, Pu.gq_ok, Pu.z_var, Pu.z_c, Pu.wr_ok, Pu.bq1_ok, Pu.bq2_ok, Pu.z_bin, Pu.iq1_ok, Pu.z_if, Pu.z_ifS, Pu.z_nil, Pu.cq1_ok, Pu.cq2_ok, Pu.z_cons, Pu.fq1_ok, Pu.z_fn, Pu.z_tup, Pu.z_lst, Pu.tupQ_0, Pu.tupQ_1, Pu.tupQ_2, Pu.tupQ_3, Pu.lstQ_0, Pu.lstQ_1, Pu.lstQ_2, Pu.lstQ_3, Pu.lstQ_4, Pu.lstQ_5, Pu.lstQ_6, Pu.bq_ok, Pu.z_b, Pu.blQ_ok, Pu.z_bV, Pu.tq1_ok, Pu.tq2_ok, Pu.z_bT, Pu.aq1_ok, Pu.z_bAnd, Pu.oq1_ok, Pu.z_bOr, Pu.nq1_ok, Pu.z_bNot, Pu.z_yes, Pu.vq1_ok, Pu.vq2_ok, Pu.z_and, Pu.uq1_ok, Pu.uq2_ok, Pu.z_or, Pu.xq1_ok, Pu.xq2_ok, Pu.z_not, Pu.ngQ_ok, Pu.z_neg, Pu.kq3_ok, Pu.kq2_ok, Pu.kq1_ok, Pu.z_chain, Pu.z_oNone, Pu.osQ_ok, Pu.z_oSome, Pu.sq1_ok, Pu.sq2_ok, Pu.sq3_ok, Pu.z_slice, Pu.z_slT, Pu.z_slL, Pu.rvQ_ok, Pu.z_revT, Pu.r1Q_ok, Pu.z_rg1, Pu.z_tupR, Pu.z_lstR, Pu.lq1_ok, Pu.lq2_ok, Pu.lq3_ok, Pu.z_callL, Pu.nq_ok, Pu.z_fnK, Pu.qs_nx, Pu.qs_rt, Pu.qs_bk, Pu.qs_ct, Pu.qs_pick, Pu.z_seq, Pu.z_next, Pu.z_bk, Pu.z_ct, Pu.eq1_ok, Pu.z_expr, Pu.rq1_ok, Pu.z_ret, Pu.z_retN, Pu.gq1_ok, Pu.gq2_ok, Pu.z_asg, Pu.z_nm, Pu.z_gt, Pu.z_gw, Pu.z_gn, Pu.gcq_ok, Pu.z_gc, Pu.sbI_ok, Pu.sbJ_ok, Pu.sbO_ok, Pu.z_sub, Pu.puI_ok, Pu.z_put, Pu.apI_ok, Pu.z_append, Pu.pq1_ok, Pu.pq2_ok, Pu.z_par, Pu.p3q1_ok, Pu.p3q2_ok, Pu.p3q3_ok, Pu.z_par3, Pu.wq_ok, Pu.iqS_ok, Pu.it_tup, Pu.it_lst, Pu.it_rl, Pu.z_iSeq, Pu.z_iRng1, Pu.enQ_tup, Pu.enQ_lst, Pu.z_iEnum, Pu.zq1_ok, Pu.zq2_ok, Pu.z_iZip, Pu.foq_ok, Pu.z_for, Pu.for_nil, Pu.toq_nx, Pu.toq_ct, Pu.toq_bk, Pu.toq_rt, Pu.toq_pick, Pu.tgq_ok, Pu.lcq_ok, Pu.z_lc, Pu.lc_nil, Pu.wp_nil', Pu.wp_cons', Pu.z_body', Pu.finP_nx, Pu.finP_rt, Pu.finP_pick, Pu.y_add, Pu.y_sub, Pu.y_lt, Pu.y_le, Pu.y_gt, Pu.y_ge, Pu.y_eqI, Pu.y_eqS, Pu.y_neI, Pu.y_neS, Pu.y_lenT, Pu.y_lenL, Pu.y_lenR, Pu.y_int, Pu.y_intB, Pu.y_tupT, Pu.y_tupL, Pu.y_lstT, Pu.y_lstL, Pu.y_isii, Pu.y_isib, Pu.y_isss, Pu.y_istt, Pu.y_ixT, Pu.y_ixW, Pu.y_ixL, Pu.at_0, Pu.at_1, Pu.at_2, Pu.tp_non, Pu.tp_bl, Pu.tp_int, Pu.tp_tup, Pu.tp_lst, List.getElem?_cons_zero, List.getElem?_cons_succ, List.set_cons_zero, List.set_cons_succ, List.map_cons, List.map_nil, List.replicate_zero, List.replicate_succ, List.cons_append, List.nil_append, List.append_nil, List.length_cons, List.length_nil, Nat.sub_self, Bool.not_true, Bool.not_false, decide_true, decide_false, Nat.zero_add, Nat.add_one_sub_one, eq_self, e, rgQ_nv (show v ≤ 1000 by omega)]
  generalize drawS s ((most : Int) + 1) = s1 at *
  generalize hF : forP _ _ _ _ _ = o
  obtain ⟨pe', s', e, r, e4, e5, e6, rfl, ln, ok, sp'⟩ := for_cnt hF (fun k pe s' => ∃ r e4 e5 e6, pe = [some .gen, some (.int n), some (.int most), some (.lst (r.map crV)), e4, e5, e6] ∧ r.length = k ∧ (∀ c ∈ r, c.2 + 1 < n) ∧ s'.spot ≤ s1.spot + 3 * k) (i := 0) ⟨[], none, none, none, rfl, rfl, (fun c m => by cases m), Nat.le_refl _⟩ (by
    rintro p hp j pe s2 hj ⟨r, e4, e5, e6, rfl, ln, ok, sp2⟩
    rw [nv_len, List.length_range] at hj
    have hj' : j < 61 := by omega
    obtain ⟨b, eb⟩ := w_of2 (s := s2) (by omega)
    have sb := drawS_spot s2 2
    generalize drawS s2 2 = s3 at *
    obtain ⟨q, lq, eq⟩ := w_drawN (s := s3) (L := (n : Int) - 1) (by omega) (by omega) (by omega)
    have sq := drawS_spot s3 ((n : Int) - 1)
    generalize drawS s3 ((n : Int) - 1) = s4 at *
    have ap : ∀ (c : Bool × Nat) (s : S) (E4 E5 E6 : Option P), apO 3 (.tup [.str (sd c.1), .int (c.2 : Int)]) [some .gen, some (.int n), some (.int most), some (.lst (r.map crV)), E4, E5, E6] s (some (some (.lst (r.map crV)))) = some (.nx [some .gen, some (.int n), some (.int most), some (.lst ((r ++ [c]).map crV)), E4, E5, E6] s) := fun c s E4 E5 E6 => by
      rw [apO_ok (by rw [List.length_map]; omega), List.map_append]
      rfl
    have fin : ∀ c : Bool × Nat, c.2 + 1 < n → ∀ d ∈ r ++ [c], d.2 + 1 < n := fun c hc d m => by
      rcases List.mem_append.mp m with m | m
      · exact ok d m
      · rw [List.mem_singleton] at m; subst m; exact hc
    have A1 := ap (b, q)
    simp only at A1
    by_cases h : r = []
    · subst h
      refine ⟨_, s4, ?_, [] ++ [(b, q)], some p, some (.str (sd b)), some (.int (q : Int)), rfl, by simp [← ln], fin _ (by simp only; omega), by omega⟩
      simp only [Vm.bind_some', Vm.pick_t, Vm.pick_f, Pu.gq_ok, Pu.z_var, Pu.z_c, Pu.wr_ok, Pu.bq1_ok, Pu.bq2_ok, Pu.z_bin, Pu.iq1_ok, Pu.z_if, Pu.z_ifS, Pu.z_nil, Pu.cq1_ok, Pu.cq2_ok, Pu.z_cons, Pu.fq1_ok, Pu.z_fn, Pu.z_tup, Pu.z_lst, Pu.tupQ_0, Pu.tupQ_1, Pu.tupQ_2, Pu.tupQ_3, Pu.lstQ_0, Pu.lstQ_1, Pu.lstQ_2, Pu.lstQ_3, Pu.lstQ_4, Pu.lstQ_5, Pu.lstQ_6, Pu.bq_ok, Pu.z_b, Pu.blQ_ok, Pu.z_bV, Pu.tq1_ok, Pu.tq2_ok, Pu.z_bT, Pu.aq1_ok, Pu.z_bAnd, Pu.oq1_ok, Pu.z_bOr, Pu.nq1_ok, Pu.z_bNot, Pu.z_yes, Pu.vq1_ok, Pu.vq2_ok, Pu.z_and, Pu.uq1_ok, Pu.uq2_ok, Pu.z_or, Pu.xq1_ok, Pu.xq2_ok, Pu.z_not, Pu.ngQ_ok, Pu.z_neg, Pu.kq3_ok, Pu.kq2_ok, Pu.kq1_ok, Pu.z_chain, Pu.z_oNone, Pu.osQ_ok, Pu.z_oSome, Pu.sq1_ok, Pu.sq2_ok, Pu.sq3_ok, Pu.z_slice, Pu.z_slT, Pu.z_slL, Pu.rvQ_ok, Pu.z_revT, Pu.r1Q_ok, Pu.z_rg1, Pu.z_tupR, Pu.z_lstR, Pu.lq1_ok, Pu.lq2_ok, Pu.lq3_ok, Pu.z_callL, Pu.nq_ok, Pu.z_fnK, Pu.qs_nx, Pu.qs_rt, Pu.qs_bk, Pu.qs_ct, Pu.qs_pick, Pu.z_seq, Pu.z_next, Pu.z_bk, Pu.z_ct, Pu.eq1_ok, Pu.z_expr, Pu.rq1_ok, Pu.z_ret, Pu.z_retN, Pu.gq1_ok, Pu.gq2_ok, Pu.z_asg, Pu.z_nm, Pu.z_gt, Pu.z_gw, Pu.z_gn, Pu.gcq_ok, Pu.z_gc, Pu.sbI_ok, Pu.sbJ_ok, Pu.sbO_ok, Pu.z_sub, Pu.puI_ok, Pu.z_put, Pu.apI_ok, Pu.z_append, Pu.pq1_ok, Pu.pq2_ok, Pu.z_par, Pu.p3q1_ok, Pu.p3q2_ok, Pu.p3q3_ok, Pu.z_par3, Pu.wq_ok, Pu.iqS_ok, Pu.it_tup, Pu.it_lst, Pu.it_rl, Pu.z_iSeq, Pu.z_iRng1, Pu.enQ_tup, Pu.enQ_lst, Pu.z_iEnum, Pu.zq1_ok, Pu.zq2_ok, Pu.z_iZip, Pu.foq_ok, Pu.z_for, Pu.for_nil, Pu.toq_nx, Pu.toq_ct, Pu.toq_bk, Pu.toq_rt, Pu.toq_pick, Pu.tgq_ok, Pu.lcq_ok, Pu.z_lc, Pu.lc_nil, Pu.wp_nil', Pu.wp_cons', Pu.z_body', Pu.finP_nx, Pu.finP_rt, Pu.finP_pick, Pu.y_add, Pu.y_sub, Pu.y_lt, Pu.y_le, Pu.y_gt, Pu.y_ge, Pu.y_eqI, Pu.y_eqS, Pu.y_neI, Pu.y_neS, Pu.y_lenT, Pu.y_lenL, Pu.y_lenR, Pu.y_int, Pu.y_intB, Pu.y_tupT, Pu.y_tupL, Pu.y_lstT, Pu.y_lstL, Pu.y_isii, Pu.y_isib, Pu.y_isss, Pu.y_istt, Pu.y_ixT, Pu.y_ixW, Pu.y_ixL, Pu.at_0, Pu.at_1, Pu.at_2, Pu.tp_non, Pu.tp_bl, Pu.tp_int, Pu.tp_tup, Pu.tp_lst, List.getElem?_cons_zero, List.getElem?_cons_succ, List.set_cons_zero, List.set_cons_succ, List.map_cons, List.map_nil, List.replicate_zero, List.replicate_succ, List.cons_append, List.nil_append, List.append_nil, List.length_cons, List.length_nil, Nat.sub_self, Bool.not_true, Bool.not_false, decide_true, decide_false, Nat.zero_add, Nat.add_one_sub_one, eq_self, eb, eq, y_neRows, List.isEmpty_nil]
      first | exact A1 _ _ _ _ | (rw [A1]; rfl)
    · obtain ⟨r', c, rfl⟩ : ∃ r' c, r = r' ++ [c] := ⟨_, _, (List.dropLast_concat_getLast h).symm⟩
      have ne : (r' ++ [c]).isEmpty = false := by cases r' <;> rfl
      obtain ⟨w, lw, ew⟩ := w_drawN (s := s4) (L := 5) (by decide) (by decide) (by omega)
      have sw := drawS_spot s4 5
      generalize drawS s4 5 = s5 at *
      by_cases hw : w = 0
      · subst hw
        have d : decide (((0 : Nat) : Int) = 0) = true := rfl
        have la : atI ((r' ++ [c]).map crV) (-1) = some (.tup [.str (sd c.1), .int (c.2 : Int)]) := by rw [List.map_append]; exact at_last
        have A2 := ap (!c.1, c.2)
        simp only at A2
        refine ⟨_, s5, ?_, (r' ++ [c]) ++ [(!c.1, c.2)], some p, some (.str (sd (!c.1))), some (.int (c.2 : Int)), rfl, by simp only [List.length_append, List.length_singleton] at ln ⊢; omega, fin _ (ok c (by simp)), by omega⟩
        simp only [Vm.bind_some', Vm.pick_t, Vm.pick_f, Pu.gq_ok, Pu.z_var, Pu.z_c, Pu.wr_ok, Pu.bq1_ok, Pu.bq2_ok, Pu.z_bin, Pu.iq1_ok, Pu.z_if, Pu.z_ifS, Pu.z_nil, Pu.cq1_ok, Pu.cq2_ok, Pu.z_cons, Pu.fq1_ok, Pu.z_fn, Pu.z_tup, Pu.z_lst, Pu.tupQ_0, Pu.tupQ_1, Pu.tupQ_2, Pu.tupQ_3, Pu.lstQ_0, Pu.lstQ_1, Pu.lstQ_2, Pu.lstQ_3, Pu.lstQ_4, Pu.lstQ_5, Pu.lstQ_6, Pu.bq_ok, Pu.z_b, Pu.blQ_ok, Pu.z_bV, Pu.tq1_ok, Pu.tq2_ok, Pu.z_bT, Pu.aq1_ok, Pu.z_bAnd, Pu.oq1_ok, Pu.z_bOr, Pu.nq1_ok, Pu.z_bNot, Pu.z_yes, Pu.vq1_ok, Pu.vq2_ok, Pu.z_and, Pu.uq1_ok, Pu.uq2_ok, Pu.z_or, Pu.xq1_ok, Pu.xq2_ok, Pu.z_not, Pu.ngQ_ok, Pu.z_neg, Pu.kq3_ok, Pu.kq2_ok, Pu.kq1_ok, Pu.z_chain, Pu.z_oNone, Pu.osQ_ok, Pu.z_oSome, Pu.sq1_ok, Pu.sq2_ok, Pu.sq3_ok, Pu.z_slice, Pu.z_slT, Pu.z_slL, Pu.rvQ_ok, Pu.z_revT, Pu.r1Q_ok, Pu.z_rg1, Pu.z_tupR, Pu.z_lstR, Pu.lq1_ok, Pu.lq2_ok, Pu.lq3_ok, Pu.z_callL, Pu.nq_ok, Pu.z_fnK, Pu.qs_nx, Pu.qs_rt, Pu.qs_bk, Pu.qs_ct, Pu.qs_pick, Pu.z_seq, Pu.z_next, Pu.z_bk, Pu.z_ct, Pu.eq1_ok, Pu.z_expr, Pu.rq1_ok, Pu.z_ret, Pu.z_retN, Pu.gq1_ok, Pu.gq2_ok, Pu.z_asg, Pu.z_nm, Pu.z_gt, Pu.z_gw, Pu.z_gn, Pu.gcq_ok, Pu.z_gc, Pu.sbI_ok, Pu.sbJ_ok, Pu.sbO_ok, Pu.z_sub, Pu.puI_ok, Pu.z_put, Pu.apI_ok, Pu.z_append, Pu.pq1_ok, Pu.pq2_ok, Pu.z_par, Pu.p3q1_ok, Pu.p3q2_ok, Pu.p3q3_ok, Pu.z_par3, Pu.wq_ok, Pu.iqS_ok, Pu.it_tup, Pu.it_lst, Pu.it_rl, Pu.z_iSeq, Pu.z_iRng1, Pu.enQ_tup, Pu.enQ_lst, Pu.z_iEnum, Pu.zq1_ok, Pu.zq2_ok, Pu.z_iZip, Pu.foq_ok, Pu.z_for, Pu.for_nil, Pu.toq_nx, Pu.toq_ct, Pu.toq_bk, Pu.toq_rt, Pu.toq_pick, Pu.tgq_ok, Pu.lcq_ok, Pu.z_lc, Pu.lc_nil, Pu.wp_nil', Pu.wp_cons', Pu.z_body', Pu.finP_nx, Pu.finP_rt, Pu.finP_pick, Pu.y_add, Pu.y_sub, Pu.y_lt, Pu.y_le, Pu.y_gt, Pu.y_ge, Pu.y_eqI, Pu.y_eqS, Pu.y_neI, Pu.y_neS, Pu.y_lenT, Pu.y_lenL, Pu.y_lenR, Pu.y_int, Pu.y_intB, Pu.y_tupT, Pu.y_tupL, Pu.y_lstT, Pu.y_lstL, Pu.y_isii, Pu.y_isib, Pu.y_isss, Pu.y_istt, Pu.y_ixT, Pu.y_ixW, Pu.y_ixL, Pu.at_0, Pu.at_1, Pu.at_2, Pu.tp_non, Pu.tp_bl, Pu.tp_int, Pu.tp_tup, Pu.tp_lst, List.getElem?_cons_zero, List.getElem?_cons_succ, List.set_cons_zero, List.set_cons_succ, List.map_cons, List.map_nil, List.replicate_zero, List.replicate_succ, List.cons_append, List.nil_append, List.append_nil, List.length_cons, List.length_nil, Nat.sub_self, Bool.not_true, Bool.not_false, decide_true, decide_false, Nat.zero_add, Nat.add_one_sub_one, eq_self, eb, eq, y_neRows, ne, ew, d, la, sd_right, flipE]
        first | exact A2 _ _ _ _ | (rw [A2]; rfl)
      · have d : decide ((w : Int) = 0) = false := decide_eq_false (by omega)
        refine ⟨_, s5, ?_, (r' ++ [c]) ++ [(b, q)], some p, some (.str (sd b)), some (.int (q : Int)), rfl, by simp only [List.length_append, List.length_singleton] at ln ⊢; omega, fin _ (by simp only; omega), by omega⟩
        simp only [Vm.bind_some', Vm.pick_t, Vm.pick_f, Pu.gq_ok, Pu.z_var, Pu.z_c, Pu.wr_ok, Pu.bq1_ok, Pu.bq2_ok, Pu.z_bin, Pu.iq1_ok, Pu.z_if, Pu.z_ifS, Pu.z_nil, Pu.cq1_ok, Pu.cq2_ok, Pu.z_cons, Pu.fq1_ok, Pu.z_fn, Pu.z_tup, Pu.z_lst, Pu.tupQ_0, Pu.tupQ_1, Pu.tupQ_2, Pu.tupQ_3, Pu.lstQ_0, Pu.lstQ_1, Pu.lstQ_2, Pu.lstQ_3, Pu.lstQ_4, Pu.lstQ_5, Pu.lstQ_6, Pu.bq_ok, Pu.z_b, Pu.blQ_ok, Pu.z_bV, Pu.tq1_ok, Pu.tq2_ok, Pu.z_bT, Pu.aq1_ok, Pu.z_bAnd, Pu.oq1_ok, Pu.z_bOr, Pu.nq1_ok, Pu.z_bNot, Pu.z_yes, Pu.vq1_ok, Pu.vq2_ok, Pu.z_and, Pu.uq1_ok, Pu.uq2_ok, Pu.z_or, Pu.xq1_ok, Pu.xq2_ok, Pu.z_not, Pu.ngQ_ok, Pu.z_neg, Pu.kq3_ok, Pu.kq2_ok, Pu.kq1_ok, Pu.z_chain, Pu.z_oNone, Pu.osQ_ok, Pu.z_oSome, Pu.sq1_ok, Pu.sq2_ok, Pu.sq3_ok, Pu.z_slice, Pu.z_slT, Pu.z_slL, Pu.rvQ_ok, Pu.z_revT, Pu.r1Q_ok, Pu.z_rg1, Pu.z_tupR, Pu.z_lstR, Pu.lq1_ok, Pu.lq2_ok, Pu.lq3_ok, Pu.z_callL, Pu.nq_ok, Pu.z_fnK, Pu.qs_nx, Pu.qs_rt, Pu.qs_bk, Pu.qs_ct, Pu.qs_pick, Pu.z_seq, Pu.z_next, Pu.z_bk, Pu.z_ct, Pu.eq1_ok, Pu.z_expr, Pu.rq1_ok, Pu.z_ret, Pu.z_retN, Pu.gq1_ok, Pu.gq2_ok, Pu.z_asg, Pu.z_nm, Pu.z_gt, Pu.z_gw, Pu.z_gn, Pu.gcq_ok, Pu.z_gc, Pu.sbI_ok, Pu.sbJ_ok, Pu.sbO_ok, Pu.z_sub, Pu.puI_ok, Pu.z_put, Pu.apI_ok, Pu.z_append, Pu.pq1_ok, Pu.pq2_ok, Pu.z_par, Pu.p3q1_ok, Pu.p3q2_ok, Pu.p3q3_ok, Pu.z_par3, Pu.wq_ok, Pu.iqS_ok, Pu.it_tup, Pu.it_lst, Pu.it_rl, Pu.z_iSeq, Pu.z_iRng1, Pu.enQ_tup, Pu.enQ_lst, Pu.z_iEnum, Pu.zq1_ok, Pu.zq2_ok, Pu.z_iZip, Pu.foq_ok, Pu.z_for, Pu.for_nil, Pu.toq_nx, Pu.toq_ct, Pu.toq_bk, Pu.toq_rt, Pu.toq_pick, Pu.tgq_ok, Pu.lcq_ok, Pu.z_lc, Pu.lc_nil, Pu.wp_nil', Pu.wp_cons', Pu.z_body', Pu.finP_nx, Pu.finP_rt, Pu.finP_pick, Pu.y_add, Pu.y_sub, Pu.y_lt, Pu.y_le, Pu.y_gt, Pu.y_ge, Pu.y_eqI, Pu.y_eqS, Pu.y_neI, Pu.y_neS, Pu.y_lenT, Pu.y_lenL, Pu.y_lenR, Pu.y_int, Pu.y_intB, Pu.y_tupT, Pu.y_tupL, Pu.y_lstT, Pu.y_lstL, Pu.y_isii, Pu.y_isib, Pu.y_isss, Pu.y_istt, Pu.y_ixT, Pu.y_ixW, Pu.y_ixL, Pu.at_0, Pu.at_1, Pu.at_2, Pu.tp_non, Pu.tp_bl, Pu.tp_int, Pu.tp_tup, Pu.tp_lst, List.getElem?_cons_zero, List.getElem?_cons_succ, List.set_cons_zero, List.set_cons_succ, List.map_cons, List.map_nil, List.replicate_zero, List.replicate_succ, List.cons_append, List.nil_append, List.append_nil, List.length_cons, List.length_nil, Nat.sub_self, Bool.not_true, Bool.not_false, decide_true, decide_false, Nat.zero_add, Nat.add_one_sub_one, eq_self, eb, eq, y_neRows, ne, ew, d]
        first | exact A1 _ _ _ _ | (rw [A1]; rfl))
  rw [nv_len, List.length_range] at ln sp'
  subst e
  refine ⟨r, s', by simp only [Vm.bind_some', Vm.pick_t, Vm.pick_f, Pu.gq_ok, Pu.z_var, Pu.z_c, Pu.wr_ok, Pu.bq1_ok, Pu.bq2_ok, Pu.z_bin, Pu.iq1_ok, Pu.z_if, Pu.z_ifS, Pu.z_nil, Pu.cq1_ok, Pu.cq2_ok, Pu.z_cons, Pu.fq1_ok, Pu.z_fn, Pu.z_tup, Pu.z_lst, Pu.tupQ_0, Pu.tupQ_1, Pu.tupQ_2, Pu.tupQ_3, Pu.lstQ_0, Pu.lstQ_1, Pu.lstQ_2, Pu.lstQ_3, Pu.lstQ_4, Pu.lstQ_5, Pu.lstQ_6, Pu.bq_ok, Pu.z_b, Pu.blQ_ok, Pu.z_bV, Pu.tq1_ok, Pu.tq2_ok, Pu.z_bT, Pu.aq1_ok, Pu.z_bAnd, Pu.oq1_ok, Pu.z_bOr, Pu.nq1_ok, Pu.z_bNot, Pu.z_yes, Pu.vq1_ok, Pu.vq2_ok, Pu.z_and, Pu.uq1_ok, Pu.uq2_ok, Pu.z_or, Pu.xq1_ok, Pu.xq2_ok, Pu.z_not, Pu.ngQ_ok, Pu.z_neg, Pu.kq3_ok, Pu.kq2_ok, Pu.kq1_ok, Pu.z_chain, Pu.z_oNone, Pu.osQ_ok, Pu.z_oSome, Pu.sq1_ok, Pu.sq2_ok, Pu.sq3_ok, Pu.z_slice, Pu.z_slT, Pu.z_slL, Pu.rvQ_ok, Pu.z_revT, Pu.r1Q_ok, Pu.z_rg1, Pu.z_tupR, Pu.z_lstR, Pu.lq1_ok, Pu.lq2_ok, Pu.lq3_ok, Pu.z_callL, Pu.nq_ok, Pu.z_fnK, Pu.qs_nx, Pu.qs_rt, Pu.qs_bk, Pu.qs_ct, Pu.qs_pick, Pu.z_seq, Pu.z_next, Pu.z_bk, Pu.z_ct, Pu.eq1_ok, Pu.z_expr, Pu.rq1_ok, Pu.z_ret, Pu.z_retN, Pu.gq1_ok, Pu.gq2_ok, Pu.z_asg, Pu.z_nm, Pu.z_gt, Pu.z_gw, Pu.z_gn, Pu.gcq_ok, Pu.z_gc, Pu.sbI_ok, Pu.sbJ_ok, Pu.sbO_ok, Pu.z_sub, Pu.puI_ok, Pu.z_put, Pu.apI_ok, Pu.z_append, Pu.pq1_ok, Pu.pq2_ok, Pu.z_par, Pu.p3q1_ok, Pu.p3q2_ok, Pu.p3q3_ok, Pu.z_par3, Pu.wq_ok, Pu.iqS_ok, Pu.it_tup, Pu.it_lst, Pu.it_rl, Pu.z_iSeq, Pu.z_iRng1, Pu.enQ_tup, Pu.enQ_lst, Pu.z_iEnum, Pu.zq1_ok, Pu.zq2_ok, Pu.z_iZip, Pu.foq_ok, Pu.z_for, Pu.for_nil, Pu.toq_nx, Pu.toq_ct, Pu.toq_bk, Pu.toq_rt, Pu.toq_pick, Pu.tgq_ok, Pu.lcq_ok, Pu.z_lc, Pu.lc_nil, Pu.wp_nil', Pu.wp_cons', Pu.z_body', Pu.finP_nx, Pu.finP_rt, Pu.finP_pick, Pu.y_add, Pu.y_sub, Pu.y_lt, Pu.y_le, Pu.y_gt, Pu.y_ge, Pu.y_eqI, Pu.y_eqS, Pu.y_neI, Pu.y_neS, Pu.y_lenT, Pu.y_lenL, Pu.y_lenR, Pu.y_int, Pu.y_intB, Pu.y_tupT, Pu.y_tupL, Pu.y_lstT, Pu.y_lstL, Pu.y_isii, Pu.y_isib, Pu.y_isss, Pu.y_istt, Pu.y_ixT, Pu.y_ixW, Pu.y_ixL, Pu.at_0, Pu.at_1, Pu.at_2, Pu.tp_non, Pu.tp_bl, Pu.tp_int, Pu.tp_tup, Pu.tp_lst, List.getElem?_cons_zero, List.getElem?_cons_succ, List.set_cons_zero, List.set_cons_succ, List.map_cons, List.map_nil, List.replicate_zero, List.replicate_succ, List.cons_append, List.nil_append, List.append_nil, List.length_cons, List.length_nil, Nat.sub_self, Bool.not_true, Bool.not_false, decide_true, decide_false, Nat.zero_add, Nat.add_one_sub_one, eq_self]; rfl, by omega, ok, by omega⟩

def rpt : Nat → List (Bool × Nat) → List (Bool × Nat)
  | 0, _ => []
  | k + 1, r => r ++ rpt k r
theorem rpt_mem {c : Bool × Nat} : ∀ {k : Nat} {r : List (Bool × Nat)}, c ∈ rpt k r → c ∈ r
  | 0, _, m => by cases m
  | k + 1, r, m => (List.mem_append.mp m).elim id rpt_mem
theorem w_sixty (hr : r.length ≤ 8) : pMulT (rowV r) (.int 60) = some (rowV (rpt 60 r)) := by
  have fl : ∀ k, (List.replicate k (r.map crV)).flatten = (rpt k r).map crV := fun k => by
    induction k with
    | zero => rfl
    | succ k ih => rw [List.replicate_succ, List.flatten_cons, ih, rpt, List.map_append]
  unfold rowV
  cases r with
  | nil => rfl
  | cons c r =>
    have f := fl 60
    rw [List.map_cons] at f ⊢
    rw [← f]
    show (if (decide ((2 : Int) ≤ 60) && decide ((60 : Int) ≤ 1000) && decide ((crV c :: r.map crV).length ≤ 1000)) = true then some (P.tup (List.replicate (Int.toNat 60) (crV c :: r.map crV)).flatten) else none) = _
    have d : decide ((crV c :: r.map crV).length ≤ 1000) = true := decide_eq_true (by simp only [List.length_cons, List.length_map] at hr ⊢; omega)
    rw [d]
    rfl
theorem cut_row {k : Nat} : cutP (r.map crV) none (some (k : Int)) = (r.take k).map crV := by rw [cutP_take', List.map_take]
def keptV (q : Nat × List (Bool × Nat)) : P := .tup [.int (q.1 : Int), rowV q.2]
def OkN (q : Nat × List (Bool × Nat)) : Prop := 2 ≤ q.1 ∧ q.1 ≤ 5 ∧ Ok q.1 q.2
theorem w_law {x0 : Option P} (hs : s.spot ≤ 1000) : ∃ s', finP (q_law [x0, some .gen, none, none, none, none] s) = some (.bl true, s') := by
  have rg2 : ∀ {s : S}, rgQ (.int 2, s) = some (nv (List.range 2), s) := fun {s} => rgQ_nv (n := 2) (by decide)
  unfold q_law
  simp only [Vm.bind_some', Vm.pick_t, Vm.pick_f, Pu.gq_ok, Pu.z_var, Pu.z_c, Pu.wr_ok, Pu.bq1_ok, Pu.bq2_ok, Pu.z_bin, Pu.iq1_ok, Pu.z_if, Pu.z_ifS, Pu.z_nil, Pu.cq1_ok, Pu.cq2_ok, Pu.z_cons, Pu.fq1_ok, Pu.z_fn, Pu.z_tup, Pu.z_lst, Pu.tupQ_0, Pu.tupQ_1, Pu.tupQ_2, Pu.tupQ_3, Pu.lstQ_0, Pu.lstQ_1, Pu.lstQ_2, Pu.lstQ_3, Pu.lstQ_4, Pu.lstQ_5, Pu.lstQ_6, Pu.bq_ok, Pu.z_b, Pu.blQ_ok, Pu.z_bV, Pu.tq1_ok, Pu.tq2_ok, Pu.z_bT, Pu.aq1_ok, Pu.z_bAnd, Pu.oq1_ok, Pu.z_bOr, Pu.nq1_ok, Pu.z_bNot, Pu.z_yes, Pu.vq1_ok, Pu.vq2_ok, Pu.z_and, Pu.uq1_ok, Pu.uq2_ok, Pu.z_or, Pu.xq1_ok, Pu.xq2_ok, Pu.z_not, Pu.ngQ_ok, Pu.z_neg, Pu.kq3_ok, Pu.kq2_ok, Pu.kq1_ok, Pu.z_chain, Pu.z_oNone, Pu.osQ_ok, Pu.z_oSome, Pu.sq1_ok, Pu.sq2_ok, Pu.sq3_ok, Pu.z_slice, Pu.z_slT, Pu.z_slL, Pu.rvQ_ok, Pu.z_revT, Pu.r1Q_ok, Pu.z_rg1, Pu.z_tupR, Pu.z_lstR, Pu.lq1_ok, Pu.lq2_ok, Pu.lq3_ok, Pu.z_callL, Pu.nq_ok, Pu.z_fnK, Pu.qs_nx, Pu.qs_rt, Pu.qs_bk, Pu.qs_ct, Pu.qs_pick, Pu.z_seq, Pu.z_next, Pu.z_bk, Pu.z_ct, Pu.eq1_ok, Pu.z_expr, Pu.rq1_ok, Pu.z_ret, Pu.z_retN, Pu.gq1_ok, Pu.gq2_ok, Pu.z_asg, Pu.z_nm, Pu.z_gt, Pu.z_gw, Pu.z_gn, Pu.gcq_ok, Pu.z_gc, Pu.sbI_ok, Pu.sbJ_ok, Pu.sbO_ok, Pu.z_sub, Pu.puI_ok, Pu.z_put, Pu.apI_ok, Pu.z_append, Pu.pq1_ok, Pu.pq2_ok, Pu.z_par, Pu.p3q1_ok, Pu.p3q2_ok, Pu.p3q3_ok, Pu.z_par3, Pu.wq_ok, Pu.iqS_ok, Pu.it_tup, Pu.it_lst, Pu.it_rl, Pu.z_iSeq, Pu.z_iRng1, Pu.enQ_tup, Pu.enQ_lst, Pu.z_iEnum, Pu.zq1_ok, Pu.zq2_ok, Pu.z_iZip, Pu.foq_ok, Pu.z_for, Pu.for_nil, Pu.toq_nx, Pu.toq_ct, Pu.toq_bk, Pu.toq_rt, Pu.toq_pick, Pu.tgq_ok, Pu.lcq_ok, Pu.z_lc, Pu.lc_nil, Pu.wp_nil', Pu.wp_cons', Pu.z_body', Pu.finP_nx, Pu.finP_rt, Pu.finP_pick, Pu.y_add, Pu.y_sub, Pu.y_lt, Pu.y_le, Pu.y_gt, Pu.y_ge, Pu.y_eqI, Pu.y_eqS, Pu.y_neI, Pu.y_neS, Pu.y_lenT, Pu.y_lenL, Pu.y_lenR, Pu.y_int, Pu.y_intB, Pu.y_tupT, Pu.y_tupL, Pu.y_lstT, Pu.y_lstL, Pu.y_isii, Pu.y_isib, Pu.y_isss, Pu.y_istt, Pu.y_ixT, Pu.y_ixW, Pu.y_ixL, Pu.at_0, Pu.at_1, Pu.at_2, Pu.tp_non, Pu.tp_bl, Pu.tp_int, Pu.tp_tup, Pu.tp_lst, List.getElem?_cons_zero, List.getElem?_cons_succ, List.set_cons_zero, List.set_cons_succ, List.map_cons, List.map_nil, List.replicate_zero, List.replicate_succ, List.cons_append, List.nil_append, List.append_nil, List.length_cons, List.length_nil, Nat.sub_self, Bool.not_true, Bool.not_false, decide_true, decide_false, Nat.zero_add, Nat.add_one_sub_one, eq_self, rg2]
  generalize hF : forP _ _ _ _ _ = o
  obtain ⟨pe', s', e, l, e3, e4, e5, rfl, ln, ok, sp'⟩ := for_cnt hF (fun k pe s' => ∃ l e3 e4 e5, pe = [x0, some .gen, some (.lst (l.map keptV)), e3, e4, e5] ∧ l.length = k ∧ (∀ q ∈ l, OkN q) ∧ s'.spot ≤ s.spot + 300 * k) (i := 0) ⟨[], none, none, none, rfl, rfl, (fun c m => by cases m), Nat.le_refl _⟩ (by
    rintro p hp j pe s1 hj ⟨l, e3, e4, e5, rfl, ln, ok, sp1⟩
    rw [nv_len, List.length_range] at hj
    obtain ⟨v, lv, ev⟩ := w_drawN (s := s1) (L := 4) (by decide) (by decide) (by omega)
    have s2 := drawS_spot s1 4
    generalize drawS s1 4 = S2 at *
    obtain ⟨r, S3, er, lr, cr, s3⟩ := w_l_row (s := S2) (n := 2 + v) (most := 8) (by omega) (by omega) (by decide) (by omega)
    have er : p__law_row [.gen, .int (2 + v : Nat), .int 8] S2 = some (rowV r, S3) := er
    obtain ⟨w, lw, ew⟩ := w_drawN (s := S3) (L := 6) (by decide) (by decide) (by omega)
    have s4 := drawS_spot S3 6
    generalize drawS S3 6 = S4 at *
    have n2 : (2 : Int) + (v : Int) = ((2 + v : Nat) : Int) := by omega
    have ap : ∀ (r : List (Bool × Nat)) (s : S) (E3 E4 E5 : Option P), apO 2 (.tup [.int (2 + v : Nat), rowV r]) [x0, some .gen, some (.lst (l.map keptV)), E3, E4, E5] s (some (some (.lst (l.map keptV)))) = some (.nx [x0, some .gen, some (.lst ((l ++ [(2 + v, r)]).map keptV)), E3, E4, E5] s) := fun r s E3 E4 E5 => by
      rw [apO_ok (by rw [List.length_map]; omega), List.map_append]
      rfl
    have fin : ∀ r : List (Bool × Nat), Ok (2 + v) r → ∀ q ∈ l ++ [(2 + v, r)], OkN q := fun r hr q m => by
      rcases List.mem_append.mp m with m | m
      · exact ok q m
      · rw [List.mem_singleton] at m; subst m; exact ⟨by simp only; omega, by simp only; omega, hr⟩
    by_cases hw : w = 0
    · subst hw
      have d : decide (((0 : Nat) : Int) = 0) = true := rfl
      have six : pMulT (rowV r) (.int 60) = some (rowV (rpt 60 r)) := w_sixty lr
      have rv : ∀ r : List (Bool × Nat), pSlice (rowV r) none (some 60) = some (rowV (r.take 60)) := fun r => by
        unfold rowV
        rw [z_slT, show (60 : Int) = ((60 : Nat) : Int) from rfl, cut_row]
      have ok60 : Ok (2 + v) ((rpt 60 r).take 60) := ⟨by rw [List.length_take]; omega, fun c m => cr c (rpt_mem (List.mem_of_mem_take m))⟩
      refine ⟨_, S4, ?_, l ++ [(2 + v, (rpt 60 r).take 60)], some p, some (.int (2 + v : Nat)), some (rowV ((rpt 60 r).take 60)), rfl, by simp only [List.length_append, List.length_singleton]; omega, fin _ ok60, by omega⟩
      simp only [Vm.bind_some', Vm.pick_t, Vm.pick_f, Pu.gq_ok, Pu.z_var, Pu.z_c, Pu.wr_ok, Pu.bq1_ok, Pu.bq2_ok, Pu.z_bin, Pu.iq1_ok, Pu.z_if, Pu.z_ifS, Pu.z_nil, Pu.cq1_ok, Pu.cq2_ok, Pu.z_cons, Pu.fq1_ok, Pu.z_fn, Pu.z_tup, Pu.z_lst, Pu.tupQ_0, Pu.tupQ_1, Pu.tupQ_2, Pu.tupQ_3, Pu.lstQ_0, Pu.lstQ_1, Pu.lstQ_2, Pu.lstQ_3, Pu.lstQ_4, Pu.lstQ_5, Pu.lstQ_6, Pu.bq_ok, Pu.z_b, Pu.blQ_ok, Pu.z_bV, Pu.tq1_ok, Pu.tq2_ok, Pu.z_bT, Pu.aq1_ok, Pu.z_bAnd, Pu.oq1_ok, Pu.z_bOr, Pu.nq1_ok, Pu.z_bNot, Pu.z_yes, Pu.vq1_ok, Pu.vq2_ok, Pu.z_and, Pu.uq1_ok, Pu.uq2_ok, Pu.z_or, Pu.xq1_ok, Pu.xq2_ok, Pu.z_not, Pu.ngQ_ok, Pu.z_neg, Pu.kq3_ok, Pu.kq2_ok, Pu.kq1_ok, Pu.z_chain, Pu.z_oNone, Pu.osQ_ok, Pu.z_oSome, Pu.sq1_ok, Pu.sq2_ok, Pu.sq3_ok, Pu.z_slice, Pu.z_slT, Pu.z_slL, Pu.rvQ_ok, Pu.z_revT, Pu.r1Q_ok, Pu.z_rg1, Pu.z_tupR, Pu.z_lstR, Pu.lq1_ok, Pu.lq2_ok, Pu.lq3_ok, Pu.z_callL, Pu.nq_ok, Pu.z_fnK, Pu.qs_nx, Pu.qs_rt, Pu.qs_bk, Pu.qs_ct, Pu.qs_pick, Pu.z_seq, Pu.z_next, Pu.z_bk, Pu.z_ct, Pu.eq1_ok, Pu.z_expr, Pu.rq1_ok, Pu.z_ret, Pu.z_retN, Pu.gq1_ok, Pu.gq2_ok, Pu.z_asg, Pu.z_nm, Pu.z_gt, Pu.z_gw, Pu.z_gn, Pu.gcq_ok, Pu.z_gc, Pu.sbI_ok, Pu.sbJ_ok, Pu.sbO_ok, Pu.z_sub, Pu.puI_ok, Pu.z_put, Pu.apI_ok, Pu.z_append, Pu.pq1_ok, Pu.pq2_ok, Pu.z_par, Pu.p3q1_ok, Pu.p3q2_ok, Pu.p3q3_ok, Pu.z_par3, Pu.wq_ok, Pu.iqS_ok, Pu.it_tup, Pu.it_lst, Pu.it_rl, Pu.z_iSeq, Pu.z_iRng1, Pu.enQ_tup, Pu.enQ_lst, Pu.z_iEnum, Pu.zq1_ok, Pu.zq2_ok, Pu.z_iZip, Pu.foq_ok, Pu.z_for, Pu.for_nil, Pu.toq_nx, Pu.toq_ct, Pu.toq_bk, Pu.toq_rt, Pu.toq_pick, Pu.tgq_ok, Pu.lcq_ok, Pu.z_lc, Pu.lc_nil, Pu.wp_nil', Pu.wp_cons', Pu.z_body', Pu.finP_nx, Pu.finP_rt, Pu.finP_pick, Pu.y_add, Pu.y_sub, Pu.y_lt, Pu.y_le, Pu.y_gt, Pu.y_ge, Pu.y_eqI, Pu.y_eqS, Pu.y_neI, Pu.y_neS, Pu.y_lenT, Pu.y_lenL, Pu.y_lenR, Pu.y_int, Pu.y_intB, Pu.y_tupT, Pu.y_tupL, Pu.y_lstT, Pu.y_lstL, Pu.y_isii, Pu.y_isib, Pu.y_isss, Pu.y_istt, Pu.y_ixT, Pu.y_ixW, Pu.y_ixL, Pu.at_0, Pu.at_1, Pu.at_2, Pu.tp_non, Pu.tp_bl, Pu.tp_int, Pu.tp_tup, Pu.tp_lst, List.getElem?_cons_zero, List.getElem?_cons_succ, List.set_cons_zero, List.set_cons_succ, List.map_cons, List.map_nil, List.replicate_zero, List.replicate_succ, List.cons_append, List.nil_append, List.append_nil, List.length_cons, List.length_nil, Nat.sub_self, Bool.not_true, Bool.not_false, decide_true, decide_false, Nat.zero_add, Nat.add_one_sub_one, eq_self, ev, n2, er, ew, d, six, rv]
      first | exact ap _ _ _ _ _ | (rw [ap]; rfl)
    · have d : decide ((w : Int) = 0) = false := decide_eq_false (by omega)
      have okr : Ok (2 + v) r := ⟨by omega, cr⟩
      refine ⟨_, S4, ?_, l ++ [(2 + v, r)], some p, some (.int (2 + v : Nat)), some (rowV r), rfl, by simp only [List.length_append, List.length_singleton]; omega, fin _ okr, by omega⟩
      simp only [Vm.bind_some', Vm.pick_t, Vm.pick_f, Pu.gq_ok, Pu.z_var, Pu.z_c, Pu.wr_ok, Pu.bq1_ok, Pu.bq2_ok, Pu.z_bin, Pu.iq1_ok, Pu.z_if, Pu.z_ifS, Pu.z_nil, Pu.cq1_ok, Pu.cq2_ok, Pu.z_cons, Pu.fq1_ok, Pu.z_fn, Pu.z_tup, Pu.z_lst, Pu.tupQ_0, Pu.tupQ_1, Pu.tupQ_2, Pu.tupQ_3, Pu.lstQ_0, Pu.lstQ_1, Pu.lstQ_2, Pu.lstQ_3, Pu.lstQ_4, Pu.lstQ_5, Pu.lstQ_6, Pu.bq_ok, Pu.z_b, Pu.blQ_ok, Pu.z_bV, Pu.tq1_ok, Pu.tq2_ok, Pu.z_bT, Pu.aq1_ok, Pu.z_bAnd, Pu.oq1_ok, Pu.z_bOr, Pu.nq1_ok, Pu.z_bNot, Pu.z_yes, Pu.vq1_ok, Pu.vq2_ok, Pu.z_and, Pu.uq1_ok, Pu.uq2_ok, Pu.z_or, Pu.xq1_ok, Pu.xq2_ok, Pu.z_not, Pu.ngQ_ok, Pu.z_neg, Pu.kq3_ok, Pu.kq2_ok, Pu.kq1_ok, Pu.z_chain, Pu.z_oNone, Pu.osQ_ok, Pu.z_oSome, Pu.sq1_ok, Pu.sq2_ok, Pu.sq3_ok, Pu.z_slice, Pu.z_slT, Pu.z_slL, Pu.rvQ_ok, Pu.z_revT, Pu.r1Q_ok, Pu.z_rg1, Pu.z_tupR, Pu.z_lstR, Pu.lq1_ok, Pu.lq2_ok, Pu.lq3_ok, Pu.z_callL, Pu.nq_ok, Pu.z_fnK, Pu.qs_nx, Pu.qs_rt, Pu.qs_bk, Pu.qs_ct, Pu.qs_pick, Pu.z_seq, Pu.z_next, Pu.z_bk, Pu.z_ct, Pu.eq1_ok, Pu.z_expr, Pu.rq1_ok, Pu.z_ret, Pu.z_retN, Pu.gq1_ok, Pu.gq2_ok, Pu.z_asg, Pu.z_nm, Pu.z_gt, Pu.z_gw, Pu.z_gn, Pu.gcq_ok, Pu.z_gc, Pu.sbI_ok, Pu.sbJ_ok, Pu.sbO_ok, Pu.z_sub, Pu.puI_ok, Pu.z_put, Pu.apI_ok, Pu.z_append, Pu.pq1_ok, Pu.pq2_ok, Pu.z_par, Pu.p3q1_ok, Pu.p3q2_ok, Pu.p3q3_ok, Pu.z_par3, Pu.wq_ok, Pu.iqS_ok, Pu.it_tup, Pu.it_lst, Pu.it_rl, Pu.z_iSeq, Pu.z_iRng1, Pu.enQ_tup, Pu.enQ_lst, Pu.z_iEnum, Pu.zq1_ok, Pu.zq2_ok, Pu.z_iZip, Pu.foq_ok, Pu.z_for, Pu.for_nil, Pu.toq_nx, Pu.toq_ct, Pu.toq_bk, Pu.toq_rt, Pu.toq_pick, Pu.tgq_ok, Pu.lcq_ok, Pu.z_lc, Pu.lc_nil, Pu.wp_nil', Pu.wp_cons', Pu.z_body', Pu.finP_nx, Pu.finP_rt, Pu.finP_pick, Pu.y_add, Pu.y_sub, Pu.y_lt, Pu.y_le, Pu.y_gt, Pu.y_ge, Pu.y_eqI, Pu.y_eqS, Pu.y_neI, Pu.y_neS, Pu.y_lenT, Pu.y_lenL, Pu.y_lenR, Pu.y_int, Pu.y_intB, Pu.y_tupT, Pu.y_tupL, Pu.y_lstT, Pu.y_lstL, Pu.y_isii, Pu.y_isib, Pu.y_isss, Pu.y_istt, Pu.y_ixT, Pu.y_ixW, Pu.y_ixL, Pu.at_0, Pu.at_1, Pu.at_2, Pu.tp_non, Pu.tp_bl, Pu.tp_int, Pu.tp_tup, Pu.tp_lst, List.getElem?_cons_zero, List.getElem?_cons_succ, List.set_cons_zero, List.set_cons_succ, List.map_cons, List.map_nil, List.replicate_zero, List.replicate_succ, List.cons_append, List.nil_append, List.append_nil, List.length_cons, List.length_nil, Nat.sub_self, Bool.not_true, Bool.not_false, decide_true, decide_false, Nat.zero_add, Nat.add_one_sub_one, eq_self, ev, n2, er, ew, d]
      first | exact ap _ _ _ _ _ | (rw [ap]; rfl))
  subst e
  have ln : l.length = 2 := by rw [ln, nv_len, List.length_range]
  obtain ⟨a, b, rfl⟩ : ∃ a b, l = [a, b] := by
    match l, ln with
    | [a, b], _ => exact ⟨a, b, rfl⟩
  clear hF sp'
  have c1 : ∀ {a b : P}, cutP [a, b] none (some 1) = [a] := fun {a b} => rfl
  have a1 : ∀ {a b c : P}, pAdd (.lst [a, b]) (.lst [c]) = some (.lst [a, b, c]) := fun {a b c} => rfl
  have kv : ∀ q, keptV q = .tup [.int (q.1 : Int), rowV q.2] := fun q => rfl
  simp only [Vm.bind_some', Vm.pick_t, Vm.pick_f, Pu.gq_ok, Pu.z_var, Pu.z_c, Pu.wr_ok, Pu.bq1_ok, Pu.bq2_ok, Pu.z_bin, Pu.iq1_ok, Pu.z_if, Pu.z_ifS, Pu.z_nil, Pu.cq1_ok, Pu.cq2_ok, Pu.z_cons, Pu.fq1_ok, Pu.z_fn, Pu.z_tup, Pu.z_lst, Pu.tupQ_0, Pu.tupQ_1, Pu.tupQ_2, Pu.tupQ_3, Pu.lstQ_0, Pu.lstQ_1, Pu.lstQ_2, Pu.lstQ_3, Pu.lstQ_4, Pu.lstQ_5, Pu.lstQ_6, Pu.bq_ok, Pu.z_b, Pu.blQ_ok, Pu.z_bV, Pu.tq1_ok, Pu.tq2_ok, Pu.z_bT, Pu.aq1_ok, Pu.z_bAnd, Pu.oq1_ok, Pu.z_bOr, Pu.nq1_ok, Pu.z_bNot, Pu.z_yes, Pu.vq1_ok, Pu.vq2_ok, Pu.z_and, Pu.uq1_ok, Pu.uq2_ok, Pu.z_or, Pu.xq1_ok, Pu.xq2_ok, Pu.z_not, Pu.ngQ_ok, Pu.z_neg, Pu.kq3_ok, Pu.kq2_ok, Pu.kq1_ok, Pu.z_chain, Pu.z_oNone, Pu.osQ_ok, Pu.z_oSome, Pu.sq1_ok, Pu.sq2_ok, Pu.sq3_ok, Pu.z_slice, Pu.z_slT, Pu.z_slL, Pu.rvQ_ok, Pu.z_revT, Pu.r1Q_ok, Pu.z_rg1, Pu.z_tupR, Pu.z_lstR, Pu.lq1_ok, Pu.lq2_ok, Pu.lq3_ok, Pu.z_callL, Pu.nq_ok, Pu.z_fnK, Pu.qs_nx, Pu.qs_rt, Pu.qs_bk, Pu.qs_ct, Pu.qs_pick, Pu.z_seq, Pu.z_next, Pu.z_bk, Pu.z_ct, Pu.eq1_ok, Pu.z_expr, Pu.rq1_ok, Pu.z_ret, Pu.z_retN, Pu.gq1_ok, Pu.gq2_ok, Pu.z_asg, Pu.z_nm, Pu.z_gt, Pu.z_gw, Pu.z_gn, Pu.gcq_ok, Pu.z_gc, Pu.sbI_ok, Pu.sbJ_ok, Pu.sbO_ok, Pu.z_sub, Pu.puI_ok, Pu.z_put, Pu.apI_ok, Pu.z_append, Pu.pq1_ok, Pu.pq2_ok, Pu.z_par, Pu.p3q1_ok, Pu.p3q2_ok, Pu.p3q3_ok, Pu.z_par3, Pu.wq_ok, Pu.iqS_ok, Pu.it_tup, Pu.it_lst, Pu.it_rl, Pu.z_iSeq, Pu.z_iRng1, Pu.enQ_tup, Pu.enQ_lst, Pu.z_iEnum, Pu.zq1_ok, Pu.zq2_ok, Pu.z_iZip, Pu.foq_ok, Pu.z_for, Pu.for_nil, Pu.toq_nx, Pu.toq_ct, Pu.toq_bk, Pu.toq_rt, Pu.toq_pick, Pu.tgq_ok, Pu.lcq_ok, Pu.z_lc, Pu.lc_nil, Pu.wp_nil', Pu.wp_cons', Pu.z_body', Pu.finP_nx, Pu.finP_rt, Pu.finP_pick, Pu.y_add, Pu.y_sub, Pu.y_lt, Pu.y_le, Pu.y_gt, Pu.y_ge, Pu.y_eqI, Pu.y_eqS, Pu.y_neI, Pu.y_neS, Pu.y_lenT, Pu.y_lenL, Pu.y_lenR, Pu.y_int, Pu.y_intB, Pu.y_tupT, Pu.y_tupL, Pu.y_lstT, Pu.y_lstL, Pu.y_isii, Pu.y_isib, Pu.y_isss, Pu.y_istt, Pu.y_ixT, Pu.y_ixW, Pu.y_ixL, Pu.at_0, Pu.at_1, Pu.at_2, Pu.tp_non, Pu.tp_bl, Pu.tp_int, Pu.tp_tup, Pu.tp_lst, List.getElem?_cons_zero, List.getElem?_cons_succ, List.set_cons_zero, List.set_cons_succ, List.map_cons, List.map_nil, List.replicate_zero, List.replicate_succ, List.cons_append, List.nil_append, List.append_nil, List.length_cons, List.length_nil, Nat.sub_self, Bool.not_true, Bool.not_false, decide_true, decide_false, Nat.zero_add, Nat.add_one_sub_one, eq_self, c1, a1]
  generalize hF : forP _ _ _ _ _ = o
  obtain ⟨pe', e, f4, f5, rfl⟩ := for_all' hF (fun pe => ∃ e4 e5, pe = [x0, some .gen, some (.lst [keptV a, keptV b]), e3, e4, e5]) ⟨_, _, rfl⟩ (by
    rintro p hp pe ⟨e4, e5, rfl⟩
    obtain ⟨q, ⟨h1, h2, hr⟩, rfl⟩ : ∃ q, OkN q ∧ keptV q = p := by
      simp only [List.mem_cons, List.not_mem_nil, or_false] at hp
      rcases hp with rfl | rfl | rfl
      · exact ⟨a, ok a (by simp), rfl⟩
      · exact ⟨b, ok b (by simp), rfl⟩
      · exact ⟨a, ok a (by simp), rfl⟩
    refine ⟨_, ?_, some (.int (q.1 : Int)), some (rowV q.2), rfl⟩
    rw [kv]
    simp only [Vm.bind_some', Vm.pick_t, Vm.pick_f, Pu.gq_ok, Pu.z_var, Pu.z_c, Pu.wr_ok, Pu.bq1_ok, Pu.bq2_ok, Pu.z_bin, Pu.iq1_ok, Pu.z_if, Pu.z_ifS, Pu.z_nil, Pu.cq1_ok, Pu.cq2_ok, Pu.z_cons, Pu.fq1_ok, Pu.z_fn, Pu.z_tup, Pu.z_lst, Pu.tupQ_0, Pu.tupQ_1, Pu.tupQ_2, Pu.tupQ_3, Pu.lstQ_0, Pu.lstQ_1, Pu.lstQ_2, Pu.lstQ_3, Pu.lstQ_4, Pu.lstQ_5, Pu.lstQ_6, Pu.bq_ok, Pu.z_b, Pu.blQ_ok, Pu.z_bV, Pu.tq1_ok, Pu.tq2_ok, Pu.z_bT, Pu.aq1_ok, Pu.z_bAnd, Pu.oq1_ok, Pu.z_bOr, Pu.nq1_ok, Pu.z_bNot, Pu.z_yes, Pu.vq1_ok, Pu.vq2_ok, Pu.z_and, Pu.uq1_ok, Pu.uq2_ok, Pu.z_or, Pu.xq1_ok, Pu.xq2_ok, Pu.z_not, Pu.ngQ_ok, Pu.z_neg, Pu.kq3_ok, Pu.kq2_ok, Pu.kq1_ok, Pu.z_chain, Pu.z_oNone, Pu.osQ_ok, Pu.z_oSome, Pu.sq1_ok, Pu.sq2_ok, Pu.sq3_ok, Pu.z_slice, Pu.z_slT, Pu.z_slL, Pu.rvQ_ok, Pu.z_revT, Pu.r1Q_ok, Pu.z_rg1, Pu.z_tupR, Pu.z_lstR, Pu.lq1_ok, Pu.lq2_ok, Pu.lq3_ok, Pu.z_callL, Pu.nq_ok, Pu.z_fnK, Pu.qs_nx, Pu.qs_rt, Pu.qs_bk, Pu.qs_ct, Pu.qs_pick, Pu.z_seq, Pu.z_next, Pu.z_bk, Pu.z_ct, Pu.eq1_ok, Pu.z_expr, Pu.rq1_ok, Pu.z_ret, Pu.z_retN, Pu.gq1_ok, Pu.gq2_ok, Pu.z_asg, Pu.z_nm, Pu.z_gt, Pu.z_gw, Pu.z_gn, Pu.gcq_ok, Pu.z_gc, Pu.sbI_ok, Pu.sbJ_ok, Pu.sbO_ok, Pu.z_sub, Pu.puI_ok, Pu.z_put, Pu.apI_ok, Pu.z_append, Pu.pq1_ok, Pu.pq2_ok, Pu.z_par, Pu.p3q1_ok, Pu.p3q2_ok, Pu.p3q3_ok, Pu.z_par3, Pu.wq_ok, Pu.iqS_ok, Pu.it_tup, Pu.it_lst, Pu.it_rl, Pu.z_iSeq, Pu.z_iRng1, Pu.enQ_tup, Pu.enQ_lst, Pu.z_iEnum, Pu.zq1_ok, Pu.zq2_ok, Pu.z_iZip, Pu.foq_ok, Pu.z_for, Pu.for_nil, Pu.toq_nx, Pu.toq_ct, Pu.toq_bk, Pu.toq_rt, Pu.toq_pick, Pu.tgq_ok, Pu.lcq_ok, Pu.z_lc, Pu.lc_nil, Pu.wp_nil', Pu.wp_cons', Pu.z_body', Pu.finP_nx, Pu.finP_rt, Pu.finP_pick, Pu.y_add, Pu.y_sub, Pu.y_lt, Pu.y_le, Pu.y_gt, Pu.y_ge, Pu.y_eqI, Pu.y_eqS, Pu.y_neI, Pu.y_neS, Pu.y_lenT, Pu.y_lenL, Pu.y_lenR, Pu.y_int, Pu.y_intB, Pu.y_tupT, Pu.y_tupL, Pu.y_lstT, Pu.y_lstL, Pu.y_isii, Pu.y_isib, Pu.y_isss, Pu.y_istt, Pu.y_ixT, Pu.y_ixW, Pu.y_ixL, Pu.at_0, Pu.at_1, Pu.at_2, Pu.tp_non, Pu.tp_bl, Pu.tp_int, Pu.tp_tup, Pu.tp_lst, List.getElem?_cons_zero, List.getElem?_cons_succ, List.set_cons_zero, List.set_cons_succ, List.map_cons, List.map_nil, List.replicate_zero, List.replicate_succ, List.cons_append, List.nil_append, List.append_nil, List.length_cons, List.length_nil, Nat.sub_self, Bool.not_true, Bool.not_false, decide_true, decide_false, Nat.zero_add, Nat.add_one_sub_one, eq_self, w_is_row_right h1 h2 hr, w_made_right h1 h2 hr, w_twice_right h1 h2 hr, w_back_right h1 h2 hr])
  subst e
  obtain ⟨h1, h2, hr⟩ := ok a (by simp)
  refine ⟨s', ?_⟩
  simp only [Vm.bind_some', Vm.pick_t, Vm.pick_f, Pu.gq_ok, Pu.z_var, Pu.z_c, Pu.wr_ok, Pu.bq1_ok, Pu.bq2_ok, Pu.z_bin, Pu.iq1_ok, Pu.z_if, Pu.z_ifS, Pu.z_nil, Pu.cq1_ok, Pu.cq2_ok, Pu.z_cons, Pu.fq1_ok, Pu.z_fn, Pu.z_tup, Pu.z_lst, Pu.tupQ_0, Pu.tupQ_1, Pu.tupQ_2, Pu.tupQ_3, Pu.lstQ_0, Pu.lstQ_1, Pu.lstQ_2, Pu.lstQ_3, Pu.lstQ_4, Pu.lstQ_5, Pu.lstQ_6, Pu.bq_ok, Pu.z_b, Pu.blQ_ok, Pu.z_bV, Pu.tq1_ok, Pu.tq2_ok, Pu.z_bT, Pu.aq1_ok, Pu.z_bAnd, Pu.oq1_ok, Pu.z_bOr, Pu.nq1_ok, Pu.z_bNot, Pu.z_yes, Pu.vq1_ok, Pu.vq2_ok, Pu.z_and, Pu.uq1_ok, Pu.uq2_ok, Pu.z_or, Pu.xq1_ok, Pu.xq2_ok, Pu.z_not, Pu.ngQ_ok, Pu.z_neg, Pu.kq3_ok, Pu.kq2_ok, Pu.kq1_ok, Pu.z_chain, Pu.z_oNone, Pu.osQ_ok, Pu.z_oSome, Pu.sq1_ok, Pu.sq2_ok, Pu.sq3_ok, Pu.z_slice, Pu.z_slT, Pu.z_slL, Pu.rvQ_ok, Pu.z_revT, Pu.r1Q_ok, Pu.z_rg1, Pu.z_tupR, Pu.z_lstR, Pu.lq1_ok, Pu.lq2_ok, Pu.lq3_ok, Pu.z_callL, Pu.nq_ok, Pu.z_fnK, Pu.qs_nx, Pu.qs_rt, Pu.qs_bk, Pu.qs_ct, Pu.qs_pick, Pu.z_seq, Pu.z_next, Pu.z_bk, Pu.z_ct, Pu.eq1_ok, Pu.z_expr, Pu.rq1_ok, Pu.z_ret, Pu.z_retN, Pu.gq1_ok, Pu.gq2_ok, Pu.z_asg, Pu.z_nm, Pu.z_gt, Pu.z_gw, Pu.z_gn, Pu.gcq_ok, Pu.z_gc, Pu.sbI_ok, Pu.sbJ_ok, Pu.sbO_ok, Pu.z_sub, Pu.puI_ok, Pu.z_put, Pu.apI_ok, Pu.z_append, Pu.pq1_ok, Pu.pq2_ok, Pu.z_par, Pu.p3q1_ok, Pu.p3q2_ok, Pu.p3q3_ok, Pu.z_par3, Pu.wq_ok, Pu.iqS_ok, Pu.it_tup, Pu.it_lst, Pu.it_rl, Pu.z_iSeq, Pu.z_iRng1, Pu.enQ_tup, Pu.enQ_lst, Pu.z_iEnum, Pu.zq1_ok, Pu.zq2_ok, Pu.z_iZip, Pu.foq_ok, Pu.z_for, Pu.for_nil, Pu.toq_nx, Pu.toq_ct, Pu.toq_bk, Pu.toq_rt, Pu.toq_pick, Pu.tgq_ok, Pu.lcq_ok, Pu.z_lc, Pu.lc_nil, Pu.wp_nil', Pu.wp_cons', Pu.z_body', Pu.finP_nx, Pu.finP_rt, Pu.finP_pick, Pu.y_add, Pu.y_sub, Pu.y_lt, Pu.y_le, Pu.y_gt, Pu.y_ge, Pu.y_eqI, Pu.y_eqS, Pu.y_neI, Pu.y_neS, Pu.y_lenT, Pu.y_lenL, Pu.y_lenR, Pu.y_int, Pu.y_intB, Pu.y_tupT, Pu.y_tupL, Pu.y_lstT, Pu.y_lstL, Pu.y_isii, Pu.y_isib, Pu.y_isss, Pu.y_istt, Pu.y_ixT, Pu.y_ixW, Pu.y_ixL, Pu.at_0, Pu.at_1, Pu.at_2, Pu.tp_non, Pu.tp_bl, Pu.tp_int, Pu.tp_tup, Pu.tp_lst, List.getElem?_cons_zero, List.getElem?_cons_succ, List.set_cons_zero, List.set_cons_succ, List.map_cons, List.map_nil, List.replicate_zero, List.replicate_succ, List.cons_append, List.nil_append, List.append_nil, List.length_cons, List.length_nil, Nat.sub_self, Bool.not_true, Bool.not_false, decide_true, decide_false, Nat.zero_add, Nat.add_one_sub_one, eq_self, kv, w_names_right h1 h2 hr]
end
end K01
namespace K01
open PySem PySem.Spec PyProof.Rows L2 Vm Pu
theorem get_new {H : VH} {u : VO} : (H ++ [u])[List.length H]? = some u := by simp
theorem rng_eq (n : Nat) : rng 0 n = (List.range n).map fun (i : Nat) => D.int (i : Int) := by
  unfold rng
  apply List.map_congr_left
  intro i _
  rw [Int.zero_add]
theorem lcN {cs : List (Nat × VO)} {own g t e env h} (ck : chk cs h = true) : lcL cs own g t e env [] h = some ([], h) := by rw [lcL, if_pos ck]
theorem lcC {cs : List (Nat × VO)} {own g t e env x xs h} (ck : chk cs h = true) : lcL cs own g t e env (x :: xs) h = ls1 (g x (wipeE env own) h) t e (lcL cs own g t e env xs) := by
  rw [lcL, if_pos ck]; rfl
theorem lc_map {cs : List (Nat × VO)} {own : List Nat} {g : GM} {me : EM} {env : En} {h : VH} {α : Type} {f F : α → D} : ∀ (l : List α), chk cs h = true → (∀ a ∈ l, (g (f a) (wipeE env own) h).bind (fun p => me p.1 p.2) = some (F a, h)) → lcL cs own g bYes me env (l.map f) h = some (l.map F, h)
  | [], ck, _ => lcN ck
  | a :: l, ck, H => by
    have ih := lc_map (own := own) (g := g) (me := me) (env := env) (F := F) (f := f) l ck fun b m => H b (by simp [m])
    have e := H a (by simp)
    rw [List.map_cons, lcC ck]
    cases hg : g (f a) (wipeE env own) h with
    | none => rw [hg] at e; cases e
    | some p =>
      obtain ⟨env', h'⟩ := p
      rw [hg, bind_some'] at e
      show ls3 (me env' h') _ = _
      rw [show me env' h' = some (F a, h) from e]
      show ls4 (F a) (lcL cs own g bYes me env (l.map f) h) = _
      rw [ih]
      rfl
theorem idc_set {l : List Int} {j : Nat} {v : Int} : (idc l).set j (.int v) = idc (l.set j v) := by simp [idc, List.map_set]
theorem st_at {h : VH} {cs : List Int} {j : Nat} {v : Int} (hj : j < cs.length) : dStore (.ref (List.length h)) (.int (j : Int)) (.int v) (h ++ [.lst (idc cs)]) = some (h ++ [.lst (idc (cs.set j v))]) := by
  have e : (h ++ [VO.lst (idc cs)])[List.length h]? = some (.lst (idc cs)) := get_new
  simp only [dStore, e, idc_len, Vm.ixN_nat hj, bind_some', idc_set]
  simp
theorem ix_at {h : VH} {cs : List Int} {j : Nat} (hj : j < cs.length) : dIx (.ref (List.length h)) (.int (j : Int)) (h ++ [.lst (idc cs)]) = some (.int cs[j], h ++ [.lst (idc cs)]) :=
  Vm.i_ref get_new (Vm.ixN_nat (by rw [idc_len]; exact hj)) (idc_get hj)
theorem loop_fold1 {e0 : Option D} : ∀ (ns : List Int) (k : Nat) (cs : List Int) (e2 e3 : Option D) (h : VH), cs.length = 64 → ∃ f2 f3 cs', cs'.length = 64 ∧
    forL [] (gT (gC (gNm 2) (gC (gNm 3) gN))) (sSeq (sPut (mVar 1) (mBin dMod (mFn dInt (mCons (mVar 2) mNil)) (mC (.int 64))) (mBin dMod (mFn dInt (mCons (mBin dAdd (mBin dMulT (mBin dIx (mVar 1) (mBin dMod (mFn dInt (mCons (mVar 2) mNil)) (mC (.int 64)))) (mC (.int 48271))) (mVar 3)) mNil)) (mC (.int 2147483647)))) sNext) (enumP k (ns.map D.int)) [e0, some (.ref (List.length h)), e2, e3] (h ++ [.lst (idc cs)]) =
      some (.nx [e0, some (.ref (List.length h)), f2, f3] (h ++ [.lst (idc cs')]))
  | [], k, cs, e2, e3, h, hc => ⟨e2, e3, cs, hc, rfl⟩
  | x :: ns, k, cs, e2, e3, h, hc => by
    have m64 : ∀ h : VH, dMod (.int (k : Int)) (.int 64) h = some (.int (((k % 64 : Nat) : Int)), h) := fun h => by
      rw [Vm.o_mod (by decide), Int.fmod_eq_emod_of_nonneg _ (by decide)]
      congr 3
    have hj : k % 64 < cs.length := by rw [hc]; exact Nat.mod_lt _ (by decide)
    have k3 : ∀ (y : Int) (h : VH), dMulT (.int y) (.int 48271) h = some (.int (y * 48271), h) := fun y h => Vm.o_mul (.inr (in64_c (by decide) (by decide)))
    have m1 : ∀ (y : Int) (h : VH), dMod (.int y) (.int 2147483647) h = some (.int (y.fmod 2147483647), h) := fun y h => Vm.o_mod (by decide)
    obtain ⟨f2, f3, cs', hc', ih⟩ := loop_fold1 (e0 := e0) ns (k + 1) (cs.set (k % 64) ((cs[k % 64] * 48271 + x).fmod 2147483647)) (some (.int (k : Int))) (some (.int x)) h (by rw [List.length_set]; exact hc)
    refine ⟨f2, f3, cs', hc', ?_⟩
    rw [List.map_cons, enumP, forL_cons]
    simp only [Vm.bin1_ok, Vm.bin2_ok, Vm.un1_ok, Vm.if1_t, Vm.if1_f, Vm.cons1_ok, Vm.cons2_ok, Vm.fn1_ok, Vm.bt1_ok, Vm.bt2_ok, Vm.and1_t, Vm.and1_f, Vm.or1_t, Vm.or1_f, Vm.not1_ok, Vm.ma1_ok, Vm.ma2_t, Vm.ma2_f, Vm.mo1_ok, Vm.mo2_t, Vm.mo2_f, Vm.mn1_ok, Vm.mn2_ok, Vm.ex1_ok, Vm.rt1_ok, Vm.as1_ok, Vm.as2_ok, Vm.gc1_ok, Vm.pu1_ok, Vm.pu2_ok, Vm.pu3_ok, Vm.pu4_ok, Vm.ap1_ok, Vm.ap2_ok, Vm.ap3_ok, Vm.sl1_ok, Vm.sl2_ok, Vm.sl3_ok, Vm.fk1_ok, Vm.tr1_ok, Vm.lr1_ok, Vm.fo1_ok, Vm.lc1_ok, Vm.tn1_ok, Vm.ls1_ok, Vm.ls2_t, Vm.ls2_f, Vm.ls3_ok, Vm.ls4_ok, Vm.bind_some', Vm.gv_ok, Vm.r_var, Vm.r_c, Vm.r_bin, Vm.r_un, Vm.pick_t, Vm.pick_f, Vm.r_if, Vm.r_nil, Vm.r_cons, Vm.r_tup, Vm.r_lst, Vm.tupI_0, Vm.tupI_1, Vm.tupI_2, Vm.tupI_3, Vm.lstI_0, Vm.lstI_1, Vm.lstI_2, Vm.lstI_3, Vm.lstI_6, Vm.r_fn, Vm.blB_ok, Vm.r_bV, Vm.r_bT, Vm.r_bAnd, Vm.r_bOr, Vm.r_bNot, Vm.r_bYes, Vm.r_and, Vm.r_or, Vm.r_not, Vm.ch0_ok, Vm.ch2_ok, Vm.ch3_ok, Vm.ch4_ok, Vm.r_chain, Vm.t_non, Vm.t_bl, Vm.t_int, Vm.t_tup, Vm.o_add, Vm.o_sub, Vm.o_lt, Vm.o_le, Vm.o_gt, Vm.o_ge, Vm.o_eqI, Vm.o_eqS, Vm.o_neI, Vm.o_neS, Vm.o_neg, Vm.b_len_tup, Vm.b_len_rl, Vm.b_int, Vm.b_tup, Vm.isi_ii, Vm.isi_ib, Vm.isi_ss, Vm.isi_tt, Vm.i_tup0, Vm.i_tup1, Vm.i_tup2, Vm.sq_nx, Vm.sq_rt, Vm.sq_bk, Vm.sq_ct, Vm.r_seq, Vm.r_next, Vm.r_expr, Vm.r_ret, Vm.r_retN, Vm.r_sIf, Vm.r_asg, Vm.g_nm, Vm.g_tup, Vm.g_wt, Vm.g_n, Vm.g_c, Vm.par2_ok, Vm.r_par, Vm.par3_ok, Vm.r_par3, Vm.fin_nx, Vm.fin_rt, Vm.r_body, Vm.r_put, Vm.r_append, Vm.o_none, Vm.osI_ok, Vm.r_oSome, Vm.r_slice, Vm.sl_tup_, Vm.rvI_ok, Vm.r_revT, Vm.cl1_ok, Vm.cl2_ok, Vm.cl3_ok, Vm.r_callL, Vm.r_fnK, Vm.rgI_ok, Vm.r_rg1, Vm.r_tupR, Vm.r_lstR, Vm.imI_tup, Vm.imI_rl, Vm.r_imSeq, Vm.imE_tup, Vm.imE_rl, Vm.r_imEnum, Vm.imZ_tup, Vm.r_imZip, Vm.r_imRng1, Vm.r_for, Vm.r_lc, Vm.chk_nil, Vm.trn_nx, Vm.trn_ct, Vm.trn_rt, Vm.lcL_nil, Vm.wp_nil, Vm.wp_cons, List.getElem?_cons_zero, List.getElem?_cons_succ, List.set_cons_zero, List.set_cons_succ, List.map_cons, List.map_nil, List.replicate_zero, List.replicate_succ, List.cons_append, List.nil_append, List.append_nil, List.length_cons, List.length_nil, Nat.sub_self, Bool.not_true, Bool.not_false, decide_true, decide_false, Nat.zero_add, Nat.add_one_sub_one, eq_self, m64, ix_at hj, k3, m1, st_at hj, ih]
theorem loop_fold2 {e0 e3 : Option D} : ∀ (ks : List Nat) (cs : List Int) (e2 : Option D) (h : VH), cs.length = 64 → (∀ k ∈ ks, k < 63) → ∃ f2 cs', cs'.length = 64 ∧
    forL [] (gNm 2) (sSeq (sPut (mVar 1) (mVar 2) (mBin dMod (mFn dInt (mCons (mBin dAdd (mBin dIx (mVar 1) (mVar 2)) (mBin dMulT (mBin dIx (mVar 1) (mBin dSub (mVar 2) (mC (.int 1)))) (mC (.int 16807)))) mNil)) (mC (.int 2147483647)))) sNext) (ks.map fun (k : Nat) => D.int (1 + (k : Int))) [e0, some (.ref (List.length h)), e2, e3] (h ++ [.lst (idc cs)]) =
      some (.nx [e0, some (.ref (List.length h)), f2, e3] (h ++ [.lst (idc cs')]))
  | [], cs, e2, h, hc, _ => ⟨e2, cs, hc, rfl⟩
  | k :: ks, cs, e2, h, hc, hk => by
    have hk0 := hk k (by simp)
    have h1 : k + 1 < cs.length := by omega
    have e1 : (1 : Int) + (k : Int) = ((k + 1 : Nat) : Int) := by omega
    have e3' : (((k + 1 : Nat) : Int)) - 1 = (k : Int) := by omega
    have k3 : ∀ (y : Int) (h : VH), dMulT (.int y) (.int 16807) h = some (.int (y * 16807), h) := fun y h => Vm.o_mul (.inr (in64_c (by decide) (by decide)))
    have m1 : ∀ (y : Int) (h : VH), dMod (.int y) (.int 2147483647) h = some (.int (y.fmod 2147483647), h) := fun y h => Vm.o_mod (by decide)
    obtain ⟨f2, cs', hc', ih⟩ := loop_fold2 (e0 := e0) (e3 := e3) ks (cs.set (k + 1) ((cs[k + 1] + cs[k] * 16807).fmod 2147483647)) (some (.int ((k + 1 : Nat) : Int))) h (by rw [List.length_set]; exact hc) fun a m => hk a (by simp [m])
    refine ⟨f2, cs', hc', ?_⟩
    rw [List.map_cons, forL_cons, e1]
    simp only [Vm.bin1_ok, Vm.bin2_ok, Vm.un1_ok, Vm.if1_t, Vm.if1_f, Vm.cons1_ok, Vm.cons2_ok, Vm.fn1_ok, Vm.bt1_ok, Vm.bt2_ok, Vm.and1_t, Vm.and1_f, Vm.or1_t, Vm.or1_f, Vm.not1_ok, Vm.ma1_ok, Vm.ma2_t, Vm.ma2_f, Vm.mo1_ok, Vm.mo2_t, Vm.mo2_f, Vm.mn1_ok, Vm.mn2_ok, Vm.ex1_ok, Vm.rt1_ok, Vm.as1_ok, Vm.as2_ok, Vm.gc1_ok, Vm.pu1_ok, Vm.pu2_ok, Vm.pu3_ok, Vm.pu4_ok, Vm.ap1_ok, Vm.ap2_ok, Vm.ap3_ok, Vm.sl1_ok, Vm.sl2_ok, Vm.sl3_ok, Vm.fk1_ok, Vm.tr1_ok, Vm.lr1_ok, Vm.fo1_ok, Vm.lc1_ok, Vm.tn1_ok, Vm.ls1_ok, Vm.ls2_t, Vm.ls2_f, Vm.ls3_ok, Vm.ls4_ok, Vm.bind_some', Vm.gv_ok, Vm.r_var, Vm.r_c, Vm.r_bin, Vm.r_un, Vm.pick_t, Vm.pick_f, Vm.r_if, Vm.r_nil, Vm.r_cons, Vm.r_tup, Vm.r_lst, Vm.tupI_0, Vm.tupI_1, Vm.tupI_2, Vm.tupI_3, Vm.lstI_0, Vm.lstI_1, Vm.lstI_2, Vm.lstI_3, Vm.lstI_6, Vm.r_fn, Vm.blB_ok, Vm.r_bV, Vm.r_bT, Vm.r_bAnd, Vm.r_bOr, Vm.r_bNot, Vm.r_bYes, Vm.r_and, Vm.r_or, Vm.r_not, Vm.ch0_ok, Vm.ch2_ok, Vm.ch3_ok, Vm.ch4_ok, Vm.r_chain, Vm.t_non, Vm.t_bl, Vm.t_int, Vm.t_tup, Vm.o_add, Vm.o_sub, Vm.o_lt, Vm.o_le, Vm.o_gt, Vm.o_ge, Vm.o_eqI, Vm.o_eqS, Vm.o_neI, Vm.o_neS, Vm.o_neg, Vm.b_len_tup, Vm.b_len_rl, Vm.b_int, Vm.b_tup, Vm.isi_ii, Vm.isi_ib, Vm.isi_ss, Vm.isi_tt, Vm.i_tup0, Vm.i_tup1, Vm.i_tup2, Vm.sq_nx, Vm.sq_rt, Vm.sq_bk, Vm.sq_ct, Vm.r_seq, Vm.r_next, Vm.r_expr, Vm.r_ret, Vm.r_retN, Vm.r_sIf, Vm.r_asg, Vm.g_nm, Vm.g_tup, Vm.g_wt, Vm.g_n, Vm.g_c, Vm.par2_ok, Vm.r_par, Vm.par3_ok, Vm.r_par3, Vm.fin_nx, Vm.fin_rt, Vm.r_body, Vm.r_put, Vm.r_append, Vm.o_none, Vm.osI_ok, Vm.r_oSome, Vm.r_slice, Vm.sl_tup_, Vm.rvI_ok, Vm.r_revT, Vm.cl1_ok, Vm.cl2_ok, Vm.cl3_ok, Vm.r_callL, Vm.r_fnK, Vm.rgI_ok, Vm.r_rg1, Vm.r_tupR, Vm.r_lstR, Vm.imI_tup, Vm.imI_rl, Vm.r_imSeq, Vm.imE_tup, Vm.imE_rl, Vm.r_imEnum, Vm.imZ_tup, Vm.r_imZip, Vm.r_imRng1, Vm.r_for, Vm.r_lc, Vm.chk_nil, Vm.trn_nx, Vm.trn_ct, Vm.trn_rt, Vm.lcL_nil, Vm.wp_nil, Vm.wp_cons, List.getElem?_cons_zero, List.getElem?_cons_succ, List.set_cons_zero, List.set_cons_succ, List.map_cons, List.map_nil, List.replicate_zero, List.replicate_succ, List.cons_append, List.nil_append, List.append_nil, List.length_cons, List.length_nil, Nat.sub_self, Bool.not_true, Bool.not_false, decide_true, decide_false, Nat.zero_add, Nat.add_one_sub_one, eq_self, ix_at h1, e3', ix_at (show k < cs.length by omega), k3, m1, st_at h1, ih]
theorem sp_folded {ns : List Int} {h : VH} : ∃ cs, cs.length = 64 ∧ f__law_folded [.rl (ns.map D.int)] h = some (.ref (List.length h), h ++ [.lst (idc cs)]) := by
  have l1 := fun (e0 e1 e2 e3 : Option D) (h : VH) => lc_map (cs := []) (own := [2]) (g := gNm 2) (me := mBin dAdd (mC (.int 17)) (mVar 2)) (env := [e0, e1, e2, e3]) (h := h) (f := fun (k : Nat) => D.int (k : Nat)) (F := fun k => D.int (17 + (k : Int))) (List.range 64) rfl fun k m => by simp only [Vm.bin1_ok, Vm.bin2_ok, Vm.un1_ok, Vm.if1_t, Vm.if1_f, Vm.cons1_ok, Vm.cons2_ok, Vm.fn1_ok, Vm.bt1_ok, Vm.bt2_ok, Vm.and1_t, Vm.and1_f, Vm.or1_t, Vm.or1_f, Vm.not1_ok, Vm.ma1_ok, Vm.ma2_t, Vm.ma2_f, Vm.mo1_ok, Vm.mo2_t, Vm.mo2_f, Vm.mn1_ok, Vm.mn2_ok, Vm.ex1_ok, Vm.rt1_ok, Vm.as1_ok, Vm.as2_ok, Vm.gc1_ok, Vm.pu1_ok, Vm.pu2_ok, Vm.pu3_ok, Vm.pu4_ok, Vm.ap1_ok, Vm.ap2_ok, Vm.ap3_ok, Vm.sl1_ok, Vm.sl2_ok, Vm.sl3_ok, Vm.fk1_ok, Vm.tr1_ok, Vm.lr1_ok, Vm.fo1_ok, Vm.lc1_ok, Vm.tn1_ok, Vm.ls1_ok, Vm.ls2_t, Vm.ls2_f, Vm.ls3_ok, Vm.ls4_ok, Vm.bind_some', Vm.gv_ok, Vm.r_var, Vm.r_c, Vm.r_bin, Vm.r_un, Vm.pick_t, Vm.pick_f, Vm.r_if, Vm.r_nil, Vm.r_cons, Vm.r_tup, Vm.r_lst, Vm.tupI_0, Vm.tupI_1, Vm.tupI_2, Vm.tupI_3, Vm.lstI_0, Vm.lstI_1, Vm.lstI_2, Vm.lstI_3, Vm.lstI_6, Vm.r_fn, Vm.blB_ok, Vm.r_bV, Vm.r_bT, Vm.r_bAnd, Vm.r_bOr, Vm.r_bNot, Vm.r_bYes, Vm.r_and, Vm.r_or, Vm.r_not, Vm.ch0_ok, Vm.ch2_ok, Vm.ch3_ok, Vm.ch4_ok, Vm.r_chain, Vm.t_non, Vm.t_bl, Vm.t_int, Vm.t_tup, Vm.o_add, Vm.o_sub, Vm.o_lt, Vm.o_le, Vm.o_gt, Vm.o_ge, Vm.o_eqI, Vm.o_eqS, Vm.o_neI, Vm.o_neS, Vm.o_neg, Vm.b_len_tup, Vm.b_len_rl, Vm.b_int, Vm.b_tup, Vm.isi_ii, Vm.isi_ib, Vm.isi_ss, Vm.isi_tt, Vm.i_tup0, Vm.i_tup1, Vm.i_tup2, Vm.sq_nx, Vm.sq_rt, Vm.sq_bk, Vm.sq_ct, Vm.r_seq, Vm.r_next, Vm.r_expr, Vm.r_ret, Vm.r_retN, Vm.r_sIf, Vm.r_asg, Vm.g_nm, Vm.g_tup, Vm.g_wt, Vm.g_n, Vm.g_c, Vm.par2_ok, Vm.r_par, Vm.par3_ok, Vm.r_par3, Vm.fin_nx, Vm.fin_rt, Vm.r_body, Vm.r_put, Vm.r_append, Vm.o_none, Vm.osI_ok, Vm.r_oSome, Vm.r_slice, Vm.sl_tup_, Vm.rvI_ok, Vm.r_revT, Vm.cl1_ok, Vm.cl2_ok, Vm.cl3_ok, Vm.r_callL, Vm.r_fnK, Vm.rgI_ok, Vm.r_rg1, Vm.r_tupR, Vm.r_lstR, Vm.imI_tup, Vm.imI_rl, Vm.r_imSeq, Vm.imE_tup, Vm.imE_rl, Vm.r_imEnum, Vm.imZ_tup, Vm.r_imZip, Vm.r_imRng1, Vm.r_for, Vm.r_lc, Vm.chk_nil, Vm.trn_nx, Vm.trn_ct, Vm.trn_rt, Vm.lcL_nil, Vm.wp_nil, Vm.wp_cons, List.getElem?_cons_zero, List.getElem?_cons_succ, List.set_cons_zero, List.set_cons_succ, List.map_cons, List.map_nil, List.replicate_zero, List.replicate_succ, List.cons_append, List.nil_append, List.append_nil, List.length_cons, List.length_nil, Nat.sub_self, Bool.not_true, Bool.not_false, decide_true, decide_false, Nat.zero_add, Nat.add_one_sub_one, eq_self]
  have c1 : (List.range 64).map (fun (k : Nat) => D.int (k : Nat)) = rng 0 64 := by rw [← rng_eq]
  have c2 : ((List.range 64).map fun (k : Nat) => D.int (17 + (k : Int))) = idc ((List.range 64).map fun (k : Nat) => 17 + (k : Int)) := by simp [idc]
  rw [c1, c2] at l1
  generalize hcs : ((List.range 64).map fun (k : Nat) => 17 + (k : Int)) = cs0 at l1
  have l0 : cs0.length = 64 := by rw [← hcs]; simp
  have c3 : ((List.range 63).map fun (k : Nat) => D.int (1 + (k : Int))) = rng 1 63 := rfl
  obtain ⟨f2, f3, cs1, h1, e1⟩ := loop_fold1 (e0 := some (.rl (ns.map D.int))) ns 0 cs0 none none h l0
  obtain ⟨k2, cs2, h2, e2⟩ := loop_fold2 (e0 := some (.rl (ns.map D.int))) (e3 := f3) (List.range 63) cs1 f2 h h1 fun k m => List.mem_range.mp m
  rw [c3] at e2
  have r64 : ∀ h : VH, imR ([.int 64], h) = some ((rng 0 64, []), h) := fun h => rfl
  have r2 : ∀ (env : En) (h : VH), imRng2 (mCons (mC (.int 1)) (mCons (mC (.int 64)) mNil)) env h = some ((rng 1 63, []), h) := fun env h => rfl
  have z : (rng 0 64).length ≤ 1000000 := by rw [rng_len]; decide
  refine ⟨cs2, h2, ?_⟩
  unfold f__law_folded m__law_folded
  simp only [Vm.bin1_ok, Vm.bin2_ok, Vm.un1_ok, Vm.if1_t, Vm.if1_f, Vm.cons1_ok, Vm.cons2_ok, Vm.fn1_ok, Vm.bt1_ok, Vm.bt2_ok, Vm.and1_t, Vm.and1_f, Vm.or1_t, Vm.or1_f, Vm.not1_ok, Vm.ma1_ok, Vm.ma2_t, Vm.ma2_f, Vm.mo1_ok, Vm.mo2_t, Vm.mo2_f, Vm.mn1_ok, Vm.mn2_ok, Vm.ex1_ok, Vm.rt1_ok, Vm.as1_ok, Vm.as2_ok, Vm.gc1_ok, Vm.pu1_ok, Vm.pu2_ok, Vm.pu3_ok, Vm.pu4_ok, Vm.ap1_ok, Vm.ap2_ok, Vm.ap3_ok, Vm.sl1_ok, Vm.sl2_ok, Vm.sl3_ok, Vm.fk1_ok, Vm.tr1_ok, Vm.lr1_ok, Vm.fo1_ok, Vm.lc1_ok, Vm.tn1_ok, Vm.ls1_ok, Vm.ls2_t, Vm.ls2_f, Vm.ls3_ok, Vm.ls4_ok, Vm.bind_some', Vm.gv_ok, Vm.r_var, Vm.r_c, Vm.r_bin, Vm.r_un, Vm.pick_t, Vm.pick_f, Vm.r_if, Vm.r_nil, Vm.r_cons, Vm.r_tup, Vm.r_lst, Vm.tupI_0, Vm.tupI_1, Vm.tupI_2, Vm.tupI_3, Vm.lstI_0, Vm.lstI_1, Vm.lstI_2, Vm.lstI_3, Vm.lstI_6, Vm.r_fn, Vm.blB_ok, Vm.r_bV, Vm.r_bT, Vm.r_bAnd, Vm.r_bOr, Vm.r_bNot, Vm.r_bYes, Vm.r_and, Vm.r_or, Vm.r_not, Vm.ch0_ok, Vm.ch2_ok, Vm.ch3_ok, Vm.ch4_ok, Vm.r_chain, Vm.t_non, Vm.t_bl, Vm.t_int, Vm.t_tup, Vm.o_add, Vm.o_sub, Vm.o_lt, Vm.o_le, Vm.o_gt, Vm.o_ge, Vm.o_eqI, Vm.o_eqS, Vm.o_neI, Vm.o_neS, Vm.o_neg, Vm.b_len_tup, Vm.b_len_rl, Vm.b_int, Vm.b_tup, Vm.isi_ii, Vm.isi_ib, Vm.isi_ss, Vm.isi_tt, Vm.i_tup0, Vm.i_tup1, Vm.i_tup2, Vm.sq_nx, Vm.sq_rt, Vm.sq_bk, Vm.sq_ct, Vm.r_seq, Vm.r_next, Vm.r_expr, Vm.r_ret, Vm.r_retN, Vm.r_sIf, Vm.r_asg, Vm.g_nm, Vm.g_tup, Vm.g_wt, Vm.g_n, Vm.g_c, Vm.par2_ok, Vm.r_par, Vm.par3_ok, Vm.r_par3, Vm.fin_nx, Vm.fin_rt, Vm.r_body, Vm.r_put, Vm.r_append, Vm.o_none, Vm.osI_ok, Vm.r_oSome, Vm.r_slice, Vm.sl_tup_, Vm.rvI_ok, Vm.r_revT, Vm.cl1_ok, Vm.cl2_ok, Vm.cl3_ok, Vm.r_callL, Vm.r_fnK, Vm.rgI_ok, Vm.r_rg1, Vm.r_tupR, Vm.r_lstR, Vm.imI_tup, Vm.imI_rl, Vm.r_imSeq, Vm.imE_tup, Vm.imE_rl, Vm.r_imEnum, Vm.imZ_tup, Vm.r_imZip, Vm.r_imRng1, Vm.r_for, Vm.r_lc, Vm.chk_nil, Vm.trn_nx, Vm.trn_ct, Vm.trn_rt, Vm.lcL_nil, Vm.wp_nil, Vm.wp_cons, List.getElem?_cons_zero, List.getElem?_cons_succ, List.set_cons_zero, List.set_cons_succ, List.map_cons, List.map_nil, List.replicate_zero, List.replicate_succ, List.cons_append, List.nil_append, List.append_nil, List.length_cons, List.length_nil, Nat.sub_self, Bool.not_true, Bool.not_false, decide_true, decide_false, Nat.zero_add, Nat.add_one_sub_one, eq_self, r64, l1, lcI_ok z, e1, r2, e2]
theorem sp_begun {ns : List Int} (hn : ns.length ≤ 63) : ∃ cs gs, f__law_begun [.rl (ns.map D.int)] [] = some (.ref 2, [.lst (idc cs), .lst [], Pu.dk 0 3 0, .lst (idc gs)]) ∧ cs.length = 64 := by
  obtain ⟨cs, hc, ef⟩ := sp_folded (ns := ns) (h := [])
  have l1 := fun (h : VH) (e2 : Option D) => lc_map (cs := []) (own := [2]) (g := gNm 2) (me := mIf (bV (mBin dGe (mVar 2) (mBin dPow (mC (.int 10)) (mC (.int 18))))) (mVar 2) (mC (.int 0))) (env := [some (.rl (ns.map D.int)), some (.ref 2), e2]) (h := h) (f := D.int) (F := fun x => D.int (if (10 : Int) ^ 18 ≤ x then x else 0)) ns rfl fun x m => by
    have pw : ∀ h : VH, dPow (.int 10) (.int 18) h = some (.int ((10 : Int) ^ 18), h) := fun h => rfl
    by_cases q : (10 : Int) ^ 18 ≤ x
    · have d : decide ((10 : Int) ^ 18 ≤ x) = true := decide_eq_true q
      simp only [Vm.bin1_ok, Vm.bin2_ok, Vm.un1_ok, Vm.if1_t, Vm.if1_f, Vm.cons1_ok, Vm.cons2_ok, Vm.fn1_ok, Vm.bt1_ok, Vm.bt2_ok, Vm.and1_t, Vm.and1_f, Vm.or1_t, Vm.or1_f, Vm.not1_ok, Vm.ma1_ok, Vm.ma2_t, Vm.ma2_f, Vm.mo1_ok, Vm.mo2_t, Vm.mo2_f, Vm.mn1_ok, Vm.mn2_ok, Vm.ex1_ok, Vm.rt1_ok, Vm.as1_ok, Vm.as2_ok, Vm.gc1_ok, Vm.pu1_ok, Vm.pu2_ok, Vm.pu3_ok, Vm.pu4_ok, Vm.ap1_ok, Vm.ap2_ok, Vm.ap3_ok, Vm.sl1_ok, Vm.sl2_ok, Vm.sl3_ok, Vm.fk1_ok, Vm.tr1_ok, Vm.lr1_ok, Vm.fo1_ok, Vm.lc1_ok, Vm.tn1_ok, Vm.ls1_ok, Vm.ls2_t, Vm.ls2_f, Vm.ls3_ok, Vm.ls4_ok, Vm.bind_some', Vm.gv_ok, Vm.r_var, Vm.r_c, Vm.r_bin, Vm.r_un, Vm.pick_t, Vm.pick_f, Vm.r_if, Vm.r_nil, Vm.r_cons, Vm.r_tup, Vm.r_lst, Vm.tupI_0, Vm.tupI_1, Vm.tupI_2, Vm.tupI_3, Vm.lstI_0, Vm.lstI_1, Vm.lstI_2, Vm.lstI_3, Vm.lstI_6, Vm.r_fn, Vm.blB_ok, Vm.r_bV, Vm.r_bT, Vm.r_bAnd, Vm.r_bOr, Vm.r_bNot, Vm.r_bYes, Vm.r_and, Vm.r_or, Vm.r_not, Vm.ch0_ok, Vm.ch2_ok, Vm.ch3_ok, Vm.ch4_ok, Vm.r_chain, Vm.t_non, Vm.t_bl, Vm.t_int, Vm.t_tup, Vm.o_add, Vm.o_sub, Vm.o_lt, Vm.o_le, Vm.o_gt, Vm.o_ge, Vm.o_eqI, Vm.o_eqS, Vm.o_neI, Vm.o_neS, Vm.o_neg, Vm.b_len_tup, Vm.b_len_rl, Vm.b_int, Vm.b_tup, Vm.isi_ii, Vm.isi_ib, Vm.isi_ss, Vm.isi_tt, Vm.i_tup0, Vm.i_tup1, Vm.i_tup2, Vm.sq_nx, Vm.sq_rt, Vm.sq_bk, Vm.sq_ct, Vm.r_seq, Vm.r_next, Vm.r_expr, Vm.r_ret, Vm.r_retN, Vm.r_sIf, Vm.r_asg, Vm.g_nm, Vm.g_tup, Vm.g_wt, Vm.g_n, Vm.g_c, Vm.par2_ok, Vm.r_par, Vm.par3_ok, Vm.r_par3, Vm.fin_nx, Vm.fin_rt, Vm.r_body, Vm.r_put, Vm.r_append, Vm.o_none, Vm.osI_ok, Vm.r_oSome, Vm.r_slice, Vm.sl_tup_, Vm.rvI_ok, Vm.r_revT, Vm.cl1_ok, Vm.cl2_ok, Vm.cl3_ok, Vm.r_callL, Vm.r_fnK, Vm.rgI_ok, Vm.r_rg1, Vm.r_tupR, Vm.r_lstR, Vm.imI_tup, Vm.imI_rl, Vm.r_imSeq, Vm.imE_tup, Vm.imE_rl, Vm.r_imEnum, Vm.imZ_tup, Vm.r_imZip, Vm.r_imRng1, Vm.r_for, Vm.r_lc, Vm.chk_nil, Vm.trn_nx, Vm.trn_ct, Vm.trn_rt, Vm.lcL_nil, Vm.wp_nil, Vm.wp_cons, List.getElem?_cons_zero, List.getElem?_cons_succ, List.set_cons_zero, List.set_cons_succ, List.map_cons, List.map_nil, List.replicate_zero, List.replicate_succ, List.cons_append, List.nil_append, List.append_nil, List.length_cons, List.length_nil, Nat.sub_self, Bool.not_true, Bool.not_false, decide_true, decide_false, Nat.zero_add, Nat.add_one_sub_one, eq_self, pw, d]; rw [if_pos q]
    · have d : decide ((10 : Int) ^ 18 ≤ x) = false := decide_eq_false q
      simp only [Vm.bin1_ok, Vm.bin2_ok, Vm.un1_ok, Vm.if1_t, Vm.if1_f, Vm.cons1_ok, Vm.cons2_ok, Vm.fn1_ok, Vm.bt1_ok, Vm.bt2_ok, Vm.and1_t, Vm.and1_f, Vm.or1_t, Vm.or1_f, Vm.not1_ok, Vm.ma1_ok, Vm.ma2_t, Vm.ma2_f, Vm.mo1_ok, Vm.mo2_t, Vm.mo2_f, Vm.mn1_ok, Vm.mn2_ok, Vm.ex1_ok, Vm.rt1_ok, Vm.as1_ok, Vm.as2_ok, Vm.gc1_ok, Vm.pu1_ok, Vm.pu2_ok, Vm.pu3_ok, Vm.pu4_ok, Vm.ap1_ok, Vm.ap2_ok, Vm.ap3_ok, Vm.sl1_ok, Vm.sl2_ok, Vm.sl3_ok, Vm.fk1_ok, Vm.tr1_ok, Vm.lr1_ok, Vm.fo1_ok, Vm.lc1_ok, Vm.tn1_ok, Vm.ls1_ok, Vm.ls2_t, Vm.ls2_f, Vm.ls3_ok, Vm.ls4_ok, Vm.bind_some', Vm.gv_ok, Vm.r_var, Vm.r_c, Vm.r_bin, Vm.r_un, Vm.pick_t, Vm.pick_f, Vm.r_if, Vm.r_nil, Vm.r_cons, Vm.r_tup, Vm.r_lst, Vm.tupI_0, Vm.tupI_1, Vm.tupI_2, Vm.tupI_3, Vm.lstI_0, Vm.lstI_1, Vm.lstI_2, Vm.lstI_3, Vm.lstI_6, Vm.r_fn, Vm.blB_ok, Vm.r_bV, Vm.r_bT, Vm.r_bAnd, Vm.r_bOr, Vm.r_bNot, Vm.r_bYes, Vm.r_and, Vm.r_or, Vm.r_not, Vm.ch0_ok, Vm.ch2_ok, Vm.ch3_ok, Vm.ch4_ok, Vm.r_chain, Vm.t_non, Vm.t_bl, Vm.t_int, Vm.t_tup, Vm.o_add, Vm.o_sub, Vm.o_lt, Vm.o_le, Vm.o_gt, Vm.o_ge, Vm.o_eqI, Vm.o_eqS, Vm.o_neI, Vm.o_neS, Vm.o_neg, Vm.b_len_tup, Vm.b_len_rl, Vm.b_int, Vm.b_tup, Vm.isi_ii, Vm.isi_ib, Vm.isi_ss, Vm.isi_tt, Vm.i_tup0, Vm.i_tup1, Vm.i_tup2, Vm.sq_nx, Vm.sq_rt, Vm.sq_bk, Vm.sq_ct, Vm.r_seq, Vm.r_next, Vm.r_expr, Vm.r_ret, Vm.r_retN, Vm.r_sIf, Vm.r_asg, Vm.g_nm, Vm.g_tup, Vm.g_wt, Vm.g_n, Vm.g_c, Vm.par2_ok, Vm.r_par, Vm.par3_ok, Vm.r_par3, Vm.fin_nx, Vm.fin_rt, Vm.r_body, Vm.r_put, Vm.r_append, Vm.o_none, Vm.osI_ok, Vm.r_oSome, Vm.r_slice, Vm.sl_tup_, Vm.rvI_ok, Vm.r_revT, Vm.cl1_ok, Vm.cl2_ok, Vm.cl3_ok, Vm.r_callL, Vm.r_fnK, Vm.rgI_ok, Vm.r_rg1, Vm.r_tupR, Vm.r_lstR, Vm.imI_tup, Vm.imI_rl, Vm.r_imSeq, Vm.imE_tup, Vm.imE_rl, Vm.r_imEnum, Vm.imZ_tup, Vm.r_imZip, Vm.r_imRng1, Vm.r_for, Vm.r_lc, Vm.chk_nil, Vm.trn_nx, Vm.trn_ct, Vm.trn_rt, Vm.lcL_nil, Vm.wp_nil, Vm.wp_cons, List.getElem?_cons_zero, List.getElem?_cons_succ, List.set_cons_zero, List.set_cons_succ, List.map_cons, List.map_nil, List.replicate_zero, List.replicate_succ, List.cons_append, List.nil_append, List.append_nil, List.length_cons, List.length_nil, Nat.sub_self, Bool.not_true, Bool.not_false, decide_true, decide_false, Nat.zero_add, Nat.add_one_sub_one, eq_self, pw, d]; rw [if_neg q]
  have c2 : (ns.map fun x => D.int (if (10 : Int) ^ 18 ≤ x then x else 0)) = idc (ns.map fun x => if (10 : Int) ^ 18 ≤ x then x else 0) := by simp [idc]
  rw [c2] at l1
  have z : (ns.map D.int).length ≤ 1000000 := by simp; omega
  refine ⟨cs, ns.map fun x => if (10 : Int) ^ 18 ≤ x then x else 0, ?_, hc⟩
  generalize (ns.map fun x => if (10 : Int) ^ 18 ≤ x then x else 0) = gs at l1
  have ef' : f__law_folded [.rl (ns.map D.int)] [] = some (.ref 0, [.lst (idc cs)]) := ef
  have dd : ∀ m env h, mDict ["cells", "great", "spot"] m env h = (m env h).bind fun p => some (.ref (List.length p.2), p.2 ++ [.dK (((["cells", "great", "spot"] : List Str).zip p.1).foldl (fun acc kv => putD acc (.inr kv.1 : Key) kv.2) [])]) := fun _ _ _ => rfl
  have mk : ((["cells", "great", "spot"] : List Str).zip [D.ref 0, D.ref 1, D.int 0]).foldl (fun acc kv => putD acc (.inr kv.1 : Key) kv.2) [] = [((.inr "cells" : Key), D.ref 0), (.inr "great", .ref 1), (.inr "spot", .int 0)] := rfl
  have st : dStore (.ref 2) (.str "great") (.ref 3) [.lst (idc cs), .lst [], .dK [((.inr "cells" : Key), D.ref 0), (.inr "great", .ref 1), (.inr "spot", .int 0)], .lst (idc gs)] = some [.lst (idc cs), .lst [], Pu.dk 0 3 0, .lst (idc gs)] := rfl
  unfold f__law_begun m__law_begun
  simp only [Vm.bin1_ok, Vm.bin2_ok, Vm.un1_ok, Vm.if1_t, Vm.if1_f, Vm.cons1_ok, Vm.cons2_ok, Vm.fn1_ok, Vm.bt1_ok, Vm.bt2_ok, Vm.and1_t, Vm.and1_f, Vm.or1_t, Vm.or1_f, Vm.not1_ok, Vm.ma1_ok, Vm.ma2_t, Vm.ma2_f, Vm.mo1_ok, Vm.mo2_t, Vm.mo2_f, Vm.mn1_ok, Vm.mn2_ok, Vm.ex1_ok, Vm.rt1_ok, Vm.as1_ok, Vm.as2_ok, Vm.gc1_ok, Vm.pu1_ok, Vm.pu2_ok, Vm.pu3_ok, Vm.pu4_ok, Vm.ap1_ok, Vm.ap2_ok, Vm.ap3_ok, Vm.sl1_ok, Vm.sl2_ok, Vm.sl3_ok, Vm.fk1_ok, Vm.tr1_ok, Vm.lr1_ok, Vm.fo1_ok, Vm.lc1_ok, Vm.tn1_ok, Vm.ls1_ok, Vm.ls2_t, Vm.ls2_f, Vm.ls3_ok, Vm.ls4_ok, Vm.bind_some', Vm.gv_ok, Vm.r_var, Vm.r_c, Vm.r_bin, Vm.r_un, Vm.pick_t, Vm.pick_f, Vm.r_if, Vm.r_nil, Vm.r_cons, Vm.r_tup, Vm.r_lst, Vm.tupI_0, Vm.tupI_1, Vm.tupI_2, Vm.tupI_3, Vm.lstI_0, Vm.lstI_1, Vm.lstI_2, Vm.lstI_3, Vm.lstI_6, Vm.r_fn, Vm.blB_ok, Vm.r_bV, Vm.r_bT, Vm.r_bAnd, Vm.r_bOr, Vm.r_bNot, Vm.r_bYes, Vm.r_and, Vm.r_or, Vm.r_not, Vm.ch0_ok, Vm.ch2_ok, Vm.ch3_ok, Vm.ch4_ok, Vm.r_chain, Vm.t_non, Vm.t_bl, Vm.t_int, Vm.t_tup, Vm.o_add, Vm.o_sub, Vm.o_lt, Vm.o_le, Vm.o_gt, Vm.o_ge, Vm.o_eqI, Vm.o_eqS, Vm.o_neI, Vm.o_neS, Vm.o_neg, Vm.b_len_tup, Vm.b_len_rl, Vm.b_int, Vm.b_tup, Vm.isi_ii, Vm.isi_ib, Vm.isi_ss, Vm.isi_tt, Vm.i_tup0, Vm.i_tup1, Vm.i_tup2, Vm.sq_nx, Vm.sq_rt, Vm.sq_bk, Vm.sq_ct, Vm.r_seq, Vm.r_next, Vm.r_expr, Vm.r_ret, Vm.r_retN, Vm.r_sIf, Vm.r_asg, Vm.g_nm, Vm.g_tup, Vm.g_wt, Vm.g_n, Vm.g_c, Vm.par2_ok, Vm.r_par, Vm.par3_ok, Vm.r_par3, Vm.fin_nx, Vm.fin_rt, Vm.r_body, Vm.r_put, Vm.r_append, Vm.o_none, Vm.osI_ok, Vm.r_oSome, Vm.r_slice, Vm.sl_tup_, Vm.rvI_ok, Vm.r_revT, Vm.cl1_ok, Vm.cl2_ok, Vm.cl3_ok, Vm.r_callL, Vm.r_fnK, Vm.rgI_ok, Vm.r_rg1, Vm.r_tupR, Vm.r_lstR, Vm.imI_tup, Vm.imI_rl, Vm.r_imSeq, Vm.imE_tup, Vm.imE_rl, Vm.r_imEnum, Vm.imZ_tup, Vm.r_imZip, Vm.r_imRng1, Vm.r_for, Vm.r_lc, Vm.chk_nil, Vm.trn_nx, Vm.trn_ct, Vm.trn_rt, Vm.lcL_nil, Vm.wp_nil, Vm.wp_cons, List.getElem?_cons_zero, List.getElem?_cons_succ, List.set_cons_zero, List.set_cons_succ, List.map_cons, List.map_nil, List.replicate_zero, List.replicate_succ, List.cons_append, List.nil_append, List.append_nil, List.length_cons, List.length_nil, Nat.sub_self, Bool.not_true, Bool.not_false, decide_true, decide_false, Nat.zero_add, Nat.add_one_sub_one, eq_self, dd, ef', mk, l1, lcI_ok z, st]

end K01
namespace K01
open PySem PySem.Spec PyProof.Rows L2 Vm Pu
theorem law_start {N : Nat} {O : Nat → Bool} {r : SM} {q : PSM} (hO : O 1 = false) (hr : SS O (fun _ => true) r q) (hq : ∀ s : S, s.spot = 0 → ∃ s', finP (q (none :: some .gen :: List.replicate N none) s) = some (.bl true, s')) (ns : List Int) (hn : ns.length ≤ 63) : ∃ h', bodyF (N + 2) (sSeq (sAsg (mFn f__law_begun (mCons (mVar 0) mNil)) (gNm 1)) r) [.rl (ns.map D.int)] [] = some (.bl true, h') := by
  obtain ⟨cs, gs, eb, hc⟩ := sp_begun hn
  obtain ⟨s', e⟩ := hq ⟨cs, gs, 0⟩ rfl
  have si : SI ⟨2, 0, 3⟩ [.lst (idc cs), .lst [], Pu.dk 0 3 0, .lst (idc gs)] ⟨cs, gs, 0⟩ := ⟨rfl, rfl, rfl, by decide, by decide, by decide, hc⟩
  have I : In ⟨2, 0, 3⟩ (fun n => n = 2 ∨ n = 0 ∨ n = 3) O [.lst (idc cs), .lst [], Pu.dk 0 3 0, .lst (idc gs)] (some (.rl (ns.map D.int)) :: some (.ref 2) :: List.replicate N none) (none :: some .gen :: List.replicate N none) (fun _ => none) ⟨cs, gs, 0⟩ := by
    refine ⟨fun n z => z, fun n z => ?_, si, by simp, fun i a e => (by cases e), fun i j a e => (by cases e), fun i p o e => ?_, fun i p o e => ?_⟩
    · rcases z with z | z | z <;> subst z <;> simp
    · match i, e with
      | 0, e => simp at e
      | 1, e =>
        simp at e
        subst e
        exact ⟨_, rfl, rfl⟩
      | i + 2, e =>
        simp only [List.getElem?_cons_succ, List.getElem?_replicate] at e
        split at e <;> cases e
    · match i, e with
      | 0, e => simp at e
      | 1, e => rw [hO] at o; cases o
      | i + 2, e =>
        simp only [List.getElem?_cons_succ, List.getElem?_replicate] at e
        split at e <;> cases e
  cases eq : q (none :: some .gen :: List.replicate N none) ⟨cs, gs, 0⟩ with
  | none => rw [eq] at e; cases e
  | some r1 =>
    rw [eq] at e
    obtain ⟨so, f1, x⟩ := hr _ _ _ _ _ _ _ _ I eq
    have f0 : (sSeq (sAsg (mFn f__law_begun (mCons (mVar 0) mNil)) (gNm 1)) r) (some (.rl (ns.map D.int)) :: none :: List.replicate N none) [] = some so := by
      rw [r_seq]
      simp only [Vm.bin1_ok, Vm.bin2_ok, Vm.un1_ok, Vm.if1_t, Vm.if1_f, Vm.cons1_ok, Vm.cons2_ok, Vm.fn1_ok, Vm.bt1_ok, Vm.bt2_ok, Vm.and1_t, Vm.and1_f, Vm.or1_t, Vm.or1_f, Vm.not1_ok, Vm.ma1_ok, Vm.ma2_t, Vm.ma2_f, Vm.mo1_ok, Vm.mo2_t, Vm.mo2_f, Vm.mn1_ok, Vm.mn2_ok, Vm.ex1_ok, Vm.rt1_ok, Vm.as1_ok, Vm.as2_ok, Vm.gc1_ok, Vm.pu1_ok, Vm.pu2_ok, Vm.pu3_ok, Vm.pu4_ok, Vm.ap1_ok, Vm.ap2_ok, Vm.ap3_ok, Vm.sl1_ok, Vm.sl2_ok, Vm.sl3_ok, Vm.fk1_ok, Vm.tr1_ok, Vm.lr1_ok, Vm.fo1_ok, Vm.lc1_ok, Vm.tn1_ok, Vm.ls1_ok, Vm.ls2_t, Vm.ls2_f, Vm.ls3_ok, Vm.ls4_ok, Vm.bind_some', Vm.gv_ok, Vm.r_var, Vm.r_c, Vm.r_bin, Vm.r_un, Vm.pick_t, Vm.pick_f, Vm.r_if, Vm.r_nil, Vm.r_cons, Vm.r_tup, Vm.r_lst, Vm.tupI_0, Vm.tupI_1, Vm.tupI_2, Vm.tupI_3, Vm.lstI_0, Vm.lstI_1, Vm.lstI_2, Vm.lstI_3, Vm.lstI_6, Vm.r_fn, Vm.blB_ok, Vm.r_bV, Vm.r_bT, Vm.r_bAnd, Vm.r_bOr, Vm.r_bNot, Vm.r_bYes, Vm.r_and, Vm.r_or, Vm.r_not, Vm.ch0_ok, Vm.ch2_ok, Vm.ch3_ok, Vm.ch4_ok, Vm.r_chain, Vm.t_non, Vm.t_bl, Vm.t_int, Vm.t_tup, Vm.o_add, Vm.o_sub, Vm.o_lt, Vm.o_le, Vm.o_gt, Vm.o_ge, Vm.o_eqI, Vm.o_eqS, Vm.o_neI, Vm.o_neS, Vm.o_neg, Vm.b_len_tup, Vm.b_len_rl, Vm.b_int, Vm.b_tup, Vm.isi_ii, Vm.isi_ib, Vm.isi_ss, Vm.isi_tt, Vm.i_tup0, Vm.i_tup1, Vm.i_tup2, Vm.sq_nx, Vm.sq_rt, Vm.sq_bk, Vm.sq_ct, Vm.r_seq, Vm.r_next, Vm.r_expr, Vm.r_ret, Vm.r_retN, Vm.r_sIf, Vm.r_asg, Vm.g_nm, Vm.g_tup, Vm.g_wt, Vm.g_n, Vm.g_c, Vm.par2_ok, Vm.r_par, Vm.par3_ok, Vm.r_par3, Vm.fin_nx, Vm.fin_rt, Vm.r_body, Vm.r_put, Vm.r_append, Vm.o_none, Vm.osI_ok, Vm.r_oSome, Vm.r_slice, Vm.sl_tup_, Vm.rvI_ok, Vm.r_revT, Vm.cl1_ok, Vm.cl2_ok, Vm.cl3_ok, Vm.r_callL, Vm.r_fnK, Vm.rgI_ok, Vm.r_rg1, Vm.r_tupR, Vm.r_lstR, Vm.imI_tup, Vm.imI_rl, Vm.r_imSeq, Vm.imE_tup, Vm.imE_rl, Vm.r_imEnum, Vm.imZ_tup, Vm.r_imZip, Vm.r_imRng1, Vm.r_for, Vm.r_lc, Vm.chk_nil, Vm.trn_nx, Vm.trn_ct, Vm.trn_rt, Vm.lcL_nil, Vm.wp_nil, Vm.wp_cons, List.getElem?_cons_zero, List.getElem?_cons_succ, List.set_cons_zero, List.set_cons_succ, List.map_cons, List.map_nil, List.replicate_zero, List.replicate_succ, List.cons_append, List.nil_append, List.append_nil, List.length_cons, List.length_nil, Nat.sub_self, Bool.not_true, Bool.not_false, decide_true, decide_false, Nat.zero_add, Nat.add_one_sub_one, eq_self, eb]
      exact f1
    cases r1 with
    | rt p' s1 =>
      cases so with
      | rt d hh =>
        simp only [finP, Option.some.injEq, Prod.mk.injEq] at e
        obtain ⟨rfl, rfl⟩ := e
        obtain ⟨rp, _, _⟩ := x
        unfold Rep at rp
        subst rp
        refine ⟨hh, ?_⟩
        unfold bodyF
        show (match (sSeq (sAsg (mFn f__law_begun (mCons (mVar 0) mNil)) (gNm 1)) r) (some (.rl (ns.map D.int)) :: List.replicate (N + 1) none) [] with | some (.nx _ h') => some (D.non, h') | some (.rt d h') => some (d, h') | _ => none) = _
        rw [List.replicate_succ, f0]
      | nx _ _ => exact x.elim
      | bk _ _ => exact x.elim
      | ct _ _ => exact x.elim
    | nx pe' s1 => cases e
    | bk pe' s1 => cases e
    | ct pe' s1 => cases e
end K01
namespace K01
open PySem PySem.Spec PyProof.Rows L2 Vm Pu Rw
theorem law_true (ns : List Int) (hl : ns.length ≤ 63) : ∃ h', f_law [.rl (ns.map D.int)] [] = some (.bl true, h') := by
  obtain ⟨r, e, hr⟩ := law_split
  unfold f_law
  rw [e]
  exact law_start (N := 4) rfl hr (fun s hs => w_law (by omega)) ns hl
theorem finish {P : Program} {w : World} {K : PySem.W.Frag} {mg : Str → Option Value} {fa : Addr} (hmg : mg "law" = some (.ref fa)) (T : Txt K mg) :
    ∃ (fd : FuncData) (F : List D → VH → Option (D × VH)), (∀ (s : Shared) (u : Value), BindsTo s fd ⟨[u], []⟩ [("script", u)]) ∧ (∀ ns : List Int, ns.length ≤ 63 → ∃ h', F [.rl (ns.map D.int)] [] = some (.bl true, h')) ∧
      ∀ base : Heap, K.In base → base.Ns mainGlobals mg → FnG P w K mg base 9 fa fd ["script"] (spS K mg 1 F) := by
  obtain ⟨f, fd, hm, F⟩ := T.f_law
  rw [hmg] at hm
  cases hm
  refine ⟨fd, f_law, fun s u => ?_, law_true, fun base _ _ => ?_⟩
  · obtain ⟨oc, od, kV, doc, pm, an, cdv, ct, osl, rfl, lk, hcd⟩ := F.ex
    exact .of_eq rfl
  · obtain ⟨f', fd', hm', F', G⟩ := d_law (P := P) (w := w) (base := base) T
    rw [hmg] at hm'
    cases hm'
    obtain ⟨oc, od, kV, doc, pm, an, cdv, ct, osl, e1, lk, hcd⟩ := F.ex
    obtain ⟨oc', od', kV', doc', pm', an', cdv', ct', osl', e2, lk', hcd'⟩ := F'.ex
    rw [lk] at lk'
    cases lk'
    exact G
end K01
open PySem PySem.W PyProof.Rows L2 Vm in
set_option maxRecDepth 100000 in
set_option maxHeartbeats 0 in
theorem PySem.Challenge.cw_cordrules_k01_whole_rows_one_after_anoth_holds : PySem.Challenge.rw_cordrules_k01_whole_rows_one_after_anoth.Holds := by
  w_on; o_law; k_head; (case hw => w_witness2)
  k_fill
  refine Vm.law_walk (l := PySem.Challenge.rw_cordrules_k01_whole_rows_one_after_anoth) (n := 63) (k := 9) (x := "script") rfl (by decide) rfl ⟨rfl, by decide, by decide⟩ (fun w h Y => PySem.W.kIn_of Y) ?F
  case F =>
    intro w mg fa h KX G hmg
    refine K01.finish hmg ?T
    refine' ⟨(funAt_mk KX G ?a0 ?l0 ?c0 ?k0), (funAt_mk KX G ?a1 ?l1 ?c1 ?k1), (funAt_mk KX G ?a2 ?l2 ?c2 ?k2), (funAt_mk KX G ?a3 ?l3 ?c3 ?k3), (funAt_mk KX G ?a4 ?l4 ?c4 ?k4), (funAt_mk KX G ?a5 ?l5 ?c5 ?k5), (funAt_mk KX G ?a6 ?l6 ?c6 ?k6), (funAt_mk KX G ?a7 ?l7 ?c7 ?k7), (funAt_mk KX G ?a8 ?l8 ?c8 ?k8), (funAt_mk KX G ?a9 ?l9 ?c9 ?k9), (funAt_mk KX G ?a10 ?l10 ?c10 ?k10), (funAt_mk KX G ?a11 ?l11 ?c11 ?k11), (funAt_mk KX G ?a12 ?l12 ?c12 ?k12), (funAt_mk KX G ?a13 ?l13 ?c13 ?k13), (funAt_mk KX G ?a14 ?l14 ?c14 ?k14), (funAt_mk KX G ?a15 ?l15 ?c15 ?k15), (funAt_mk KX G ?a16 ?l16 ?c16 ?k16), (funAt_mk KX G ?a17 ?l17 ?c17 ?k17), (funAt_mk KX G ?a18 ?l18 ?c18 ?k18), (funAt_mk KX G ?a19 ?l19 ?c19 ?k19), (funAt_mk KX G ?a20 ?l20 ?c20 ?k20), (funAt_mk KX G ?a21 ?l21 ?c21 ?k21), (funAt_mk KX G ?a22 ?l22 ?c22 ?k22), (funAt_mk KX G ?a23 ?l23 ?c23 ?k23), (funAt_mk KX G ?a24 ?l24 ?c24 ?k24), (funAt_mk KX G ?a25 ?l25 ?c25 ?k25), (funAt_mk KX G ?a26 ?l26 ?c26 ?k26), (funAt_mk KX G ?a27 ?l27 ?c27 ?k27), (funAt_mk KX G ?a28 ?l28 ?c28 ?k28), (funAt_mk KX G ?a29 ?l29 ?c29 ?k29), (funAt_mk KX G ?a30 ?l30 ?c30 ?k30), (funAt_mk KX G ?a31 ?l31 ?c31 ?k31), (funAt_mk KX G ?a32 ?l32 ?c32 ?k32), (funAt_mk KX G ?a33 ?l33 ?c33 ?k33), (funAt_mk KX G ?a34 ?l34 ?c34 ?k34), (funAt_mk KX G ?a35 ?l35 ?c35 ?k35), (funAt_mk KX G ?a36 ?l36 ?c36 ?k36), (funAt_mk KX G ?a37 ?l37 ?c37 ?k37), (funAt_mk KX G ?a38 ?l38 ?c38 ?k38), (funAt_mk KX G ?a39 ?l39 ?c39 ?k39), (funAt_mk KX G ?a40 ?l40 ?c40 ?k40), (funAt_mk KX G ?a41 ?l41 ?c41 ?k41), (funAt_mk KX G ?a42 ?l42 ?c42 ?k42), (funAt_mk KX G ?a43 ?l43 ?c43 ?k43), (funAt_mk KX G ?a44 ?l44 ?c44 ?k44), (funAt_mk KX G ?a45 ?l45 ?c45 ?k45), (PySem.W.mg_none_of KX G ?z46), (PySem.W.mg_none_of KX G ?z47), (PySem.W.mg_none_of KX G ?z48), (PySem.W.mg_none_of KX G ?z49), (PySem.W.mg_none_of KX G ?z50), (PySem.W.mg_none_of KX G ?z51), (PySem.W.mg_none_of KX G ?z52), (PySem.W.mg_none_of KX G ?z53), (PySem.W.mg_none_of KX G ?z54), (PySem.W.mg_none_of KX G ?z55), (PySem.W.mg_none_of KX G ?z56), (constInt KX G ?a57), (constInt KX G ?a58), (constKD KX G ?a59 (KD.tp ?l59 (KD.cons kdS (KD.cons kdS (KD.nil))) (Nat.le_of_ble_eq_true rfl)))⟩
    (case a0 => k_is)
    (case l0 => k_is)
    (case c0 => k_is)
    (case k0 => k_is)
    (case a1 => k_is)
    (case l1 => k_is)
    (case c1 => k_is)
    (case k1 => k_is)
    (case a2 => k_is)
    (case l2 => k_is)
    (case c2 => k_is)
    (case k2 => k_is)
    (case a3 => k_is)
    (case l3 => k_is)
    (case c3 => k_is)
    (case k3 => k_is)
    (case a4 => k_is)
    (case l4 => k_is)
    (case c4 => k_is)
    (case k4 => k_is)
    (case a5 => k_is)
    (case l5 => k_is)
    (case c5 => k_is)
    (case k5 => k_is)
    (case a6 => k_is)
    (case l6 => k_is)
    (case c6 => k_is)
    (case k6 => k_is)
    (case a7 => k_is)
    (case l7 => k_is)
    (case c7 => k_is)
    (case k7 => k_is)
    (case a8 => k_is)
    (case l8 => k_is)
    (case c8 => k_is)
    (case k8 => k_is)
    (case a9 => k_is)
    (case l9 => k_is)
    (case c9 => k_is)
    (case k9 => k_is)
    (case a10 => k_is)
    (case l10 => k_is)
    (case c10 => k_is)
    (case k10 => k_is)
    (case a11 => k_is)
    (case l11 => k_is)
    (case c11 => k_is)
    (case k11 => k_is)
    (case a12 => k_is)
    (case l12 => k_is)
    (case c12 => k_is)
    (case k12 => k_is)
    (case a13 => k_is)
    (case l13 => k_is)
    (case c13 => k_is)
    (case k13 => k_is)
    (case a14 => k_is)
    (case l14 => k_is)
    (case c14 => k_is)
    (case k14 => k_is)
    (case a15 => k_is)
    (case l15 => k_is)
    (case c15 => k_is)
    (case k15 => k_is)
    (case a16 => k_is)
    (case l16 => k_is)
    (case c16 => k_is)
    (case k16 => k_is)
    (case a17 => k_is)
    (case l17 => k_is)
    (case c17 => k_is)
    (case k17 => k_is)
    (case a18 => k_is)
    (case l18 => k_is)
    (case c18 => k_is)
    (case k18 => k_is)
    (case a19 => k_is)
    (case l19 => k_is)
    (case c19 => k_is)
    (case k19 => k_is)
    (case a20 => k_is)
    (case l20 => k_is)
    (case c20 => k_is)
    (case k20 => k_is)
    (case a21 => k_is)
    (case l21 => k_is)
    (case c21 => k_is)
    (case k21 => k_is)
    (case a22 => k_is)
    (case l22 => k_is)
    (case c22 => k_is)
    (case k22 => k_is)
    (case a23 => k_is)
    (case l23 => k_is)
    (case c23 => k_is)
    (case k23 => k_is)
    (case a24 => k_is)
    (case l24 => k_is)
    (case c24 => k_is)
    (case k24 => k_is)
    (case a25 => k_is)
    (case l25 => k_is)
    (case c25 => k_is)
    (case k25 => k_is)
    (case a26 => k_is)
    (case l26 => k_is)
    (case c26 => k_is)
    (case k26 => k_is)
    (case a27 => k_is)
    (case l27 => k_is)
    (case c27 => k_is)
    (case k27 => k_is)
    (case a28 => k_is)
    (case l28 => k_is)
    (case c28 => k_is)
    (case k28 => k_is)
    (case a29 => k_is)
    (case l29 => k_is)
    (case c29 => k_is)
    (case k29 => k_is)
    (case a30 => k_is)
    (case l30 => k_is)
    (case c30 => k_is)
    (case k30 => k_is)
    (case a31 => k_is)
    (case l31 => k_is)
    (case c31 => k_is)
    (case k31 => k_is)
    (case a32 => k_is)
    (case l32 => k_is)
    (case c32 => k_is)
    (case k32 => k_is)
    (case a33 => k_is)
    (case l33 => k_is)
    (case c33 => k_is)
    (case k33 => k_is)
    (case a34 => k_is)
    (case l34 => k_is)
    (case c34 => k_is)
    (case k34 => k_is)
    (case a35 => k_is)
    (case l35 => k_is)
    (case c35 => k_is)
    (case k35 => k_is)
    (case a36 => k_is)
    (case l36 => k_is)
    (case c36 => k_is)
    (case k36 => k_is)
    (case a37 => k_is)
    (case l37 => k_is)
    (case c37 => k_is)
    (case k37 => k_is)
    (case a38 => k_is)
    (case l38 => k_is)
    (case c38 => k_is)
    (case k38 => k_is)
    (case a39 => k_is)
    (case l39 => k_is)
    (case c39 => k_is)
    (case k39 => k_is)
    (case a40 => k_is)
    (case l40 => k_is)
    (case c40 => k_is)
    (case k40 => k_is)
    (case a41 => k_is)
    (case l41 => k_is)
    (case c41 => k_is)
    (case k41 => k_is)
    (case a42 => k_is)
    (case l42 => k_is)
    (case c42 => k_is)
    (case k42 => k_is)
    (case a43 => k_is)
    (case l43 => k_is)
    (case c43 => k_is)
    (case k43 => k_is)
    (case a44 => k_is)
    (case l44 => k_is)
    (case c44 => k_is)
    (case k44 => k_is)
    (case a45 => k_is)
    (case l45 => k_is)
    (case c45 => k_is)
    (case k45 => k_is)
    (case z46 => k_is)
    (case z47 => k_is)
    (case z48 => k_is)
    (case z49 => k_is)
    (case z50 => k_is)
    (case z51 => k_is)
    (case z52 => k_is)
    (case z53 => k_is)
    (case z54 => k_is)
    (case z55 => k_is)
    (case z56 => k_is)
    (case a57 => k_is)
    (case a58 => k_is)
    (case a59 => k_is)
    (case l59 => k_is)
#print axioms PySem.Challenge.cw_cordrules_k01_whole_rows_one_after_anoth_holds
