import PyProof.Rows.All
import Wide.All
import OpenK.AllK
import Wide.FinOn
import HandS.ForMost
import HandS.Wide
import HandS.WideMore
import HandS.Evl
import HandS.Exc
import HandS.ExcOwn
import HandS.WordsExc
import HandS.NoneIn
import HandS.Style
import HandS.TupAny
import HandS.IsInst
import HandS.Zip
import HandS.Conv
import HandS.ExcInit
import HandS.ExcField
import HandS.ExcIs
import HandS.CallSlots
import KE.KExcIs
import HandS.Text
import PySem.Challenge.RW_tensloft_k01_shapes_made
set_option Elab.async false
set_option linter.all false
set_option maxRecDepth 100000
set_option maxHeartbeats 4000000
/-! A layer over the hand layer: programs over plain data as functions. -/
namespace Tl
open PySem PySem.Spec PyProof.Rows L2 Evl

inductive D where
  | non | bl (b : Bool) | int (i : Int) | str (x : Str) | tup (xs : List D)
instance : Inhabited D := ⟨.non⟩

mutual
inductive Den (K : PySem.W.Frag) (H : Hp) : V → D → Prop
  | non : Den K H .non .non
  | bl (b : Bool) : Den K H (.bl b) (.bl b)
  | int (i : Int) : Den K H (.int i) (.int i)
  | str (x : Str) : Den K H (.str x) (.str x)
  | tup {a : Addr} {xs : List V} {ds : List D} : SqT K H a xs → DenL K H xs ds → Den K H (.ref a) (.tup ds)
inductive DenL (K : PySem.W.Frag) (H : Hp) : List V → List D → Prop
  | nil : DenL K H [] []
  | cons {v : V} {vs : List V} {d : D} {ds : List D} : Den K H v d → DenL K H vs ds → DenL K H (v :: vs) (d :: ds)
end

/-- all tuples stay -/
def TEx (K : PySem.W.Frag) (H H' : Hp) : Prop := ∀ a xs, SqT K H a xs → SqT K H' a xs
section
variable {K : PySem.W.Frag} {H H' H1 H2 H3 : Hp}
theorem TEx.of (e : Ex H H') : TEx K H H' := fun _ _ h => ex_t e h
theorem TEx.refl : TEx K H H := fun _ _ h => h
theorem TEx.trans (a : TEx K H H1) (b : TEx K H1 H2) : TEx K H H2 := fun x y h => b x y (a x y h)
theorem TEx.mut {a : Addr} {xs ys : List V} (h : H a = some (.lst xs)) : TEx K H (upd H a (.lst ys)) := fun b zs hb => by
  rcases hb with (hb | ⟨o, hb⟩) | hb
  · have ne : b ≠ a := ne_of hb h (by intro z; cases z)
    exact .inl (.inl (by rw [upd_ne ne]; exact hb))
  · have ne : b ≠ a := ne_of hb h (by intro z; cases z)
    exact .inl (.inr ⟨o, by rw [upd_ne ne]; exact hb⟩)
  · exact .inr hb
mutual
theorem Den.imp (e : TEx K H H') : ∀ {v : V} {d : D}, Den K H v d → Den K H' v d
  | _, _, .non => .non
  | _, _, .bl b => .bl b
  | _, _, .int i => .int i
  | _, _, .str x => .str x
  | _, _, .tup h hl => .tup (e _ _ h) (DenL.imp e hl)
theorem DenL.imp (e : TEx K H H') : ∀ {vs : List V} {ds : List D}, DenL K H vs ds → DenL K H' vs ds
  | _, _, .nil => .nil
  | _, _, .cons h hl => .cons (Den.imp e h) (DenL.imp e hl)
end
theorem Den.ex (h : Den K H v d) (e : Ex H H') : Den K H' v d := h.imp (.of e)
theorem DenL.ex (h : DenL K H vs ds) (e : Ex H H') : DenL K H' vs ds := h.imp (.of e)
theorem DenL.length : ∀ {vs : List V} {ds : List D}, DenL K H vs ds → vs.length = ds.length
  | _, _, .nil => rfl
  | _, _, .cons _ h => congrArg (· + 1) h.length
theorem DenL.get : ∀ {vs : List V} {ds : List D} {i : Nat} {d : D}, DenL K H vs ds → ds[i]? = some d → ∃ v, vs[i]? = some v ∧ Den K H v d
  | _, _, _, _, .nil, e => by simp at e
  | _, _, 0, _, .cons h _, e => ⟨_, rfl, by cases Option.some.inj e; exact h⟩
  | _, _, i + 1, _, .cons _ h, e => by
    obtain ⟨v, h1, h2⟩ := DenL.get (i := i) h (by simpa using e)
    exact ⟨v, by simpa using h1, h2⟩
theorem DenL.getV : ∀ {vs : List V} {ds : List D} {i : Nat} {v : V}, DenL K H vs ds → vs[i]? = some v → ∃ d, ds[i]? = some d ∧ Den K H v d
  | _, _, _, _, .nil, e => by simp at e
  | _, _, 0, _, .cons h _, e => ⟨_, rfl, by cases Option.some.inj e; exact h⟩
  | _, _, i + 1, _, .cons _ h, e => by
    obtain ⟨v, h1, h2⟩ := DenL.getV (i := i) h (by simpa using e)
    exact ⟨v, by simpa using h1, h2⟩
theorem DenL.append : ∀ {vs ws : List V} {ds es : List D}, DenL K H vs ds → DenL K H ws es → DenL K H (vs ++ ws) (ds ++ es)
  | _, _, _, _, .nil, s => s
  | _, _, _, _, .cons h t, s => .cons h (DenL.append t s)
theorem DenL.take : ∀ {vs : List V} {ds : List D} (n : Nat), DenL K H vs ds → DenL K H (vs.take n) (ds.take n)
  | _, _, 0, _ => .nil
  | _, _, _ + 1, .nil => .nil
  | _, _, n + 1, .cons h t => .cons h (DenL.take n t)
theorem DenL.drop : ∀ {vs : List V} {ds : List D} (n : Nat), DenL K H vs ds → DenL K H (vs.drop n) (ds.drop n)
  | _, _, 0, r => r
  | _, _, _ + 1, .nil => .nil
  | _, _, n + 1, .cons _ t => DenL.drop n t
theorem DenL.reverse : ∀ {vs : List V} {ds : List D}, DenL K H vs ds → DenL K H vs.reverse ds.reverse
  | _, _, .nil => .nil
  | _, _, .cons h t => by
    rw [List.reverse_cons, List.reverse_cons]
    exact DenL.append (DenL.reverse t) (.cons h .nil)
theorem DenL.set : ∀ {vs : List V} {ds : List D} {v : V} {d : D} (i : Nat), DenL K H vs ds → Den K H v d → DenL K H (vs.set i v) (ds.set i d)
  | _, _, _, _, _, .nil, _ => .nil
  | _, _, _, _, 0, .cons _ t, h => .cons h t
  | _, _, _, _, i + 1, .cons q t, h => .cons q (DenL.set i t h)
theorem DenL.rep : ∀ {vs : List V} {ds : List D} (k : Nat), DenL K H vs ds → DenL K H (List.replicate k vs).flatten (List.replicate k ds).flatten
  | _, _, 0, _ => .nil
  | vs, ds, k + 1, h => by
    rw [List.replicate_succ, List.replicate_succ, List.flatten_cons, List.flatten_cons]
    exact DenL.append h (DenL.rep k h)
theorem DenL.ints : ∀ {vs : List V} {ns : List Int}, DenL K H vs (ns.map D.int) → vs = ns.map V.int
  | _, [], h => by cases h; rfl
  | _, _ :: _, h => by
    cases h with
    | cons h t => cases h; rw [DenL.ints t]; rfl
theorem DenL.of_ints : ∀ (ns : List Int), DenL K H (ns.map V.int) (ns.map D.int)
  | [] => .nil
  | n :: ns => .cons (.int n) (DenL.of_ints ns)
theorem DenL.bls : ∀ {vs : List V} {ns : List Bool}, DenL K H vs (ns.map D.bl) → vs = ns.map V.bl
  | _, [], h => by cases h; rfl
  | _, _ :: _, h => by
    cases h with
    | cons h t => cases h; rw [DenL.bls t]; rfl
theorem DenL.strs : ∀ {vs : List V} {ns : List Str}, DenL K H vs (ns.map D.str) → vs = ns.map V.str
  | _, [], h => by cases h; rfl
  | _, _ :: _, h => by
    cases h with
    | cons h t => cases h; rw [DenL.strs t]; rfl
end

/-! ### results, slots -/
inductive R where
  | dat (d : D) | lst (xs : List D) | new (xs : List D) | ro (xs : List D)
inductive C where
  | un | dat (d : D) | own (xs : List D) | bor (xs : List D) | exc (c : Str) (fs : List (Str × D))
abbrev Rho := List C
abbrev ME := Rho → Option R
abbrev MT := Rho → Option Bool
abbrev MA := Rho → Option (List R)

inductive FldL (K : PySem.W.Frag) (H : Hp) : List (Str × V) → List (Str × D) → Prop
  | nil : FldL K H [] []
  | cons {f : Str} {v : V} {d : D} {fs : List (Str × V)} {gs : List (Str × D)} : Den K H v d → FldL K H fs gs → FldL K H ((f, v) :: fs) ((f, d) :: gs)
theorem FldL.imp {K : PySem.W.Frag} {H H' : Hp} (e : TEx K H H') : ∀ {fs : List (Str × V)} {gs : List (Str × D)}, FldL K H fs gs → FldL K H' fs gs
  | _, _, .nil => .nil
  | _, _, .cons h t => .cons (h.imp e) (t.imp e)
theorem FldL.ex {K : PySem.W.Frag} {H H' : Hp} {fs : List (Str × V)} {gs : List (Str × D)} (h : FldL K H fs gs) (e : Ex H H') : FldL K H' fs gs := h.imp (.of e)
/-- the exception that a suite holds, as a slot has it -/
def ExcAt (X : Cx) (B H : Hp) (ov : Option (Option V)) (c : Str) (fs : List (Str × D)) : Prop :=
  ∃ (a : Addr) (oe : Obj) (pn : List (Addr × Obj)) (C dd : Addr) (gs : List (Str × V)), X.pn = (a, oe) :: pn ∧ ov = some (some (.ref a)) ∧ oe.cls = .ref C ∧ X.mg c = some (.ref C) ∧ oe.dict = some dd ∧ (∃ vs, oe.data = .fields vs) ∧ B dd = some (.xd gs) ∧ FldL X.K H gs fs
def SlotOk (X : Cx) (B H : Hp) (ov : Option (Option V)) : C → Prop
  | .un => True
  | .dat d => ∃ v, ov = some (some v) ∧ Den X.K H v d
  | .own xs => ∃ a vs, ov = some (some (.ref a)) ∧ B a = none ∧ H a = some (.lst vs) ∧ DenL X.K H vs xs
  | .bor xs => ∃ a vs, ov = some (some (.ref a)) ∧ SqL X.K B a vs ∧ DenL X.K H vs xs
  | .exc c fs => ExcAt X B H ov c fs
structure OkB (X : Cx) (H0 B : Hp) (σ : L2.St) (H : Hp) (ρ : Rho) : Prop where
  e0 : Ex H0 B
  e1 : Ex B H
  len : ρ.length = σ.length
  slot : ∀ (i : Nat) (c : C), ρ[i]? = some c → SlotOk X B H σ[i]? c
  inj : ∀ (i j : Nat) (xs ys : List D) (a : Addr), ρ[i]? = some (.own xs) → ρ[j]? = some (.own ys) → σ[i]? = some (some (.ref a)) → σ[j]? = some (some (.ref a)) → i = j
def Ok (X : Cx) (H0 : Hp) (σ : L2.St) (H : Hp) (ρ : Rho) : Prop := ∃ B, OkB X H0 B σ H ρ

section
variable {X : Cx} {H0 H H1 H2 B : Hp} {σ : L2.St} {ρ : Rho}
theorem SlotOk.ex {ov : Option (Option V)} : ∀ {c : C}, SlotOk X B H ov c → Ex H H1 → SlotOk X B H1 ov c
  | .un, _, _ => trivial
  | .dat _, ⟨v, h, d⟩, e => ⟨v, h, d.ex e⟩
  | .own _, ⟨a, vs, h, f, l, d⟩, e => ⟨a, vs, h, f, e _ _ l, d.ex e⟩
  | .bor _, ⟨a, vs, h, l, d⟩, e => ⟨a, vs, h, l, d.ex e⟩
  | .exc _ _, ⟨a, oe, pn, C, dd, gs, h1, h2, h3, h4, h5, h6, h7, h8⟩, e => ⟨a, oe, pn, C, dd, gs, h1, h2, h3, h4, h5, h6, h7, h8.ex e⟩
theorem Ok.ex (h : Ok X H0 σ H ρ) (e : Ex H H1) : Ok X H0 σ H1 ρ := by
  obtain ⟨B, h⟩ := h
  exact ⟨B, h.e0, h.e1.trans e, h.len, fun i c hi => (h.slot i c hi).ex e, h.inj⟩
theorem Ok.base (h : Ok X H0 σ H ρ) : Ex H0 H := by
  obtain ⟨B, h⟩ := h
  exact h.e0.trans h.e1
theorem get_set_eq {α : Type} {l : List α} {i : Nat} {x y : α} (h : (l.set i x)[i]? = some y) : y = x := by
  rw [List.getElem?_set] at h
  simp only [if_true] at h
  split at h
  · exact (Option.some.inj h).symm
  · cases h
theorem lt_of_get {α : Type} {l : List α} {i : Nat} {y : α} (h : l[i]? = some y) : i < l.length := (List.getElem?_eq_some_iff.mp h).1
theorem set_get {α : Type} {l : List α} {i : Nat} {x : α} (h : i < l.length) : (l.set i x)[i]? = some x := by
  rw [List.getElem?_set_self h]
/-- a slot gets plain data -/
theorem Ok.set {i : Nat} {v : V} {d : D} (h : Ok X H0 σ H ρ) (hv : Den X.K H v d) : Ok X H0 (σ.set i (some v)) H (ρ.set i (.dat d)) := by
  obtain ⟨B, h⟩ := h
  refine ⟨B, h.e0, h.e1, by rw [List.length_set, List.length_set]; exact h.len, fun j c hj => ?_, fun j k xs ys a hj hk sj sk => ?_⟩
  · by_cases e : i = j
    · subst e
      have hl := lt_of_get hj
      rw [List.length_set, h.len] at hl
      rw [get_set_eq hj]
      exact ⟨v, set_get hl, hv⟩
    · rw [List.getElem?_set_ne e] at hj ⊢
      exact h.slot j c hj
  · have nj : i ≠ j := fun e => by subst e; exact absurd (get_set_eq hj) (by intro z; cases z)
    have nk : i ≠ k := fun e => by subst e; exact absurd (get_set_eq hk) (by intro z; cases z)
    rw [List.getElem?_set_ne nj] at hj sj
    rw [List.getElem?_set_ne nk] at hk sk
    exact h.inj j k xs ys a hj hk sj sk
/-- a slot gets a new list -/
theorem Ok.setL {i : Nat} {a : Addr} {vs : List V} {xs : List D} (h : Ok X H0 σ H1 ρ) (e : Ex H1 H) (ha : H1 a = none) (hl : H a = some (.lst vs)) (hv : DenL X.K H vs xs) : Ok X H0 (σ.set i (some (.ref a))) H (ρ.set i (.own xs)) := by
  obtain ⟨B, h⟩ := h
  have old : ∀ (j : Nat) (zs : List D) (b : Addr), ρ[j]? = some (.own zs) → σ[j]? = some (some (.ref b)) → b ≠ a := fun j zs b hj sj => by
    obtain ⟨a', vs', s', _, l', _⟩ := h.slot j _ hj
    rw [s'] at sj
    cases sj
    exact ne_of_none l' ha
  refine ⟨B, h.e0, h.e1.trans e, by rw [List.length_set, List.length_set]; exact h.len, fun j c hj => ?_, fun j k xs ys b hj hk sj sk => ?_⟩
  · by_cases q : i = j
    · subst q
      have hl' := lt_of_get hj
      rw [List.length_set, h.len] at hl'
      rw [get_set_eq hj]
      exact ⟨a, vs, set_get hl', fresh_back h.e1 ha, hl, hv⟩
    · rw [List.getElem?_set_ne q] at hj ⊢
      exact (h.slot j c hj).ex e
  · by_cases qj : i = j
    · by_cases qk : i = k
      · exact qj.symm.trans qk
      · subst qj
        have hl' := lt_of_get hj
        rw [List.length_set, h.len] at hl'
        rw [set_get hl'] at sj
        cases sj
        rw [List.getElem?_set_ne qk] at hk sk
        exact absurd rfl (old k _ _ hk sk)
    · by_cases qk : i = k
      · subst qk
        have hl' := lt_of_get hk
        rw [List.length_set, h.len] at hl'
        rw [set_get hl'] at sk
        cases sk
        rw [List.getElem?_set_ne qj] at hj sj
        exact absurd rfl (old j _ _ hj sj)
      · rw [List.getElem?_set_ne qj] at hj sj
        rw [List.getElem?_set_ne qk] at hk sk
        exact h.inj j k _ _ b hj hk sj sk
/-- an own list is changed -/
theorem Ok.mut {i : Nat} {a : Addr} {us vs : List V} {xs ys : List D} (h : Ok X H0 σ H ρ) (hi : ρ[i]? = some (.own xs)) (si : σ[i]? = some (some (.ref a))) (hu : H a = some (.lst us)) (hv : DenL X.K H vs ys) : Ok X H0 σ (upd H a (.lst vs)) (ρ.set i (.own ys)) := by
  obtain ⟨B, h⟩ := h
  obtain ⟨a', vs', s', f', l', d'⟩ := h.slot i _ hi
  rw [s'] at si
  cases si
  have t : TEx X.K H (upd H a (.lst vs)) := TEx.mut hu
  refine ⟨B, h.e0, fun b o hb => ?_, by rw [List.length_set]; exact h.len, fun j c hj => ?_, fun j k zs ws b hj hk sj sk => ?_⟩
  · rw [upd_ne (ne_of_none hb f')]
    exact h.e1 b o hb
  · by_cases q : i = j
    · subst q
      rw [get_set_eq hj]
      exact ⟨a, vs, s', f', upd_same, hv.imp t⟩
    · rw [List.getElem?_set_ne q] at hj
      have z := h.slot j c hj
      cases c with
      | un => trivial
      | dat d =>
        obtain ⟨v, z1, z2⟩ := z
        exact ⟨v, z1, z2.imp t⟩
      | own zs =>
        obtain ⟨b, ws, z1, z2, z3, z4⟩ := z
        have ne : b ≠ a := fun e => by
          subst e
          exact q (h.inj i j _ _ _ hi hj s' z1)
        exact ⟨b, ws, z1, z2, by rw [upd_ne ne]; exact z3, z4.imp t⟩
      | bor zs =>
        obtain ⟨b, ws, z1, z2, z4⟩ := z
        exact ⟨b, ws, z1, z2, z4.imp t⟩
      | exc c fs =>
        obtain ⟨a, oe, pn, C, dd, gs, h1, h2, h3, h4, h5, h6, h7, h8⟩ := z
        exact ⟨a, oe, pn, C, dd, gs, h1, h2, h3, h4, h5, h6, h7, h8.imp t⟩
  · by_cases qj : i = j
    · by_cases qk : i = k
      · exact qj.symm.trans qk
      · subst qj
        rw [List.getElem?_set_ne qk] at hk
        exact h.inj i k _ _ b hi hk sj sk
    · by_cases qk : i = k
      · subst qk
        rw [List.getElem?_set_ne qj] at hj
        exact h.inj j i _ _ b hj hi sj sk
      · rw [List.getElem?_set_ne qj] at hj
        rw [List.getElem?_set_ne qk] at hk
        exact h.inj j k _ _ b hj hk sj sk
/-- an own list is let go: it is only read from here on -/
theorem Ok.frz {i : Nat} {xs : List D} (h : Ok X H0 σ H ρ) (hi : ρ[i]? = some (.own xs)) : Ok X H0 σ H (ρ.set i (.bor xs)) := by
  obtain ⟨B, h⟩ := h
  obtain ⟨a, vs, s', f', l', d'⟩ := h.slot i _ hi
  have eB : Ex B (upd B a (.lst vs)) := Ex.new f'
  refine ⟨upd B a (.lst vs), h.e0.trans eB, fun b o hb => ?_, by rw [List.length_set]; exact h.len, fun j c hj => ?_, fun j k zs ws b hj hk sj sk => ?_⟩
  · by_cases e : b = a
    · subst e
      rw [upd_same] at hb
      cases hb
      exact l'
    · rw [upd_ne e] at hb
      exact h.e1 b o hb
  · by_cases q : i = j
    · subst q
      rw [get_set_eq hj]
      exact ⟨a, vs, s', sq_of upd_same, d'⟩
    · rw [List.getElem?_set_ne q] at hj
      have z := h.slot j c hj
      cases c with
      | un => trivial
      | dat d => exact z
      | own zs =>
        obtain ⟨b, ws, z1, z2, z3, z4⟩ := z
        have ne : b ≠ a := fun e => by
          subst e
          exact q (h.inj i j _ _ _ hi hj s' z1)
        exact ⟨b, ws, z1, by rw [upd_ne ne]; exact z2, z3, z4⟩
      | bor zs =>
        obtain ⟨b, ws, z1, z2, z4⟩ := z
        exact ⟨b, ws, z1, ex_l eB z2, z4⟩
      | exc c fs =>
        obtain ⟨a, oe, pn, C, dd, gs, h1, h2, h3, h4, h5, h6, h7, h8⟩ := z
        exact ⟨a, oe, pn, C, dd, gs, h1, h2, h3, h4, h5, h6, eB _ _ h7, h8⟩
  · have nj : i ≠ j := fun e => by subst e; exact absurd (get_set_eq hj) (by intro z; cases z)
    have nk : i ≠ k := fun e => by subst e; exact absurd (get_set_eq hk) (by intro z; cases z)
    rw [List.getElem?_set_ne nj] at hj
    rw [List.getElem?_set_ne nk] at hk
    exact h.inj j k zs ws b hj hk sj sk
theorem Ok.un {i : Nat} {o : Option V} (h : Ok X H0 σ H ρ) : Ok X H0 (σ.set i o) H (ρ.set i .un) := by
  obtain ⟨B, h⟩ := h
  refine ⟨B, h.e0, h.e1, by rw [List.length_set, List.length_set]; exact h.len, fun j c hj => ?_, fun j k xs ys a hj hk sj sk => ?_⟩
  · by_cases e : i = j
    · subst e
      rw [get_set_eq hj]
      trivial
    · rw [List.getElem?_set_ne e] at hj ⊢
      exact h.slot j c hj
  · have nj : i ≠ j := fun e => by subst e; exact absurd (get_set_eq hj) (by intro z; cases z)
    have nk : i ≠ k := fun e => by subst e; exact absurd (get_set_eq hk) (by intro z; cases z)
    rw [List.getElem?_set_ne nj] at hj sj
    rw [List.getElem?_set_ne nk] at hk sk
    exact h.inj j k xs ys a hj hk sj sk
end

/-! ### expressions -/
def Got (K : PySem.W.Frag) (H1 : Hp) (v : V) (H2 : Hp) : R → Prop
  | .dat d => Den K H2 v d
  | .lst xs => ∃ a vs, v = .ref a ∧ H2 a = some (.lst vs) ∧ DenL K H2 vs xs
  | .new xs => ∃ a vs, v = .ref a ∧ H1 a = none ∧ H2 a = some (.lst vs) ∧ DenL K H2 vs xs
  | .ro xs => ∃ a vs, v = .ref a ∧ SqL K H2 a vs ∧ DenL K H2 vs xs
def EvR (K : PySem.W.Frag) (te : TE) (σ : L2.St) (H : Hp) (r : R) : Prop := ∀ H1, Ex H H1 → ∀ Q : VK, (∀ v H2, Ex H1 H2 → Got K H1 v H2 r → Q v H2) → te σ H1 Q
/-- arguments: each readable at the end -/
def ArgOk (K : PySem.W.Frag) (H : Hp) (v : V) : R → Prop
  | .dat d => Den K H v d
  | .lst xs => ∃ a vs, v = .ref a ∧ H a = some (.lst vs) ∧ DenL K H vs xs
  | .new xs => ∃ a vs, v = .ref a ∧ H a = some (.lst vs) ∧ DenL K H vs xs
  | .ro xs => ∃ a vs, v = .ref a ∧ SqL K H a vs ∧ DenL K H vs xs
inductive ArgL (K : PySem.W.Frag) (H : Hp) : List V → List R → Prop
  | nil : ArgL K H [] []
  | cons {v : V} {vs : List V} {r : R} {rs : List R} : ArgOk K H v r → ArgL K H vs rs → ArgL K H (v :: vs) (r :: rs)
def EvRs (K : PySem.W.Frag) (ta : TA) (σ : L2.St) (H : Hp) (rs : List R) : Prop := ∀ H1, Ex H H1 → ∀ Q : List V → Hp → Prop, (∀ vs H2, Ex H1 H2 → ArgL K H2 vs rs → Q vs H2) → ta σ H1 Q
/-- as a def takes it -/
def argN : R → R
  | .dat d => .dat d
  | .lst xs => .ro xs
  | .new xs => .ro xs
  | .ro xs => .ro xs
section
variable {K : PySem.W.Frag} {H H1 H2 H3 : Hp}
theorem ArgOk.ex {v : V} : ∀ {r : R}, ArgOk K H v r → Ex H H1 → ArgOk K H1 v r
  | .dat _, h, e => Den.ex h e
  | .lst _, ⟨a, vs, h, l, d⟩, e => ⟨a, vs, h, e _ _ l, d.ex e⟩
  | .new _, ⟨a, vs, h, l, d⟩, e => ⟨a, vs, h, e _ _ l, d.ex e⟩
  | .ro _, ⟨a, vs, h, l, d⟩, e => ⟨a, vs, h, ex_l e l, d.ex e⟩
theorem ArgL.ex : ∀ {vs : List V} {rs : List R}, ArgL K H vs rs → Ex H H1 → ArgL K H1 vs rs
  | _, _, .nil, _ => .nil
  | _, _, .cons h t, e => .cons (h.ex e) (ArgL.ex t e)
theorem Got.arg {v : V} : ∀ {r : R}, Got K H1 v H2 r → ArgOk K H2 v r
  | .dat _, h => h
  | .lst _, h => h
  | .ro _, h => h
  | .new _, ⟨a, vs, h, _, l, d⟩ => ⟨a, vs, h, l, d⟩
theorem Got.back {v : V} (e : Ex H1 H2) : ∀ {r : R}, Got K H2 v H3 r → Got K H1 v H3 r
  | .dat _, h => h
  | .lst _, h => h
  | .ro _, h => h
  | .new _, ⟨a, vs, h, n, l, d⟩ => ⟨a, vs, h, fresh_back e n, l, d⟩
theorem ArgOk.norm {v : V} : ∀ {r : R}, ArgOk K H v r → ArgOk K H v (argN r)
  | .dat _, h => h
  | .lst _, ⟨a, vs, h, l, d⟩ => ⟨a, vs, h, sq_of l, d⟩
  | .new _, ⟨a, vs, h, l, d⟩ => ⟨a, vs, h, sq_of l, d⟩
  | .ro _, h => h
theorem ArgL.norm : ∀ {vs : List V} {rs : List R}, ArgL K H vs rs → ArgL K H vs (rs.map argN)
  | _, _, .nil => .nil
  | _, _, .cons h t => .cons h.norm (ArgL.norm t)
theorem ArgL.length : ∀ {vs : List V} {rs : List R}, ArgL K H vs rs → vs.length = rs.length
  | _, _, .nil => rfl
  | _, _, .cons _ h => congrArg (· + 1) h.length
end

/-! ### what the mirrors read off results -/
def asInt : Option R → Option Int
  | some (.dat (.int i)) => some i
  | _ => none
def asStr : Option R → Option Str
  | some (.dat (.str i)) => some i
  | _ => none
def asBl : Option R → Option Bool
  | some (.dat (.bl i)) => some i
  | _ => none
def asTup : Option R → Option (List D)
  | some (.dat (.tup i)) => some i
  | _ => none
def asDat : Option R → Option D
  | some (.dat i) => some i
  | _ => none
def asLst : Option R → Option (List D)
  | some (.lst i) => some i
  | some (.new i) => some i
  | some (.ro i) => some i
  | _ => none
def asTrk : Option R → Option (List D)
  | some (.lst i) => some i
  | some (.new i) => some i
  | _ => none
theorem asInt_some {o : Option R} {i : Int} (h : asInt o = some i) : o = some (.dat (.int i)) := by
  unfold asInt at h
  split at h
  · cases h; rfl
  · cases h
theorem asStr_some {o : Option R} {i : Str} (h : asStr o = some i) : o = some (.dat (.str i)) := by
  unfold asStr at h
  split at h
  · cases h; rfl
  · cases h
theorem asBl_some {o : Option R} {i : Bool} (h : asBl o = some i) : o = some (.dat (.bl i)) := by
  unfold asBl at h
  split at h
  · cases h; rfl
  · cases h
theorem asTup_some {o : Option R} {i : List D} (h : asTup o = some i) : o = some (.dat (.tup i)) := by
  unfold asTup at h
  split at h
  · cases h; rfl
  · cases h
theorem asDat_some {o : Option R} {i : D} (h : asDat o = some i) : o = some (.dat i) := by
  unfold asDat at h
  split at h
  · cases h; rfl
  · cases h
section
variable {K : PySem.W.Frag} {te : TE} {σ : L2.St} {H : Hp} {o : Option R} {xs : List D}
/-- a list to be read -/
theorem ev_lst (h : asLst o = some xs) (hr : ∀ r, o = some r → EvR K te σ H r) : EvR K te σ H (.ro xs) := by
  unfold asLst at h
  split at h
  · cases h
    exact fun H1 e Q q => hr _ rfl H1 e Q fun v H2 e2 ⟨a, vs, h1, h2, h3⟩ => q v H2 e2 ⟨a, vs, h1, sq_of h2, h3⟩
  · cases h
    exact fun H1 e Q q => hr _ rfl H1 e Q fun v H2 e2 ⟨a, vs, h1, _, h2, h3⟩ => q v H2 e2 ⟨a, vs, h1, sq_of h2, h3⟩
  · cases h
    exact fun H1 e Q q => hr _ rfl H1 e Q q
  · cases h
theorem ev_trk (h : asTrk o = some xs) (hr : ∀ r, o = some r → EvR K te σ H r) : EvR K te σ H (.lst xs) := by
  unfold asTrk at h
  split at h
  · cases h
    exact fun H1 e Q q => hr _ rfl H1 e Q q
  · cases h
    exact fun H1 e Q q => hr _ rfl H1 e Q fun v H2 e2 ⟨a, vs, h1, _, h2, h3⟩ => q v H2 e2 ⟨a, vs, h1, h2, h3⟩
  · cases h
end

/-- e gives m -/
def JE (X : Cx) (e : Expr) (m : ME) : Prop := ∃ te, PE X e te ∧ ∀ H0 σ H ρ r, Ok X H0 σ H ρ → m ρ = some r → EvR X.K te σ H r
def JT (X : Cx) (e : Expr) (m : MT) : Prop := ∃ tt, PT X e tt ∧ ∀ H0 σ H ρ b, Ok X H0 σ H ρ → m ρ = some b → EvT tt σ H b
def JW (X : Cx) (e : Expr) (m : MT) : Prop := ∃ tt, PW X e tt ∧ ∀ H0 σ H ρ b, Ok X H0 σ H ρ → m ρ = some b → EvT tt σ H b
def JA (X : Cx) (es : List Expr) (m : MA) : Prop := ∃ ta, PA X es ta ∧ ∀ H0 σ H ρ rs, Ok X H0 σ H ρ → m ρ = some rs → EvRs X.K ta σ H rs

/-- a test that the kernel never runs -/
noncomputable def okP (p : Prop) : Bool := @decide p (Classical.propDecidable p)
theorem okP_of {p : Prop} (h : okP p = true) : p := @of_decide_eq_true p (Classical.propDecidable p) h
theorem okP_t {p : Prop} (h : p) : okP p = true := @decide_eq_true p (Classical.propDecidable p) h
theorem okP_f {p : Prop} (h : ¬ p) : okP p = false := @decide_eq_false p (Classical.propDecidable p) h
theorem okP_iff {p : Prop} : (okP p = true) = p := propext ⟨okP_of, okP_t⟩
theorem okP_iffF {p : Prop} : (okP p = false) = ¬ p := propext ⟨fun h q => Bool.noConfusion ((okP_t q).symm.trans h), okP_f⟩
theorem okP_eq {p : Prop} [Decidable p] : decide p = okP p := by
  by_cases h : p
  · rw [decide_eq_true h, okP_t h]
  · rw [decide_eq_false h, okP_f h]
noncomputable section
/-! ### the mirrors of expressions -/
def mVar (i : Nat) : ME := fun ρ => match ρ[i]? with
  | some (.dat d) => some (.dat d)
  | some (.own xs) => some (.lst xs)
  | some (.bor xs) => some (.ro xs)
  | _ => none
def mC (d : D) : ME := fun _ => some (.dat d)
def mII (c : Int → Int → Bool) (g : Int → Int → D) (f1 f2 : ME) : ME := fun ρ =>
  (asInt (f1 ρ)).bind fun a => (asInt (f2 ρ)).bind fun b => if c a b = true then some (.dat (g a b)) else none
def cT (_ _ : Int) : Bool := true
def cMul (i j : Int) : Bool := okP ((-(2 ^ 64) < i ∧ i < 2 ^ 64) ∨ (-(2 ^ 64) < j ∧ j < 2 ^ 64))
def cDiv (_ j : Int) : Bool := okP (0 < j ∧ j.natAbs.log2 < 9000)
def cMod (_ j : Int) : Bool := okP (0 < j)
def cPow (i j : Int) : Bool := okP (0 ≤ j ∧ j ≤ 1000000 ∧ i.natAbs < 2 ^ 64)
def mAdd (f1 f2 : ME) : ME := fun ρ => mII cT (fun a b => .int (a + b)) f1 f2 ρ
def mSub (f1 f2 : ME) : ME := fun ρ => mII cT (fun a b => .int (a - b)) f1 f2 ρ
def mMul (f1 f2 : ME) : ME := fun ρ => mII cMul (fun a b => .int (a * b)) f1 f2 ρ
def mDiv (f1 f2 : ME) : ME := fun ρ => mII cDiv (fun a b => .int (a / b)) f1 f2 ρ
def mMod (f1 f2 : ME) : ME := fun ρ => mII cMod (fun a b => .int (a % b)) f1 f2 ρ
def mPow (f1 f2 : ME) : ME := fun ρ => mII cPow (fun a b => .int (a ^ b.toNat)) f1 f2 ρ
def mLt (f1 f2 : ME) : ME := fun ρ => mII cT (fun a b => .bl (okP (a < b))) f1 f2 ρ
def mLe (f1 f2 : ME) : ME := fun ρ => mII cT (fun a b => .bl (okP (a ≤ b))) f1 f2 ρ
def mGt (f1 f2 : ME) : ME := fun ρ => mII cT (fun a b => .bl (okP (b < a))) f1 f2 ρ
def mGe (f1 f2 : ME) : ME := fun ρ => mII cT (fun a b => .bl (okP (b ≤ a))) f1 f2 ρ
def mNeg (f : ME) : ME := fun ρ => (asInt (f ρ)).bind fun a => some (.dat (.int (-a)))
def mT (m : ME) : MT := fun ρ => asBl (m ρ)
def eqS : D → D → Option Bool
  | .non, .non => some true
  | .non, .int _ => some false
  | .int _, .non => some false
  | .non, .bl _ => some false
  | .bl _, .non => some false
  | .non, .str _ => some false
  | .str _, .non => some false
  | .int a, .int b => some (okP (a = b))
  | .bl a, .bl b => some (decide (a = b))
  | .str a, .str b => some (decide (a = b))
  | .int _, .str _ => some false
  | .str _, .int _ => some false
  | .bl _, .str _ => some false
  | .str _, .bl _ => some false
  | _, _ => none
def mEqS (f1 f2 : ME) : ME := fun ρ => (asDat (f1 ρ)).bind fun a => (asDat (f2 ρ)).bind fun b => (eqS a b).map fun k => .dat (.bl k)
def mNeS (f1 f2 : ME) : ME := fun ρ => (asDat (f1 ρ)).bind fun a => (asDat (f2 ρ)).bind fun b => (eqS a b).map fun k => .dat (.bl (!k))
/-- a chain a op b op' c of ints -/
def mChain (p q : Int → Int → Prop) (f1 f2 f3 : ME) : ME := fun ρ => (asInt (f1 ρ)).bind fun a => (asInt (f2 ρ)).bind fun b => (asInt (f3 ρ)).bind fun c => some (.dat (.bl (okP (p a b) && okP (q b c))))
def tAndM (t u : MT) : MT := fun ρ => (t ρ).bind fun a => if a = true then u ρ else some false
def tOrM (t u : MT) : MT := fun ρ => (t ρ).bind fun a => if a = true then some true else u ρ
def tNotM (t : MT) : MT := fun ρ => (t ρ).map fun a => !a
def mIfE (t : MT) (f g : ME) : ME := fun ρ => (t ρ).bind fun a => if a = true then f ρ else g ρ
def mAndV (f g : ME) : ME := fun ρ => (asBl (f ρ)).bind fun a => if a = true then (asBl (g ρ)).map fun b => .dat (.bl b) else some (.dat (.bl false))
def mOrV (f g : ME) : ME := fun ρ => (asBl (f ρ)).bind fun a => if a = true then some (.dat (.bl true)) else (asBl (g ρ)).map fun b => .dat (.bl b)
def mNotV (f : ME) : ME := fun ρ => (asBl (f ρ)).map fun a => .dat (.bl (!a))
def aNil : MA := fun _ => some []
def aCons (f : ME) (r : MA) : MA := fun ρ => (f ρ).bind fun x => (r ρ).map fun xs => x :: xs
def dats : List R → Option (List D)
  | [] => some []
  | .dat d :: r => (dats r).map fun ds => d :: ds
  | _ => none
def szOk (n : Nat) : Bool := okP (n ≤ 100000)
def mTup (a : MA) : ME := fun ρ => ((a ρ).bind dats).bind fun ds => if szOk ds.length = true then some (.dat (.tup ds)) else none
def mLst (a : MA) : ME := fun ρ => ((a ρ).bind dats).bind fun ds => if szOk ds.length = true then some (.new ds) else none
def mIxL (f1 f2 : ME) : ME := fun ρ => (asLst (f1 ρ)).bind fun xs => (asInt (f2 ρ)).bind fun i => (atI xs i).map .dat
def mIxT (f1 f2 : ME) : ME := fun ρ => (asTup (f1 ρ)).bind fun xs => (asInt (f2 ρ)).bind fun i => (atI xs i).map .dat
def mIxS (f1 f2 : ME) : ME := fun ρ => (asStr (f1 ρ)).bind fun z => (asInt (f2 ρ)).bind fun i => if szOk z.length = true then (atI z.cps.toList i).map fun c => .dat (.str ⟨#[c]⟩) else none
def mLenL (f : ME) : ME := fun ρ => (asLst (f ρ)).map fun xs => .dat (.int (xs.length : Int))
def mLenT (f : ME) : ME := fun ρ => (asTup (f ρ)).map fun xs => .dat (.int (xs.length : Int))
def mLenS (f : ME) : ME := fun ρ => (asStr (f ρ)).bind fun xs => if szOk xs.length = true then some (.dat (.int (xs.length : Int))) else none
def mCall (m : List R → Option R) (a : MA) : ME := fun ρ => (a ρ).bind fun rs => m (rs.map argN)
def mAbs (f : ME) : ME := fun ρ => (asInt (f ρ)).map fun i => .dat (.int (if i < 0 then -i else i))
def mMax2 (f g : ME) : ME := fun ρ => (asInt (f ρ)).bind fun i => (asInt (g ρ)).map fun j => .dat (.int (if j > i then j else i))
def mMin2 (f g : ME) : ME := fun ρ => (asInt (f ρ)).bind fun i => (asInt (g ρ)).map fun j => .dat (.int (if j < i then j else i))
def mIntB (f : ME) : ME := fun ρ => (asBl (f ρ)).map fun k => .dat (.int (if k then 1 else 0))
def mCatS (f g : ME) : ME := fun ρ => (asStr (f ρ)).bind fun i => (asStr (g ρ)).bind fun j => if szOk (i.length + j.length) = true then some (.dat (.str (i ++ j))) else none
def mCatT (f g : ME) : ME := fun ρ => (asTup (f ρ)).bind fun i => (asTup (g ρ)).bind fun j => if szOk (i.length + j.length) = true then some (.dat (.tup (i ++ j))) else none
def mCatL (f g : ME) : ME := fun ρ => (asTrk (f ρ)).bind fun i => (asTrk (g ρ)).bind fun j => if szOk (i.length + j.length) = true then some (.new (i ++ j)) else none
def mRepL (f g : ME) : ME := fun ρ => (asTrk (f ρ)).bind fun i => (asInt (g ρ)).bind fun k => if (okP (-(2 ^ 63) ≤ k ∧ k < 2 ^ 63) && szOk (i.length * k.toNat)) = true then some (.new (List.replicate k.toNat i).flatten) else none
def mRevL (f : ME) : ME := fun ρ => (asLst (f ρ)).map fun xs => .new xs.reverse
def cutD {α : Type} (xs : List α) (lo hi : Option Int) : List α := (xs.drop (HT.sIx xs.length 0 lo)).take (HT.sIx xs.length xs.length hi - HT.sIx xs.length 0 lo)
abbrev MO := Rho → Option (Option Int)
def oNone : MO := fun _ => some none
def oSome (f : ME) : MO := fun ρ => (asInt (f ρ)).map some
def mSlT (f : ME) (lo hi : MO) : ME := fun ρ => (asTup (f ρ)).bind fun xs => (lo ρ).bind fun l => (hi ρ).map fun u => .dat (.tup (cutD xs l u))
def mSlL (f : ME) (lo hi : MO) : ME := fun ρ => (asLst (f ρ)).bind fun xs => (lo ρ).bind fun l => (hi ρ).map fun u => .new (cutD xs l u)
def mInT (f : ME) (xs : List Str) : ME := fun ρ => (asStr (f ρ)).map fun z => .dat (.bl (xs.any fun y => decide (y = z)))
end
end Tl

namespace Tl
open PySem PySem.Spec PyProof.Rows L2 Evl
section
variable {X : Cx} {a b c : Expr} {pos : Pos} {f1 f2 f3 : ME} {es : List Expr}
theorem x_var (i : Nat) {x : Str} {pos : Pos} (hN : X.N[i]? = some x := by rfl) (hv : Vis X.env.scope x := by first | exact Or.inl rfl | exact Or.inr (Or.inl rfl) | exact Or.inr (Or.inr rfl)) (hd : (x == ("__debug__" : Str)) = false := by decide)
    (hcd : (x == ("__classdict__" : Str)) = false := by decide) : JE X (.Name x pos) (mVar i) := by
  refine ⟨_, pe_var hN hv hd hcd, fun H0 σ H ρ r ok h => ?_⟩
  obtain ⟨B, ok⟩ := ok
  unfold mVar at h
  split at h
  · rename_i d hd
    cases h
    obtain ⟨v, s, q⟩ := ok.slot i _ hd
    exact fun H1 e Q k => ⟨v, s, k v H1 (Ex.refl H1) (q.ex e)⟩
  · rename_i xs hd
    cases h
    obtain ⟨a, vs, s, _, l, q⟩ := ok.slot i _ hd
    exact fun H1 e Q k => ⟨_, s, k _ H1 (Ex.refl H1) ⟨a, vs, rfl, e _ _ l, q.ex e⟩⟩
  · rename_i xs hd
    cases h
    obtain ⟨a, vs, s, l, q⟩ := ok.slot i _ hd
    exact fun H1 e Q k => ⟨_, s, k _ H1 (Ex.refl H1) ⟨a, vs, rfl, ex_l (ok.e1.trans e) l, q.ex e⟩⟩
  · cases h
/-- a value that hangs on nothing -/
theorem x_const {v : V} {d : D} (h : PE X a (tC v)) (hd : ∀ H, Den X.K H v d) : JE X a (mC d) :=
  ⟨_, h, fun H0 σ H ρ r ok h => by cases h; exact fun H1 e Q k => k v H1 (Ex.refl H1) (hd H1)⟩
theorem x_int {i j pos} : JE X (.Constant (.int i) j pos) (mC (.int i)) := x_const pe_int fun _ => .int i
theorem x_bl {i j pos} : JE X (.Constant (.bool i) j pos) (mC (.bl i)) := x_const pe_bl fun _ => .bl i
theorem x_non {j pos} : JE X (.Constant .none j pos) (mC .non) := x_const pe_non fun _ => .non
theorem x_str {i j pos} : JE X (.Constant (.str i) j pos) (mC (.str i)) := x_const pe_str fun _ => .str i
/-- a module's constant -/
theorem x_glob {x : Str} {v : V} {d : D} {u : Value} (hg : Gl X x) (hm : X.mg x = some u) (r : RelV v u) (hd : ∀ H, Den X.K H v d) (hdb : (x == ("__debug__" : Str)) = false := by decide) : JE X (.Name x pos) (mC d) := x_const (pe_glob hg hm r hdb) hd
theorem EvR.int {K : PySem.W.Frag} {te : TE} {σ : L2.St} {H : Hp} {i : Int} (h : EvR K te σ H (.dat (.int i))) : Ev te σ H (.int i) := fun H1 e Q q => h H1 e Q fun v H2 e2 g => by
  have g : Den K H2 v (.int i) := g
  cases g
  exact q H2 e2
theorem EvR.str {K : PySem.W.Frag} {te : TE} {σ : L2.St} {H : Hp} {i : Str} (h : EvR K te σ H (.dat (.str i))) : Ev te σ H (.str i) := fun H1 e Q q => h H1 e Q fun v H2 e2 g => by
  have g : Den K H2 v (.str i) := g
  cases g
  exact q H2 e2
theorem EvR.bl {K : PySem.W.Frag} {te : TE} {σ : L2.St} {H : Hp} {i : Bool} (h : EvR K te σ H (.dat (.bl i))) : Ev te σ H (.bl i) := fun H1 e Q q => h H1 e Q fun v H2 e2 g => by
  have g : Den K H2 v (.bl i) := g
  cases g
  exact q H2 e2
theorem EvR.of {K : PySem.W.Frag} {te : TE} {σ : L2.St} {H : Hp} {v : V} {d : D} (h : Ev te σ H v) (hd : ∀ H, Den K H v d) : EvR K te σ H (.dat d) := fun H1 e Q q => h H1 e Q fun H2 e2 => q v H2 e2 (hd H2)
theorem EvR.tup {K : PySem.W.Frag} {te : TE} {σ : L2.St} {H : Hp} {ds : List D} (h : EvR K te σ H (.dat (.tup ds))) :
    ∀ H1, Ex H H1 → ∀ Q : VK, (∀ a vs H2, Ex H1 H2 → SqT K H2 a vs → DenL K H2 vs ds → Q (.ref a) H2) → te σ H1 Q := fun H1 e Q q => h H1 e Q fun v H2 e2 g => by
  have g : Den K H2 v (.tup ds) := g
  cases g with
  | tup h1 h2 => exact q _ _ H2 e2 h1 h2
theorem op0 {f : Value → Value → Sem Value} {g : Int → Int → V} (h : OpR X f (rI0 g)) : OpR X f (rI (fun _ _ => True) g) := fun pins s σ H x y v u Q I rx ry ⟨i, j, e1, e2, _, q⟩ => h pins s σ H x y v u Q I rx ry ⟨i, j, e1, e2, q⟩
theorem ev_II {ta tb : TE} {σ : L2.St} {H : Hp} {ρ : Rho} {r : R} {H0 : Hp} {C : Int → Int → Prop} {c : Int → Int → Bool} {g : Int → Int → V} {gd : Int → Int → D} (hc : ∀ i j, c i j = true → C i j) (hg : ∀ i j H, Den X.K H (g i j) (gd i j))
    (va : ∀ H0 σ H ρ r, Ok X H0 σ H ρ → f1 ρ = some r → EvR X.K ta σ H r) (vb : ∀ H0 σ H ρ r, Ok X H0 σ H ρ → f2 ρ = some r → EvR X.K tb σ H r) (ok : Ok X H0 σ H ρ) (h : mII c gd f1 f2 ρ = some r) : EvR X.K (tOp (rI C g) ta tb) σ H r := by
  unfold mII at h
  obtain ⟨i, hi, h⟩ := Option.bind_eq_some_iff.mp h
  obtain ⟨j, hj, h⟩ := Option.bind_eq_some_iff.mp h
  split at h
  · rename_i hcc
    cases h
    exact EvR.of (ev_op (va _ _ _ _ _ ok (asInt_some hi)).int (vb _ _ _ _ _ ok (asInt_some hj)).int (rv_I (hc _ _ hcc))) (hg i j)
  · cases h
theorem x_op {op : Operator} {C : Int → Int → Prop} {c : Int → Int → Bool} {g : Int → Int → V} {gd : Int → Int → D} (ho : OpR X (binaryOp op) (rI C g)) (hc : ∀ i j, c i j = true → C i j) (hg : ∀ i j H, Den X.K H (g i j) (gd i j)) (ha : JE X a f1) (hb : JE X b f2) :
    JE X (.BinOp a op b pos) (mII c gd f1 f2) := by
  obtain ⟨ta, pa, va⟩ := ha
  obtain ⟨tb, pb, vb⟩ := hb
  exact ⟨_, pe_op ho pa pb, fun H0 σ H ρ r ok h => ev_II hc hg va vb ok h⟩
theorem x_add (ha : JE X a f1) (hb : JE X b f2) : JE X (.BinOp a .Add b pos) (mAdd f1 f2) := x_op (op0 op_add) (fun _ _ _ => trivial) (fun _ _ _ => .int _) ha hb
theorem x_sub (ha : JE X a f1) (hb : JE X b f2) : JE X (.BinOp a .Sub b pos) (mSub f1 f2) := x_op (op0 op_sub) (fun _ _ _ => trivial) (fun _ _ _ => .int _) ha hb
theorem x_mul (ha : JE X a f1) (hb : JE X b f2) : JE X (.BinOp a .Mult b pos) (mMul f1 f2) := x_op op_mul (fun i j h => show CMul i j by unfold CMul; exact okP_of h) (fun _ _ _ => .int _) ha hb
theorem x_div (ha : JE X a f1) (hb : JE X b f2) : JE X (.BinOp a .FloorDiv b pos) (mDiv f1 f2) := x_op op_fdivW (fun i j h => show CDivW i j by unfold CDivW; exact okP_of h) (fun _ _ _ => .int _) ha hb
theorem x_mod (ha : JE X a f1) (hb : JE X b f2) : JE X (.BinOp a .Mod b pos) (mMod f1 f2) := x_op op_mod (fun _ _ h => okP_of h) (fun _ _ _ => .int _) ha hb
theorem x_pow (ha : JE X a f1) (hb : JE X b f2) : JE X (.BinOp a .Pow b pos) (mPow f1 f2) := x_op op_pow (fun i j h => show CPow i j by unfold CPow; exact okP_of h) (fun _ _ _ => .int _) ha hb
theorem x_neg (ha : JE X a f1) : JE X (.UnaryOp .USub a pos) (mNeg f1) := by
  obtain ⟨ta, pa, va⟩ := ha
  refine ⟨_, pe_un un_neg pa, fun H0 σ H ρ r ok h => ?_⟩
  unfold mNeg at h
  obtain ⟨i, hi, h⟩ := Option.bind_eq_some_iff.mp h
  cases h
  exact EvR.of (ev_un (va _ _ _ _ _ ok (asInt_some hi)).int ru_neg) fun _ => .int _
/-! comparisons of ints -/
theorem x_cmpI {op : CmpOp} {p : Int → Int → Prop} [∀ i j, Decidable (p i j)] (ho : OpR X (compareOp op) (rI0 fun i j => .bl (decide (p i j)))) (ha : JE X a f1) (hb : JE X b f2) (hm : behindInMarks op b = false) : JE X (.Compare a [op] [b] pos) (mII cT (fun i j => .bl (okP (p i j))) f1 f2) := by
  obtain ⟨ta, pa, va⟩ := ha
  obtain ⟨tb, pb, vb⟩ := hb
  exact ⟨_, pe_cmpR (op0 ho) pa pb hm, fun H0 σ H ρ r ok h => ev_II (fun _ _ _ => trivial) (fun _ _ _ => by rw [okP_eq]; exact .bl _) va vb ok h⟩
theorem ev_test {te : TE} {σ : L2.St} {H : Hp} {o : Option R} {k : Bool} (h : asBl o = some k) (hv : ∀ r, o = some r → EvR X.K te σ H r) : EvT (tTest te) σ H k := et_test (hv _ (asBl_some h)).bl
theorem t_cmpI {op : CmpOp} {p : Int → Int → Prop} [∀ i j, Decidable (p i j)] (ho : OpR X (compareOp op) (rI0 fun i j => .bl (decide (p i j)))) (ha : JE X a f1) (hb : JE X b f2) (hm : behindInMarks op b = false) : JT X (.Compare a [op] [b] pos) (mT (mII cT (fun i j => .bl (okP (p i j))) f1 f2)) := by
  obtain ⟨ta, pa, va⟩ := ha
  obtain ⟨tb, pb, vb⟩ := hb
  exact ⟨_, pt_cmpR (op0 ho) pa pb hm, fun H0 σ H ρ k ok h => ev_test h fun r hr => ev_II (fun _ _ _ => trivial) (fun _ _ _ => by rw [okP_eq]; exact .bl _) va vb ok hr⟩
theorem x_lt (ha : JE X a f1) (hb : JE X b f2) : JE X (.Compare a [.Lt] [b] pos) (mLt f1 f2) := x_cmpI (p := fun i j => i < j) op_lt ha hb (nomark _)
theorem x_le (ha : JE X a f1) (hb : JE X b f2) : JE X (.Compare a [.LtE] [b] pos) (mLe f1 f2) := x_cmpI (p := fun i j => i ≤ j) op_le ha hb (nomark _)
theorem x_gt (ha : JE X a f1) (hb : JE X b f2) : JE X (.Compare a [.Gt] [b] pos) (mGt f1 f2) := x_cmpI (p := fun i j => j < i) op_gt ha hb (nomark _)
theorem x_ge (ha : JE X a f1) (hb : JE X b f2) : JE X (.Compare a [.GtE] [b] pos) (mGe f1 f2) := x_cmpI (p := fun i j => j ≤ i) op_ge ha hb (nomark _)
theorem t_lt (ha : JE X a f1) (hb : JE X b f2) : JT X (.Compare a [.Lt] [b] pos) (mT (mLt f1 f2)) := t_cmpI (p := fun i j => i < j) op_lt ha hb (nomark _)
theorem t_le (ha : JE X a f1) (hb : JE X b f2) : JT X (.Compare a [.LtE] [b] pos) (mT (mLe f1 f2)) := t_cmpI (p := fun i j => i ≤ j) op_le ha hb (nomark _)
theorem t_gt (ha : JE X a f1) (hb : JE X b f2) : JT X (.Compare a [.Gt] [b] pos) (mT (mGt f1 f2)) := t_cmpI (p := fun i j => j < i) op_gt ha hb (nomark _)
theorem t_ge (ha : JE X a f1) (hb : JE X b f2) : JT X (.Compare a [.GtE] [b] pos) (mT (mGe f1 f2)) := t_cmpI (p := fun i j => j ≤ i) op_ge ha hb (nomark _)
/-! == of scalars -/
theorem eqS_of {K : PySem.W.Frag} {H H' : Hp} {v w : V} {d e : D} {k : Bool} (hv : Den K H v d) (hw : Den K H' w e) (h : eqS d e = some k) : scal v w = true ∧ decide (v = w) = k := by
  cases hv <;> cases hw <;> simp only [eqS, Option.some.injEq, reduceCtorEq] at h <;> subst h <;> refine ⟨rfl, ?_⟩ <;> first | (rw [← okP_eq]; simp) | simp
theorem ev_eqS {ta tb : TE} {σ : L2.St} {H : Hp} {ρ : Rho} {r : R} {H0 : Hp} (va : ∀ H0 σ H ρ r, Ok X H0 σ H ρ → f1 ρ = some r → EvR X.K ta σ H r) (vb : ∀ H0 σ H ρ r, Ok X H0 σ H ρ → f2 ρ = some r → EvR X.K tb σ H r) (ok : Ok X H0 σ H ρ)
    (h : mEqS f1 f2 ρ = some r) : EvR X.K (tOp rEq ta tb) σ H r := by
  unfold mEqS at h
  obtain ⟨d, hd, h⟩ := Option.bind_eq_some_iff.mp h
  obtain ⟨e, he, h⟩ := Option.bind_eq_some_iff.mp h
  obtain ⟨k, hk, h⟩ := Option.map_eq_some_iff.mp h
  subst h
  intro H1 e1 Q q
  refine va _ _ _ _ _ ok (asDat_some hd) H1 e1 _ fun v H2 e2 gv => ?_
  refine vb _ _ _ _ _ ok (asDat_some he) H2 (e1.trans e2) _ fun w H3 e3 gw => ?_
  obtain ⟨h1, h2⟩ := eqS_of gv gw hk
  refine ⟨h1, ?_⟩
  rw [h2]
  exact q _ H3 (e2.trans e3) (.bl k)
theorem ev_neS {ta tb : TE} {σ : L2.St} {H : Hp} {ρ : Rho} {r : R} {H0 : Hp} (va : ∀ H0 σ H ρ r, Ok X H0 σ H ρ → f1 ρ = some r → EvR X.K ta σ H r) (vb : ∀ H0 σ H ρ r, Ok X H0 σ H ρ → f2 ρ = some r → EvR X.K tb σ H r) (ok : Ok X H0 σ H ρ)
    (h : mNeS f1 f2 ρ = some r) : EvR X.K (tOp rNe ta tb) σ H r := by
  unfold mNeS at h
  obtain ⟨d, hd, h⟩ := Option.bind_eq_some_iff.mp h
  obtain ⟨e, he, h⟩ := Option.bind_eq_some_iff.mp h
  obtain ⟨k, hk, h⟩ := Option.map_eq_some_iff.mp h
  subst h
  intro H1 e1 Q q
  refine va _ _ _ _ _ ok (asDat_some hd) H1 e1 _ fun v H2 e2 gv => ?_
  refine vb _ _ _ _ _ ok (asDat_some he) H2 (e1.trans e2) _ fun w H3 e3 gw => ?_
  obtain ⟨h1, h2⟩ := eqS_of gv gw hk
  refine ⟨h1, ?_⟩
  rw [h2]
  exact q _ H3 (e2.trans e3) (.bl _)
theorem x_eqS (ha : JE X a f1) (hb : JE X b f2) : JE X (.Compare a [.Eq] [b] pos) (mEqS f1 f2) := by
  obtain ⟨ta, pa, va⟩ := ha
  obtain ⟨tb, pb, vb⟩ := hb
  exact ⟨_, pe_cmpR op_eq pa pb (nomark _), fun H0 σ H ρ r ok h => ev_eqS va vb ok h⟩
theorem t_eqS (ha : JE X a f1) (hb : JE X b f2) : JT X (.Compare a [.Eq] [b] pos) (mT (mEqS f1 f2)) := by
  obtain ⟨ta, pa, va⟩ := ha
  obtain ⟨tb, pb, vb⟩ := hb
  exact ⟨_, pt_cmpR op_eq pa pb (nomark _), fun H0 σ H ρ r ok h => ev_test h fun r hr => ev_eqS va vb ok hr⟩
theorem x_neS (ha : JE X a f1) (hb : JE X b f2) : JE X (.Compare a [.NotEq] [b] pos) (mNeS f1 f2) := by
  obtain ⟨ta, pa, va⟩ := ha
  obtain ⟨tb, pb, vb⟩ := hb
  exact ⟨_, pe_cmpR op_ne pa pb (nomark _), fun H0 σ H ρ r ok h => ev_neS va vb ok h⟩
theorem t_neS (ha : JE X a f1) (hb : JE X b f2) : JT X (.Compare a [.NotEq] [b] pos) (mT (mNeS f1 f2)) := by
  obtain ⟨ta, pa, va⟩ := ha
  obtain ⟨tb, pb, vb⟩ := hb
  exact ⟨_, pt_cmpR op_ne pa pb (nomark _), fun H0 σ H ρ r ok h => ev_test h fun r hr => ev_neS va vb ok hr⟩
/-! a op b op' c -/
theorem ev_chain {ta tb tc : TE} {σ : L2.St} {H : Hp} {ρ : Rho} {r : R} {H0 : Hp} {p q : Int → Int → Prop} [∀ i j, Decidable (p i j)] [∀ i j, Decidable (q i j)] (va : ∀ H0 σ H ρ r, Ok X H0 σ H ρ → f1 ρ = some r → EvR X.K ta σ H r) (vb : ∀ H0 σ H ρ r, Ok X H0 σ H ρ → f2 ρ = some r → EvR X.K tb σ H r)
    (vc : ∀ H0 σ H ρ r, Ok X H0 σ H ρ → f3 ρ = some r → EvR X.K tc σ H r) (ok : Ok X H0 σ H ρ)
    (h : mChain p q f1 f2 f3 ρ = some r) : EvR X.K (tChain (rI0 fun i j => .bl (decide (p i j))) (rI0 fun i j => .bl (decide (q i j))) ta tb tc) σ H r := by
  unfold mChain at h
  obtain ⟨i, hi, h⟩ := Option.bind_eq_some_iff.mp h
  obtain ⟨j, hj, h⟩ := Option.bind_eq_some_iff.mp h
  obtain ⟨k, hk, h⟩ := Option.bind_eq_some_iff.mp h
  cases h
  intro H1 e1 Q z
  refine (va _ _ _ _ _ ok (asInt_some hi)).int H1 e1 _ fun H2 e2 => ?_
  refine (vb _ _ _ _ _ ok (asInt_some hj)).int H2 (e1.trans e2) _ fun H3 e3 => ?_
  refine ⟨i, j, rfl, rfl, decide (p i j), rfl, ?_⟩
  rw [← okP_eq, ← okP_eq] at z
  cases hp : decide (p i j) with
  | false =>
    rw [hp] at z
    exact z _ H3 (e2.trans e3) (.bl _)
  | true =>
    rw [hp] at z
    show tc σ H3 _
    refine (vc _ _ _ _ _ ok (asInt_some hk)).int H3 ((e1.trans e2).trans e3) _ fun H4 e4 => ?_
    exact ⟨j, k, rfl, rfl, z _ H4 ((e2.trans e3).trans e4) (.bl _)⟩
theorem t_chain {op op' : CmpOp} {p q : Int → Int → Prop} [∀ i j, Decidable (p i j)] [∀ i j, Decidable (q i j)] (ho : OpR X (compareOp op) (rI0 fun i j => .bl (decide (p i j)))) (ho' : OpR X (compareOp op') (rI0 fun i j => .bl (decide (q i j)))) (ha : JE X a f1) (hb : JE X b f2) (hc : JE X c f3)
    (hm : lastMarks [op, op'] [b, c] = false := by with_unfolding_all rfl) : JT X (.Compare a [op, op'] [b, c] pos) (mT (mChain p q f1 f2 f3)) := by
  obtain ⟨ta, pa, va⟩ := ha
  obtain ⟨tb, pb, vb⟩ := hb
  obtain ⟨tc, pc, vc⟩ := hc
  exact ⟨_, pt_chain ho ho' pa pb pc hm, fun H0 σ H ρ r ok h => ev_test h fun r hr => ev_chain va vb vc ok hr⟩
theorem x_chain {op op' : CmpOp} {p q : Int → Int → Prop} [∀ i j, Decidable (p i j)] [∀ i j, Decidable (q i j)] (ho : OpR X (compareOp op) (rI0 fun i j => .bl (decide (p i j)))) (ho' : OpR X (compareOp op') (rI0 fun i j => .bl (decide (q i j)))) (ha : JE X a f1) (hb : JE X b f2) (hc : JE X c f3)
    (hm : lastMarks [op, op'] [b, c] = false := by with_unfolding_all rfl) : JE X (.Compare a [op, op'] [b, c] pos) (mChain p q f1 f2 f3) := by
  obtain ⟨ta, pa, va⟩ := ha
  obtain ⟨tb, pb, vb⟩ := hb
  obtain ⟨tc, pc, vc⟩ := hc
  exact ⟨_, pe_chain ho ho' pa pb pc hm, fun H0 σ H ρ r ok h => ev_chain va vb vc ok h⟩
/-! tests -/
variable {t u : MT} {rest : List Expr}
theorem w_pt (h : JW X a t) : JT X a t := by
  obtain ⟨tt, p, v⟩ := h
  exact ⟨tt, p.pt, v⟩
theorem w_and1 (ha : JT X a t) : JW X (.BoolOp .And [a] pos) t := by
  obtain ⟨tt, p, v⟩ := ha
  exact ⟨tt, pw_and1 p, v⟩
theorem w_or1 (ha : JT X a t) : JW X (.BoolOp .Or [a] pos) t := by
  obtain ⟨tt, p, v⟩ := ha
  exact ⟨tt, pw_or1 p, v⟩
theorem w_and (ha : JT X a t) (hb : JW X (.BoolOp .And (b :: rest) pos) u) : JW X (.BoolOp .And (a :: b :: rest) pos) (tAndM t u) := by
  obtain ⟨ta, pa, va⟩ := ha
  obtain ⟨tb, pb, vb⟩ := hb
  refine ⟨_, pw_and pa pb, fun H0 σ H ρ k ok h => ?_⟩
  unfold tAndM at h
  obtain ⟨i, hi, h⟩ := Option.bind_eq_some_iff.mp h
  intro H1 e1 Q q
  refine va _ _ _ _ _ ok hi H1 e1 _ fun H2 e2 => ?_
  cases i with
  | true => exact vb _ _ _ _ _ ok h H2 (e1.trans e2) _ fun H3 e3 => q H3 (e2.trans e3)
  | false => cases h; exact q H2 e2
theorem w_or (ha : JT X a t) (hb : JW X (.BoolOp .Or (b :: rest) pos) u) : JW X (.BoolOp .Or (a :: b :: rest) pos) (tOrM t u) := by
  obtain ⟨ta, pa, va⟩ := ha
  obtain ⟨tb, pb, vb⟩ := hb
  refine ⟨_, pw_or pa pb, fun H0 σ H ρ k ok h => ?_⟩
  unfold tOrM at h
  obtain ⟨i, hi, h⟩ := Option.bind_eq_some_iff.mp h
  intro H1 e1 Q q
  refine va _ _ _ _ _ ok hi H1 e1 _ fun H2 e2 => ?_
  cases i with
  | false => exact vb _ _ _ _ _ ok h H2 (e1.trans e2) _ fun H3 e3 => q H3 (e2.trans e3)
  | true => cases h; exact q H2 e2
theorem t_and (ha : JT X a t) (hb : JW X (.BoolOp .And (b :: rest) pos) u) : JT X (.BoolOp .And (a :: b :: rest) pos) (tAndM t u) := w_pt (w_and ha hb)
theorem t_or (ha : JT X a t) (hb : JW X (.BoolOp .Or (b :: rest) pos) u) : JT X (.BoolOp .Or (a :: b :: rest) pos) (tOrM t u) := w_pt (w_or ha hb)
theorem t_not (ha : JT X a t) : JT X (.UnaryOp .Not a pos) (tNotM t) := by
  obtain ⟨ta, pa, va⟩ := ha
  refine ⟨_, pt_not pa, fun H0 σ H ρ k ok h => ?_⟩
  unfold tNotM at h
  obtain ⟨i, hi, h⟩ := Option.map_eq_some_iff.mp h
  subst h
  exact et_not (va _ _ _ _ _ ok hi)
/-- a bool as a test -/
theorem t_val (ha : JE X a f1) (he : ∀ whole, isTrue a X.env whole = (do let v ← whole; standAt a.pos; holding [v] (truthy v)) := by intro _; rfl) : JT X a (mT f1) := by
  obtain ⟨ta, pa, va⟩ := ha
  exact ⟨_, pt_val pa he, fun H0 σ H ρ k ok h => et_B (va _ _ _ _ _ ok (asBl_some h)).bl⟩
theorem x_ifE (hc : JT X c t) (ha : JE X a f1) (hb : JE X b f2) : JE X (.IfExp c a b pos) (mIfE t f1 f2) := by
  obtain ⟨tc, pc, vc⟩ := hc
  obtain ⟨ta, pa, va⟩ := ha
  obtain ⟨tb, pb, vb⟩ := hb
  refine ⟨_, pe_ifExp pc pa pb, fun H0 σ H ρ r ok h => ?_⟩
  unfold mIfE at h
  obtain ⟨i, hi, h⟩ := Option.bind_eq_some_iff.mp h
  intro H1 e1 Q q
  refine vc _ _ _ _ _ ok hi H1 e1 _ fun H2 e2 => ?_
  cases i with
  | true => exact va _ _ _ _ _ ok h H2 (e1.trans e2) _ fun v H3 e3 g => q v H3 (e2.trans e3) (g.back e2)
  | false => exact vb _ _ _ _ _ ok h H2 (e1.trans e2) _ fun v H3 e3 g => q v H3 (e2.trans e3) (g.back e2)
theorem x_one {op} (ha : JE X a f1) : JE X (.BoolOp op [a] pos) f1 := by
  obtain ⟨ta, pa, va⟩ := ha
  exact ⟨_, pe_one pa, va⟩
theorem x_andV (ha : JE X a f1) (hb : JE X (.BoolOp .And (b :: rest) pos) f2) : JE X (.BoolOp .And (a :: b :: rest) pos) (mAndV f1 f2) := by
  obtain ⟨ta, pa, va⟩ := ha
  obtain ⟨tb, pb, vb⟩ := hb
  refine ⟨_, pe_and pa pb, fun H0 σ H ρ r ok h => ?_⟩
  unfold mAndV at h
  obtain ⟨i, hi, h⟩ := Option.bind_eq_some_iff.mp h
  intro H1 e1 Q q
  refine (va _ _ _ _ _ ok (asBl_some hi)).bl H1 e1 _ fun H2 e2 => ⟨i, rfl, ?_⟩
  cases i with
  | true =>
    obtain ⟨j, hj, h⟩ := Option.map_eq_some_iff.mp h
    subst h
    exact (vb _ _ _ _ _ ok (asBl_some hj)).bl H2 (e1.trans e2) _ fun H3 e3 => q _ H3 (e2.trans e3) (.bl j)
  | false => cases h; exact q _ H2 e2 (.bl false)
theorem x_orV (ha : JE X a f1) (hb : JE X (.BoolOp .Or (b :: rest) pos) f2) : JE X (.BoolOp .Or (a :: b :: rest) pos) (mOrV f1 f2) := by
  obtain ⟨ta, pa, va⟩ := ha
  obtain ⟨tb, pb, vb⟩ := hb
  refine ⟨_, pe_or pa pb, fun H0 σ H ρ r ok h => ?_⟩
  unfold mOrV at h
  obtain ⟨i, hi, h⟩ := Option.bind_eq_some_iff.mp h
  intro H1 e1 Q q
  refine (va _ _ _ _ _ ok (asBl_some hi)).bl H1 e1 _ fun H2 e2 => ⟨i, rfl, ?_⟩
  cases i with
  | false =>
    obtain ⟨j, hj, h⟩ := Option.map_eq_some_iff.mp h
    subst h
    exact (vb _ _ _ _ _ ok (asBl_some hj)).bl H2 (e1.trans e2) _ fun H3 e3 => q _ H3 (e2.trans e3) (.bl j)
  | true => cases h; exact q _ H2 e2 (.bl true)
theorem x_notV (ha : JE X a f1) : JE X (.UnaryOp .Not a pos) (mNotV f1) := by
  obtain ⟨ta, pa, va⟩ := ha
  refine ⟨_, pe_not pa, fun H0 σ H ρ r ok h => ?_⟩
  unfold mNotV at h
  obtain ⟨i, hi, h⟩ := Option.map_eq_some_iff.mp h
  subst h
  intro H1 e1 Q q
  exact (va _ _ _ _ _ ok (asBl_some hi)).bl H1 e1 _ fun H2 e2 => ⟨i, rfl, q _ H2 e2 (.bl _)⟩
/-! arguments, displays -/
variable {ma : MA}
theorem a_nil : JA X [] aNil := ⟨_, pa_nil, fun H0 σ H ρ rs ok h => by cases h; exact fun H1 e Q q => q [] H1 (Ex.refl H1) .nil⟩
theorem a_cons (ha : JE X a f1) (hr : JA X es ma) (hs : starEach (a :: es) X.env = (false, eval a X.env) :: starEach es X.env := by rfl) : JA X (a :: es) (aCons f1 ma) := by
  obtain ⟨ta, pa, va⟩ := ha
  obtain ⟨tb, pb, vb⟩ := hr
  refine ⟨_, pa_cons pa pb hs, fun H0 σ H ρ rs ok h => ?_⟩
  unfold aCons at h
  obtain ⟨i, hi, h⟩ := Option.bind_eq_some_iff.mp h
  obtain ⟨j, hj, h⟩ := Option.map_eq_some_iff.mp h
  subst h
  intro H1 e1 Q q
  refine va _ _ _ _ _ ok hi H1 e1 _ fun v H2 e2 g => ?_
  exact vb _ _ _ _ _ ok hj H2 (e1.trans e2) _ fun vs H3 e3 gs => q _ H3 (e2.trans e3) (.cons (g.arg.ex e3) gs)
theorem dats_of {K : PySem.W.Frag} {H : Hp} : ∀ {rs : List R} {vs : List V} {ds : List D}, dats rs = some ds → ArgL K H vs rs → DenL K H vs ds
  | [], _, _, h, .nil => by cases h; exact .nil
  | .dat d :: r, _, _, h, .cons h1 h2 => by
    obtain ⟨j, hj, h⟩ := Option.map_eq_some_iff.mp h
    subst h
    exact .cons h1 (dats_of hj h2)
  | .lst _ :: _, _, _, h, _ => by cases h
  | .new _ :: _, _, _, h, _ => by cases h
  | .ro _ :: _, _, _, h, _ => by cases h
theorem szOk_of {n : Nat} (h : szOk n = true) : n ≤ sizeLine := sz_of (okP_of h)
theorem x_tup {x1} (h : JA X es ma) : JE X (.Tuple es x1 pos) (mTup ma) := by
  obtain ⟨ta, pa, va⟩ := h
  refine ⟨_, pe_tup pa, fun H0 σ H ρ r ok h => ?_⟩
  unfold mTup at h
  obtain ⟨i, hi, h⟩ := Option.bind_eq_some_iff.mp h
  obtain ⟨j, hj, hi⟩ := Option.bind_eq_some_iff.mp hi
  split at h
  · rename_i hz
    cases h
    intro H1 e1 Q q
    refine va _ _ _ _ _ ok hj H1 e1 _ fun vs H2 e2 g => ?_
    have gd := dats_of hi g
    refine ⟨by rw [gd.length]; exact szOk_of hz, fun p np => q _ _ (e2.trans (Ex.new np)) (.tup (st_of upd_same) (gd.ex (Ex.new np)))⟩
  · cases h
theorem x_lst (h : JA X es ma) : JE X (.List es pos) (mLst ma) := by
  obtain ⟨ta, pa, va⟩ := h
  refine ⟨_, pe_lst pa, fun H0 σ H ρ r ok h => ?_⟩
  unfold mLst at h
  obtain ⟨i, hi, h⟩ := Option.bind_eq_some_iff.mp h
  obtain ⟨j, hj, hi⟩ := Option.bind_eq_some_iff.mp hi
  split at h
  · rename_i hz
    cases h
    intro H1 e1 Q q
    refine va _ _ _ _ _ ok hj H1 e1 _ fun vs H2 e2 g => ?_
    have gd := dats_of hi g
    refine ⟨by rw [gd.length]; exact szOk_of hz, fun p np => q _ _ (e2.trans (Ex.new np)) ⟨p, vs, rfl, fresh_back e2 np, upd_same, gd.ex (Ex.new np)⟩⟩
  · cases h
/-! subscripts -/
theorem atI_den {K : PySem.W.Frag} {H : Hp} {vs : List V} {ds : List D} {i : Int} {d : D} (h : DenL K H vs ds) (ha : atI ds i = some d) : ∃ v, atI vs i = some v ∧ Den K H v d := by
  unfold atI at ha ⊢
  rw [h.length]
  obtain ⟨j, hj, ha⟩ := Option.bind_eq_some_iff.mp ha
  obtain ⟨v, h1, h2⟩ := h.get ha
  exact ⟨v, by rw [hj]; exact h1, h2⟩
theorem x_ixL (ha : JE X a f1) (hb : JE X b f2) (hs : PlainIx b := by exact fun _ _ => rfl) : JE X (.Subscript a b pos) (mIxL f1 f2) := by
  obtain ⟨ta, pa, va⟩ := ha
  obtain ⟨tb, pb, vb⟩ := hb
  refine ⟨_, pe_ix ix_list pa pb hs, fun H0 σ H ρ r ok h => ?_⟩
  unfold mIxL at h
  obtain ⟨xs, hx, h⟩ := Option.bind_eq_some_iff.mp h
  obtain ⟨i, hi, h⟩ := Option.bind_eq_some_iff.mp h
  obtain ⟨d, hd, h⟩ := Option.map_eq_some_iff.mp h
  subst h
  intro H1 e1 Q q
  refine ev_lst hx (fun r hr => va _ _ _ _ _ ok hr) H1 e1 _ fun v H2 e2 ⟨p, vs, hv, hl, hdn⟩ => ?_
  subst hv
  refine (vb _ _ _ _ _ ok (asInt_some hi)).int H2 (e1.trans e2) _ fun H3 e3 => ?_
  obtain ⟨w, h1, h2⟩ := atI_den (hdn.ex e3) hd
  exact ⟨p, vs, i, w, rfl, rfl, ex_l e3 hl, h1, q w H3 (e2.trans e3) h2⟩
theorem x_ixT (ha : JE X a f1) (hb : JE X b f2) (hs : PlainIx b := by exact fun _ _ => rfl) : JE X (.Subscript a b pos) (mIxT f1 f2) := by
  obtain ⟨ta, pa, va⟩ := ha
  obtain ⟨tb, pb, vb⟩ := hb
  refine ⟨_, pe_ix ix_tup pa pb hs, fun H0 σ H ρ r ok h => ?_⟩
  unfold mIxT at h
  obtain ⟨xs, hx, h⟩ := Option.bind_eq_some_iff.mp h
  obtain ⟨i, hi, h⟩ := Option.bind_eq_some_iff.mp h
  obtain ⟨d, hd, h⟩ := Option.map_eq_some_iff.mp h
  subst h
  intro H1 e1 Q q
  refine (va _ _ _ _ _ ok (asTup_some hx)).tup H1 e1 _ fun p vs H2 e2 hl hdn => ?_
  refine (vb _ _ _ _ _ ok (asInt_some hi)).int H2 (e1.trans e2) _ fun H3 e3 => ?_
  obtain ⟨w, h1, h2⟩ := atI_den (hdn.ex e3) hd
  exact ⟨p, vs, i, w, rfl, rfl, ex_t e3 hl, h1, q w H3 (e2.trans e3) h2⟩
theorem x_ixS (ha : JE X a f1) (hb : JE X b f2) (hs : PlainIx b := by exact fun _ _ => rfl) : JE X (.Subscript a b pos) (mIxS f1 f2) := by
  obtain ⟨ta, pa, va⟩ := ha
  obtain ⟨tb, pb, vb⟩ := hb
  refine ⟨_, pe_ix ix_str pa pb hs, fun H0 σ H ρ r ok h => ?_⟩
  unfold mIxS at h
  obtain ⟨xs, hx, h⟩ := Option.bind_eq_some_iff.mp h
  obtain ⟨i, hi, h⟩ := Option.bind_eq_some_iff.mp h
  split at h
  · rename_i hz
    obtain ⟨d, hd, h⟩ := Option.map_eq_some_iff.mp h
    subst h
    exact EvR.of (ev_op (va _ _ _ _ _ ok (asStr_some hx)).str (vb _ _ _ _ _ ok (asInt_some hi)).int (rv_ixS (okP_of hz) hd)) fun _ => .str _
  · cases h
/-! slices -/
variable {lo hi : Option Expr} {ml mh : MO}
def JO (X : Cx) (e : Option Expr) (m : MO) : Prop := ∃ to, PO X e to ∧ ∀ H0 σ H ρ o, Ok X H0 σ H ρ → m ρ = some o → EvO to σ H o
theorem o_none : JO X none oNone := ⟨_, po_none, fun H0 σ H ρ o ok h => by cases h; exact eo_none⟩
theorem o_some (ha : JE X a f1) : JO X (some a) (oSome f1) := by
  obtain ⟨ta, pa, va⟩ := ha
  refine ⟨_, po_some pa, fun H0 σ H ρ o ok h => ?_⟩
  unfold oSome at h
  obtain ⟨i, hi, h⟩ := Option.map_eq_some_iff.mp h
  subst h
  exact eo_some (va _ _ _ _ _ ok (asInt_some hi)).int
theorem cut_den {K : PySem.W.Frag} {H : Hp} {vs : List V} {ds : List D} (h : DenL K H vs ds) (l u : Option Int) : DenL K H (cutV vs l u) (cutD ds l u) := by
  unfold cutV cutD
  rw [h.length]
  exact (h.drop _).take _
theorem x_slL (ha : JE X a f1) (hl : JO X lo ml) (hh : JO X hi mh) {p2 : Pos} : JE X (.Subscript a (.Slice lo hi none p2) pos) (mSlL f1 ml mh) := by
  obtain ⟨ta, pa, va⟩ := ha
  obtain ⟨tl, pl, vl⟩ := hl
  obtain ⟨th, ph, vh⟩ := hh
  refine ⟨_, pe_slice sl_list pa pl ph, fun H0 σ H ρ r ok h => ?_⟩
  unfold mSlL at h
  obtain ⟨xs, hx, h⟩ := Option.bind_eq_some_iff.mp h
  obtain ⟨l, hl, h⟩ := Option.bind_eq_some_iff.mp h
  obtain ⟨u, hu, h⟩ := Option.map_eq_some_iff.mp h
  subst h
  intro H1 e1 Q q
  refine ev_lst hx (fun r hr => va _ _ _ _ _ ok hr) H1 e1 _ fun v H2 e2 ⟨p, vs, hv, hl', hdn⟩ => ?_
  subst hv
  refine vl _ _ _ _ _ ok hl H2 (e1.trans e2) _ fun H3 e3 => ?_
  refine vh _ _ _ _ _ ok hu H3 ((e1.trans e2).trans e3) _ fun H4 e4 => ?_
  exact ⟨p, vs, rfl, ex_l (e3.trans e4) hl', fun z nz => q _ _ (((e2.trans e3).trans e4).trans (Ex.new nz)) ⟨z, _, rfl, fresh_back ((e2.trans e3).trans e4) nz, upd_same, cut_den ((hdn.ex (e3.trans e4)).ex (Ex.new nz)) _ _⟩⟩
theorem x_revL {k : Nat} {p1 p2 p3 : Pos} (ha : JE X a f1) : JE X (.Subscript a (.Slice none none (some (.UnaryOp .USub (.Constant (.int 1) k p1) p2)) p3) pos) (mRevL f1) := by
  obtain ⟨ta, pa, va⟩ := ha
  refine ⟨_, pe_revL pa, fun H0 σ H ρ r ok h => ?_⟩
  unfold mRevL at h
  obtain ⟨xs, hx, h⟩ := Option.map_eq_some_iff.mp h
  subst h
  intro H1 e1 Q q
  refine ev_lst hx (fun r hr => va _ _ _ _ _ ok hr) H1 e1 _ fun v H2 e2 ⟨p, vs, hv, hl', hdn⟩ => ?_
  subst hv
  exact ⟨p, vs, rfl, hl', fun z nz => q _ _ (e2.trans (Ex.new nz)) ⟨z, _, rfl, fresh_back e2 nz, upd_same, (hdn.ex (Ex.new nz)).reverse⟩⟩
end
end Tl

namespace Tl
open PySem PySem.Spec PyProof.Rows L2 Evl
noncomputable section
/-! ### calls -/
def RetP (K : PySem.W.Frag) (H : Hp) (Q : VK) (r : R) : Prop := ∀ v H', Ex H H' → Got K H v H' r → Q v H'
abbrev Mir := List R → Option R
/-- the promise of a def that is the function m -/
def spM (K : PySem.W.Frag) (m : Mir) : Sp := fun vs H Q _ => ∃ rs r, ArgL K H vs rs ∧ m rs = some r ∧ RetP K H Q r
section
variable {X : Cx} {a b c : Expr} {pos : Pos} {f1 f2 f3 : ME} {es : List Expr} {ma : MA}
theorem x_callW {CX : CXT} {x : Str} {p : Pos} {k : Nat} {f : Addr} {fd : FuncData} {ps : List Str} {m : Mir} {E : XK} {sp : Sp} (F : FnOk X.prog X.w X.K X.mg X.base CX k f fd ps sp) (hsp : ∀ vs H Q, spM X.K m vs H Q E → sp vs H Q E) (hr : Room k X.A) (hg : Gl X x) (hm : X.mg x = some (.ref f)) (hk : PySem.W.keepIn X.K (.ref f) = true) (hb : Binds X.K fd ps []) (hx : Passes CX X E)
    (ha : JA X (a :: es) ma) (hdb : (x == ("__debug__" : Str)) = false := by decide)
    (he : starEach (a :: es) X.env = (false, eval a X.env) :: starEach es X.env := by rfl) (hpl : (backTo pos (starEach es X.env)).any (·.1) = false := by rfl) : JE X (.Call (.Name x p) (a :: es) [] pos) (mCall m ma) := by
  obtain ⟨ta, pa, va⟩ := ha
  refine ⟨_, pe_call F hr hg hm hk hb .nil hx pa hdb he hpl, fun H0 σ H ρ r ok h => ?_⟩
  unfold mCall at h
  obtain ⟨rs, hrs, h⟩ := Option.bind_eq_some_iff.mp h
  intro H1 e1 Q q
  refine va _ _ _ _ _ ok hrs H1 e1 _ fun vs H2 e2 g => ?_
  refine hsp _ _ _ ?_
  rw [List.append_nil]
  exact ⟨rs.map argN, r, g.norm, h, fun v H' e' gv => q v H' (e2.trans e') (gv.back e2)⟩
theorem x_call {x : Str} {p : Pos} {k : Nat} {f : Addr} {fd : FuncData} {ps : List Str} {m : Mir} (F : FnOk X.prog X.w X.K X.mg X.base CX0 k f fd ps (spM X.K m)) (hr : Room k X.A) (hm : X.mg x = some (.ref f)) (hk : PySem.W.keepIn X.K (.ref f) = true) (hb : Binds X.K fd ps [])
    (ha : JA X (a :: es) ma) (hg : Gl X x := by rfl) (hdb : (x == ("__debug__" : Str)) = false := by decide)
    (he : starEach (a :: es) X.env = (false, eval a X.env) :: starEach es X.env := by rfl) (hpl : (backTo pos (starEach es X.env)).any (·.1) = false := by rfl) : JE X (.Call (.Name x p) (a :: es) [] pos) (mCall m ma) :=
  x_callW F (fun _ _ _ h => h) hr hg hm hk hb pass0 ha hdb he hpl
/-! ### built-ins -/
theorem x_blt {x : Str} {p : Pos} {id : String} {r : List V → Hp → VK → Prop} {g : List R → Option R} (hc : CallR X (.builtin id) r) (hg : Gl X x) (hm : X.mg x = none) (hv : bootBuiltins x = some (.builtin id))
    (hr : ∀ rs vs H q Q, g rs = some q → ArgL X.K H vs rs → (∀ v H2, Ex H H2 → Got X.K H v H2 q → Q v H2) → r vs H Q) (ha : JA X (a :: es) ma) (hn : x ≠ "__name__" := by decide) (hdb : (x == ("__debug__" : Str)) = false := by decide)
    (he : starEach (a :: es) X.env = (false, eval a X.env) :: starEach es X.env := by rfl) (hpl : (backTo pos (starEach es X.env)).any (·.1) = false := by rfl) : JE X (.Call (.Name x p) (a :: es) [] pos) (fun ρ => (ma ρ).bind g) := by
  obtain ⟨ta, pa, va⟩ := ha
  refine ⟨_, pe_callB hc hg hm hv pa hn hdb he hpl, fun H0 σ H ρ q ok h => ?_⟩
  obtain ⟨rs, hrs, h⟩ := Option.bind_eq_some_iff.mp h
  intro H1 e1 Q k
  refine va _ _ _ _ _ ok hrs H1 e1 _ fun vs H2 e2 gs => ?_
  exact hr rs vs H2 q Q h gs fun v H3 e3 gv => k v H3 (e2.trans e3) (gv.back e2)
theorem x_bltT {x : Str} {p : Pos} {id : String} {r : List V → Hp → VK → Prop} {g : List R → Option R} (hc : CallR X (.type id) r) (hg : Gl X x) (hm : X.mg x = none) (hv : bootBuiltins x = some (.type id))
    (hr : ∀ rs vs H q Q, g rs = some q → ArgL X.K H vs rs → (∀ v H2, Ex H H2 → Got X.K H v H2 q → Q v H2) → r vs H Q) (ha : JA X (a :: es) ma) (hn : x ≠ "__name__" := by decide) (hdb : (x == ("__debug__" : Str)) = false := by decide)
    (he : starEach (a :: es) X.env = (false, eval a X.env) :: starEach es X.env := by rfl) (hpl : (backTo pos (starEach es X.env)).any (·.1) = false := by rfl) : JE X (.Call (.Name x p) (a :: es) [] pos) (fun ρ => (ma ρ).bind g) := by
  obtain ⟨ta, pa, va⟩ := ha
  refine ⟨_, pe_callTy hc hg hm hv pa hn hdb he hpl, fun H0 σ H ρ q ok h => ?_⟩
  obtain ⟨rs, hrs, h⟩ := Option.bind_eq_some_iff.mp h
  intro H1 e1 Q k
  refine va _ _ _ _ _ ok hrs H1 e1 _ fun vs H2 e2 gs => ?_
  exact hr rs vs H2 q Q h gs fun v H3 e3 gv => k v H3 (e2.trans e3) (gv.back e2)
def gLen : List R → Option R
  | [.dat (.str x)] => if szOk x.length = true then some (.dat (.int x.length)) else none
  | [.dat (.tup x)] => some (.dat (.int x.length))
  | [.lst x] => some (.dat (.int x.length))
  | [.new x] => some (.dat (.int x.length))
  | [.ro x] => some (.dat (.int x.length))
  | _ => none
def mLen (f : ME) : ME := fun ρ => (aCons f aNil ρ).bind gLen
theorem x_len {p : Pos} (hm : X.mg "len" = none) (ha : JE X a f1) (hg : Gl X "len" := by rfl) (hs : starEach (a :: []) X.env = (false, eval a X.env) :: starEach [] X.env := by rfl) : JE X (.Call (.Name "len" p) [a] [] pos) (mLen f1) := by
  refine x_blt call_len hg hm PySem.boot_len (g := gLen) (fun rs vs H q Q h g k => ?_) (a_cons ha a_nil hs) (he := hs)
  unfold gLen at h
  split at h
  · split at h
    · rename_i x hz
      cases h
      cases g with
      | cons g1 g2 =>
        cases g2
        have g1 : Den X.K H _ (.str x) := g1
        cases g1
        exact ⟨_, x.length, rfl, ⟨szOk_of hz, rfl⟩, k _ H (Ex.refl H) (.int _)⟩
    · cases h
  · rename_i x
    cases h
    cases g with
    | cons g1 g2 =>
      cases g2
      have g1 : Den X.K H _ (.tup x) := g1
      cases g1 with
      | tup h1 h2 => exact ⟨_, x.length, rfl, .inr ⟨_, h1, h2.length.symm⟩, k _ H (Ex.refl H) (.int _)⟩
  · rename_i x
    cases h
    cases g with
    | cons g1 g2 =>
      cases g2
      obtain ⟨p, vs, rfl, h1, h2⟩ := g1
      exact ⟨_, x.length, rfl, .inl ⟨_, sq_of h1, h2.length.symm⟩, k _ H (Ex.refl H) (.int _)⟩
  · rename_i x
    cases h
    cases g with
    | cons g1 g2 =>
      cases g2
      obtain ⟨p, vs, rfl, h1, h2⟩ := g1
      exact ⟨_, x.length, rfl, .inl ⟨_, sq_of h1, h2.length.symm⟩, k _ H (Ex.refl H) (.int _)⟩
  · rename_i x
    cases h
    cases g with
    | cons g1 g2 =>
      cases g2
      obtain ⟨p, vs, rfl, h1, h2⟩ := g1
      exact ⟨_, x.length, rfl, .inl ⟨_, h1, h2.length.symm⟩, k _ H (Ex.refl H) (.int _)⟩
  · cases h
def gAbs : List R → Option R
  | [.dat (.int i)] => some (.dat (.int (if i < 0 then -i else i)))
  | _ => none
def mAbs' (f : ME) : ME := fun ρ => (aCons f aNil ρ).bind gAbs
theorem x_abs {p : Pos} (hm : X.mg "abs" = none) (ha : JE X a f1) (hg : Gl X "abs" := by rfl) (hs : starEach (a :: []) X.env = (false, eval a X.env) :: starEach [] X.env := by rfl) : JE X (.Call (.Name "abs" p) [a] [] pos) (mAbs' f1) := by
  refine x_blt call_abs hg hm (by decide +kernel) (g := gAbs) (fun rs vs H q Q h g k => ?_) (a_cons ha a_nil hs) (he := hs)
  unfold gAbs at h
  split at h
  · rename_i i
    cases h
    cases g with
    | cons g1 g2 =>
      cases g2
      have g1 : Den X.K H _ (.int i) := g1
      cases g1
      exact ⟨i, rfl, k _ H (Ex.refl H) (.int _)⟩
  · cases h
def gMax2 : List R → Option R
  | [.dat (.int i), .dat (.int j)] => some (.dat (.int (if j > i then j else i)))
  | _ => none
def gMin2 : List R → Option R
  | [.dat (.int i), .dat (.int j)] => some (.dat (.int (if j < i then j else i)))
  | _ => none
def mMax' (f g : ME) : ME := fun ρ => (aCons f (aCons g aNil) ρ).bind gMax2
def mMin' (f g : ME) : ME := fun ρ => (aCons f (aCons g aNil) ρ).bind gMin2
theorem x_max {p : Pos} (hc : X.calm = true) (hm : X.mg "max" = none) (ha : JE X a f1) (hb : JE X b f2) (hg : Gl X "max" := by rfl) (hs : starEach (a :: [b]) X.env = (false, eval a X.env) :: starEach [b] X.env := by rfl) (hs2 : starEach (b :: []) X.env = (false, eval b X.env) :: starEach [] X.env := by rfl)
    (hpl : (backTo pos (starEach [b] X.env)).any (·.1) = false := by rfl) : JE X (.Call (.Name "max" p) [a, b] [] pos) (mMax' f1 f2) := by
  refine x_blt (call_max2 hc) hg hm (by decide +kernel) (g := gMax2) (fun rs vs H q Q h g k => ?_) (a_cons ha (a_cons hb a_nil hs2) hs) (he := hs) (hpl := hpl)
  unfold gMax2 at h
  split at h
  · rename_i i j
    cases h
    cases g with
    | cons g1 g2 =>
      cases g2 with
      | cons g2 g3 =>
        cases g3
        have g1 : Den X.K H _ (.int i) := g1
        have g2 : Den X.K H _ (.int j) := g2
        cases g1
        cases g2
        exact ⟨i, j, rfl, k _ H (Ex.refl H) (.int _)⟩
  · cases h
theorem x_min {p : Pos} (hc : X.calm = true) (hm : X.mg "min" = none) (ha : JE X a f1) (hb : JE X b f2) (hg : Gl X "min" := by rfl) (hs : starEach (a :: [b]) X.env = (false, eval a X.env) :: starEach [b] X.env := by rfl) (hs2 : starEach (b :: []) X.env = (false, eval b X.env) :: starEach [] X.env := by rfl)
    (hpl : (backTo pos (starEach [b] X.env)).any (·.1) = false := by rfl) : JE X (.Call (.Name "min" p) [a, b] [] pos) (mMin' f1 f2) := by
  refine x_blt (call_min2 hc) hg hm (by decide +kernel) (g := gMin2) (fun rs vs H q Q h g k => ?_) (a_cons ha (a_cons hb a_nil hs2) hs) (he := hs) (hpl := hpl)
  unfold gMin2 at h
  split at h
  · rename_i i j
    cases h
    cases g with
    | cons g1 g2 =>
      cases g2 with
      | cons g2 g3 =>
        cases g3
        have g1 : Den X.K H _ (.int i) := g1
        have g2 : Den X.K H _ (.int j) := g2
        cases g1
        cases g2
        exact ⟨i, j, rfl, k _ H (Ex.refl H) (.int _)⟩
  · cases h
/-! ### + of tuples, lists, texts; * of lists -/
theorem x_catS (ha : JE X a f1) (hb : JE X b f2) : JE X (.BinOp a .Add b pos) (mCatS f1 f2) := by
  obtain ⟨ta, pa, va⟩ := ha
  obtain ⟨tb, pb, vb⟩ := hb
  refine ⟨_, pe_op op_add_str pa pb, fun H0 σ H ρ r ok h => ?_⟩
  unfold mCatS at h
  obtain ⟨i, hi, h⟩ := Option.bind_eq_some_iff.mp h
  obtain ⟨j, hj, h⟩ := Option.bind_eq_some_iff.mp h
  split at h
  · rename_i hz
    cases h
    exact EvR.of (ev_op (va _ _ _ _ _ ok (asStr_some hi)).str (vb _ _ _ _ _ ok (asStr_some hj)).str (rv_val fun H1 _ Q q => ⟨i, j, rfl, rfl, szOk_of hz, q⟩)) fun _ => .str _
  · cases h
theorem x_catT (ha : JE X a f1) (hb : JE X b f2) : JE X (.BinOp a .Add b pos) (mCatT f1 f2) := by
  obtain ⟨ta, pa, va⟩ := ha
  obtain ⟨tb, pb, vb⟩ := hb
  refine ⟨_, pe_op op_catA pa pb, fun H0 σ H ρ r ok h => ?_⟩
  unfold mCatT at h
  obtain ⟨i, hi, h⟩ := Option.bind_eq_some_iff.mp h
  obtain ⟨j, hj, h⟩ := Option.bind_eq_some_iff.mp h
  split at h
  · rename_i hz
    cases h
    intro H1 e1 Q q
    refine (va _ _ _ _ _ ok (asTup_some hi)).tup H1 e1 _ fun p vs H2 e2 hl hdn => ?_
    refine (vb _ _ _ _ _ ok (asTup_some hj)).tup H2 (e1.trans e2) _ fun p2 ws H3 e3 hl2 hdn2 => ?_
    have hd := (hdn.ex e3).append hdn2
    refine ⟨p, p2, vs, ws, rfl, rfl, ex_t e3 hl, hl2, by rw [hdn.length, hdn2.length]; exact szOk_of hz, ?_⟩
    refine ⟨fun z => ?_, fun _ z => ?_, fun _ _ p np => q _ _ ((e2.trans e3).trans (Ex.new np)) (.tup (st_of upd_same) (hd.ex (Ex.new np)))⟩
    · subst z
      exact q _ _ (e2.trans e3) (.tup hl2 hd)
    · subst z
      rw [List.append_nil] at hd
      exact q _ _ (e2.trans e3) (.tup (ex_t e3 hl) hd)
  · cases h
theorem x_catL (ha : JE X a f1) (hb : JE X b f2) : JE X (.BinOp a .Add b pos) (mCatL f1 f2) := by
  obtain ⟨ta, pa, va⟩ := ha
  obtain ⟨tb, pb, vb⟩ := hb
  refine ⟨_, pe_op op_cat pa pb, fun H0 σ H ρ r ok h => ?_⟩
  unfold mCatL at h
  obtain ⟨i, hi, h⟩ := Option.bind_eq_some_iff.mp h
  obtain ⟨j, hj, h⟩ := Option.bind_eq_some_iff.mp h
  split at h
  · rename_i hz
    cases h
    intro H1 e1 Q q
    refine ev_trk hi (fun r hr => va _ _ _ _ _ ok hr) H1 e1 _ fun v H2 e2 ⟨p, vs, hv, hl, hdn⟩ => ?_
    subst hv
    refine ev_trk hj (fun r hr => vb _ _ _ _ _ ok hr) H2 (e1.trans e2) _ fun v H3 e3 ⟨p2, ws, hv, hl2, hdn2⟩ => ?_
    subst hv
    have hd := (hdn.ex e3).append hdn2
    exact ⟨p, p2, vs, ws, rfl, rfl, e3 _ _ hl, hl2, by rw [hdn.length, hdn2.length]; exact szOk_of hz, fun z nz => q _ _ ((e2.trans e3).trans (Ex.new nz)) ⟨z, _, rfl, fresh_back (e2.trans e3) nz, upd_same, hd.ex (Ex.new nz)⟩⟩
  · cases h
theorem x_repL (ha : JE X a f1) (hb : JE X b f2) : JE X (.BinOp a .Mult b pos) (mRepL f1 f2) := by
  obtain ⟨ta, pa, va⟩ := ha
  obtain ⟨tb, pb, vb⟩ := hb
  refine ⟨_, pe_op op_rep pa pb, fun H0 σ H ρ r ok h => ?_⟩
  unfold mRepL at h
  obtain ⟨i, hi, h⟩ := Option.bind_eq_some_iff.mp h
  obtain ⟨j, hj, h⟩ := Option.bind_eq_some_iff.mp h
  split at h
  · rename_i hz
    rw [Bool.and_eq_true] at hz
    obtain ⟨hz1, hz2⟩ := hz
    have hz1 := okP_of hz1
    cases h
    intro H1 e1 Q q
    refine ev_trk hi (fun r hr => va _ _ _ _ _ ok hr) H1 e1 _ fun v H2 e2 ⟨p, vs, hv, hl, hdn⟩ => ?_
    subst hv
    refine (vb _ _ _ _ _ ok (asInt_some hj)).int H2 (e1.trans e2) _ fun H3 e3 => ?_
    exact ⟨p, j, vs, rfl, rfl, e3 _ _ hl, hz1.1, hz1.2, by rw [hdn.length]; exact szOk_of hz2, fun z nz => q _ _ ((e2.trans e3).trans (Ex.new nz)) ⟨z, _, rfl, fresh_back (e2.trans e3) nz, upd_same, ((hdn.ex e3).rep _).ex (Ex.new nz)⟩⟩
  · cases h
theorem x_slT {lo hi : Option Expr} {ml mh : MO} (ha : JE X a f1) (hl : JO X lo ml) (hh : JO X hi mh) {p2 : Pos} : JE X (.Subscript a (.Slice lo hi none p2) pos) (mSlT f1 ml mh) := by
  obtain ⟨ta, pa, va⟩ := ha
  obtain ⟨tl, pl, vl⟩ := hl
  obtain ⟨th, ph, vh⟩ := hh
  refine ⟨_, pe_slice sl_tupA pa pl ph, fun H0 σ H ρ r ok h => ?_⟩
  unfold mSlT at h
  obtain ⟨xs, hx, h⟩ := Option.bind_eq_some_iff.mp h
  obtain ⟨l, hl, h⟩ := Option.bind_eq_some_iff.mp h
  obtain ⟨u, hu, h⟩ := Option.map_eq_some_iff.mp h
  subst h
  intro H1 e1 Q q
  refine (va _ _ _ _ _ ok (asTup_some hx)).tup H1 e1 _ fun p vs H2 e2 hl' hdn => ?_
  refine vl _ _ _ _ _ ok hl H2 (e1.trans e2) _ fun H3 e3 => ?_
  refine vh _ _ _ _ _ ok hu H3 ((e1.trans e2).trans e3) _ fun H4 e4 => ?_
  have hc := cut_den (hdn.ex (e3.trans e4)) l u
  refine ⟨p, vs, rfl, ex_t (e3.trans e4) hl', fun z => q _ _ ((e2.trans e3).trans e4) ?_, fun _ z nz => q _ _ (((e2.trans e3).trans e4).trans (Ex.new nz)) (.tup (st_of upd_same) (hc.ex (Ex.new nz)))⟩
  have e : cutV vs l u = vs := by
    unfold cutV
    rw [z.1, z.2, Nat.sub_zero, List.drop_zero, List.take_length]
  rw [e] at hc
  exact .tup (ex_t (e3.trans e4) hl') hc
end
end
end Tl

namespace Tl
open PySem PySem.Spec PyProof.Rows L2 Evl
noncomputable section
/-! ### statements -/
inductive F where
  | nx (ρ : Rho) | ret (r : R) | brk (ρ : Rho) | cnt (ρ : Rho) | exc (c : Str) (fs : List (Str × D)) (ρ : Rho) | exc0 (c : Str) (ρ : Rho)
abbrev MS := Rho → Option F
def Post (X : Cx) (H0 : Hp) (D : Ends) (W : WX) : F → Prop
  | .nx ρ => ∀ σ H, Ok X H0 σ H ρ → D.nx σ H
  | .brk ρ => ∀ σ H, Ok X H0 σ H ρ → D.bk σ H
  | .cnt ρ => ∀ σ H, Ok X H0 σ H ρ → D.ct σ H
  | .ret r => ∀ v H, Ex H0 H → Got X.K H0 v H r → D.rt v H
  | .exc c fs ρ => ∀ C d σ H gs, X.mg c = some (.ref C) → Ok X H0 σ H ρ → H0 d = none → H d = some (.xd gs) → FldL X.K H gs fs → W (.ref C) (some d) σ H
  | .exc0 c ρ => ∀ C σ H, X.mg c = some (.ref C) → Ok X H0 σ H ρ → W (.ref C) none σ H
def JS (X : Cx) (W : WX) (st : Stmt) (m : MS) : Prop := ∃ ts, PS X st ts ∧ ∀ H0 D σ H ρ fl, Ok X H0 σ H ρ → m ρ = some fl → Post X H0 D W fl → ts D σ H
def JB (X : Cx) (W : WX) (st : List Stmt) (m : MS) : Prop := ∃ ts, PSs X st ts ∧ ∀ H0 D σ H ρ fl, Ok X H0 σ H ρ → m ρ = some fl → Post X H0 D W fl → ts D σ H
def mSkip : MS := fun ρ => some (.nx ρ)
def mSeq (s t : MS) : MS := fun ρ => match s ρ with
  | some (.nx ρ') => t ρ'
  | r => r
def setR (i : Nat) (ρ : Rho) : Option R → Option Rho
  | some (.dat d) => some (ρ.set i (.dat d))
  | some (.new xs) => some (ρ.set i (.own xs))
  | _ => none
def mSet (i : Nat) (f : ME) : MS := fun ρ => (setR i ρ (f ρ)).map .nx
def retR : Option R → Option F
  | some (.dat d) => some (.ret (.dat d))
  | some (.new xs) => some (.ret (.new xs))
  | _ => none
def mRet (f : ME) : MS := fun ρ => retR (f ρ)
def mRetV (i : Nat) : MS := fun ρ => match ρ[i]? with
  | some (.dat d) => some (.ret (.dat d))
  | some (.own xs) => some (.ret (.new xs))
  | _ => none
def mIf (t : MT) (s u : MS) : MS := fun ρ => (t ρ).bind fun b => if b = true then s ρ else u ρ
def mDrop (f : ME) : MS := fun ρ => (f ρ).map fun _ => .nx ρ
def mApp (i : Nat) (f : ME) : MS := fun ρ => match ρ[i]? with
  | some (.own xs) => (asDat (f ρ)).bind fun d => if szOk (xs.length + 1) = true then some (.nx (ρ.set i (.own (xs ++ [d])))) else none
  | _ => none
def mExt (i : Nat) (f : ME) : MS := fun ρ => match ρ[i]? with
  | some (.own xs) => (match f ρ with
    | some (.new ys) => if szOk (xs.length + ys.length) = true then some (.nx (ρ.set i (.own (xs ++ ys)))) else none
    | _ => none)
  | _ => none
def mSetI (i : Nat) (fi fv : ME) : MS := fun ρ => match ρ[i]? with
  | some (.own xs) => (asDat (fv ρ)).bind fun d => (asInt (fi ρ)).bind fun k => (ixN xs.length k).map fun j => .nx (ρ.set i (.own (xs.set j d)))
  | _ => none
def mAug (c : Int → Int → Bool) (g : Int → Int → Int) (i : Nat) (f : ME) : MS := fun ρ => (asInt (mVar i ρ)).bind fun a => (asInt (f ρ)).bind fun b => if c a b = true then some (.nx (ρ.set i (.dat (.int (g a b))))) else none
abbrev MG := D → Rho → Option Rho
def gNm (i : Nat) : MG := fun d ρ => some (ρ.set i (.dat d))
abbrev MGs := List D → Rho → Option Rho
def gNil' : MGs := fun ds ρ => match ds with
  | [] => some ρ
  | _ => none
def gCons' (g : MG) (r : MGs) : MGs := fun ds ρ => match ds with
  | d :: ds => (g d ρ).bind fun ρ' => r ds ρ'
  | _ => none
def gTp (r : MGs) : MG := fun d ρ => match d with
  | .tup ds => r ds ρ
  | _ => none
def mAsg (g : MG) (f : ME) : MS := fun ρ => (asDat (f ρ)).bind fun d => (g d ρ).map .nx
def mAsgL (g : MGs) (f : ME) : MS := fun ρ => (asLst (f ρ)).bind fun d => (g d ρ).map .nx
def loopM (g : MG) (body : MS) : List D → Rho → Option F
  | [], ρ => some (.nx ρ)
  | x :: xs, ρ => (g x ρ).bind fun ρ1 => match body ρ1 with
    | some (.nx ρ') => loopM g body xs ρ'
    | some (.cnt ρ') => loopM g body xs ρ'
    | some (.brk ρ') => some (.nx ρ')
    | r => r
abbrev MI := Rho → Option (List D × Rho)
def mFor (mi : MI) (g : MG) (body : MS) : MS := fun ρ => (mi ρ).bind fun p => loopM g body p.1 p.2

section
variable {X : Cx} {W : WX} {a b c e : Expr} {pos : Pos} {f1 f2 f3 : ME} {es : List Expr} {ma : MA} {m1 m2 : MS} {st : Stmt} {sts : List Stmt} {t : MT}
theorem Post.up {H0 H0' : Hp} {D : Ends} {fl : F} (e : Ex H0 H0') (h : Post X H0 D W fl) : Post X H0' D W fl := by
  have w : ∀ {σ : L2.St} {H : Hp} {ρ : Rho}, Ok X H0' σ H ρ → Ok X H0 σ H ρ := fun {σ H ρ} ⟨B, o⟩ => ⟨B, e.trans o.e0, o.e1, o.len, o.slot, o.inj⟩
  cases fl with
  | nx ρ => exact fun σ H o => h σ H (w o)
  | brk ρ => exact fun σ H o => h σ H (w o)
  | cnt ρ => exact fun σ H o => h σ H (w o)
  | ret r => exact fun v H e' g => h v H (e.trans e') (g.back e)
  | exc c fs ρ => exact fun C d σ H gs hm o n => h C d σ H gs hm (w o) (fresh_back e n)
  | exc0 c ρ => exact fun C σ H hm o => h C σ H hm (w o)
theorem b_nil : JB X W [] mSkip := ⟨_, pss_nil, fun H0 D σ H ρ fl ok h p => by cases h; exact p σ H ok⟩
theorem b_one (h : JS X W st m1) : JB X W [st] m1 := by
  obtain ⟨ts, p, v⟩ := h
  exact ⟨ts, pss_one p, v⟩
theorem b_cons (h1 : JS X W st m1) (h2 : JB X W sts m2) : JB X W (st :: sts) (mSeq m1 m2) := by
  obtain ⟨ts, p, v⟩ := h1
  obtain ⟨tr, pr, vr⟩ := h2
  refine ⟨_, pss_cons p pr, fun H0 D σ H ρ fl ok h q => ?_⟩
  unfold mSeq at h
  show ts { D with nx := tr D } σ H
  cases hm : m1 ρ with
  | none => rw [hm] at h; cases h
  | some fl1 =>
    refine v H0 _ σ H ρ fl1 ok hm ?_
    rw [hm] at h
    cases fl1 with
    | nx ρ' => exact fun σ' H' ok' => vr H0 D σ' H' ρ' fl ok' h q
    | brk ρ' => cases h; exact q
    | cnt ρ' => cases h; exact q
    | ret r => cases h; exact q
    | exc c fs ρ' => cases h; exact q
    | exc0 c ρ' => cases h; exact q
theorem s_pass : JS X W (.Pass pos) mSkip := ⟨_, ps_pass, fun H0 D σ H ρ fl ok h p => by cases h; exact p σ H ok⟩
theorem setR_ok {H0 H H2 : Hp} {σ : L2.St} {ρ ρ' : Rho} {i : Nat} {r : R} {v : V} (ok : Ok X H0 σ H ρ) (h : setR i ρ (some r) = some ρ') (e : Ex H H2) (g : Got X.K H v H2 r) : Ok X H0 (σ.set i (some v)) H2 ρ' := by
  cases r with
  | dat d => cases h; exact (ok.ex e).set g
  | new xs =>
    cases h
    obtain ⟨p, vs, hv, hn, hl, hd⟩ := g
    subst hv
    exact ok.setL e hn hl hd
  | lst xs => cases h
  | ro xs => cases h
theorem s_set (i : Nat) {x : Str} {pos' : Pos} (hN : X.N.Nodup) (he : JE X e f1) (hi : X.N[i]? = some x := by rfl) (hx : Loc X.env.scope x := by first | exact Or.inl rfl | exact Or.inr rfl) (hs : swapsWith e (some (.Name x pos')) pos.line X.env = pure false := by rfl)
    (hf : X.fn x = true ∨ X.env.scope.names.lookup x = some .local := by first | exact .inl rfl | exact .inr rfl | assumption) : JS X W (.Assign [.Name x pos'] e pos) (mSet i f1) := by
  obtain ⟨te, p, v⟩ := he
  refine ⟨_, ps_set hN hi hx p hs hf, fun H0 D σ H ρ fl ok h q => ?_⟩
  unfold mSet at h
  obtain ⟨ρ', h1, h2⟩ := Option.map_eq_some_iff.mp h
  subst h2
  cases hr : f1 ρ with
  | none => rw [hr] at h1; cases h1
  | some r =>
    rw [hr] at h1
    exact v _ _ _ _ _ ok hr H (Ex.refl H) _ fun w H2 e2 g => q _ _ (setR_ok ok h1 e2 g)
theorem s_ret (he : JE X e f1) : JS X W (.Return (some e) pos) (mRet f1) := by
  obtain ⟨te, p, v⟩ := he
  refine ⟨_, ps_ret p, fun H0 D σ H ρ fl ok h q => ?_⟩
  unfold mRet at h
  cases hr : f1 ρ with
  | none => rw [hr] at h; cases h
  | some r =>
    rw [hr] at h
    refine v _ _ _ _ _ ok hr H (Ex.refl H) _ fun w H2 e2 g => ?_
    cases r with
    | dat d => cases h; exact q w H2 (ok.base.trans e2) (g.back ok.base)
    | new xs => cases h; exact q w H2 (ok.base.trans e2) (g.back ok.base)
    | lst xs => cases h
    | ro xs => cases h
theorem s_retV (i : Nat) {x : Str} {pos' : Pos} (hN : X.N[i]? = some x := by rfl) (hv : Vis X.env.scope x := by first | exact Or.inl rfl | exact Or.inr (Or.inl rfl) | exact Or.inr (Or.inr rfl)) (hd : (x == ("__debug__" : Str)) = false := by decide)
    (hcd : (x == ("__classdict__" : Str)) = false := by decide) : JS X W (.Return (some (.Name x pos')) pos) (mRetV i) := by
  refine ⟨_, ps_ret (pe_var hN hv hd hcd), fun H0 D σ H ρ fl ok h q => ?_⟩
  have ba := ok.base
  obtain ⟨B, ok⟩ := ok
  unfold mRetV at h
  split at h
  · rename_i d hd
    cases h
    obtain ⟨v, s, g⟩ := ok.slot i _ hd
    exact ⟨v, s, q v H ba g⟩
  · rename_i xs hd
    cases h
    obtain ⟨a, vs, s, n, l, g⟩ := ok.slot i _ hd
    exact ⟨_, s, q _ H ba ⟨a, vs, rfl, fresh_back ok.e0 n, l, g⟩⟩
  · cases h
theorem s_if {sa sb : List Stmt} (hc : JT X c t) (ha : JB X W sa m1) (hb : JB X W sb m2) : JS X W (.If c sa sb pos) (mIf t m1 m2) := by
  obtain ⟨tc, pc, vc⟩ := hc
  obtain ⟨ta, pa, va⟩ := ha
  obtain ⟨tb, pb, vb⟩ := hb
  refine ⟨_, ps_if pc pa pb, fun H0 D σ H ρ fl ok h q => ?_⟩
  unfold mIf at h
  obtain ⟨k, hk, h⟩ := Option.bind_eq_some_iff.mp h
  refine vc _ _ _ _ _ ok hk H (Ex.refl H) _ fun H2 e2 => ?_
  cases k with
  | true => exact va _ D σ H2 ρ fl (ok.ex e2) h q
  | false => exact vb _ D σ H2 ρ fl (ok.ex e2) h q
theorem s_expr (he : JE X e f1) (hs : swapsWith e none pos.line X.env = pure false := by rfl) : JS X W (.Expr e pos) (mDrop f1) := by
  obtain ⟨te, p, v⟩ := he
  refine ⟨_, ps_expr p hs, fun H0 D σ H ρ fl ok h q => ?_⟩
  unfold mDrop at h
  obtain ⟨r, hr, h⟩ := Option.map_eq_some_iff.mp h
  subst h
  exact v _ _ _ _ _ ok hr H (Ex.refl H) _ fun w H2 e2 g => q σ H2 (ok.ex e2)
theorem Ok.own {H0 H : Hp} {σ : L2.St} {ρ : Rho} {i : Nat} {xs : List D} (ok : Ok X H0 σ H ρ) (h : ρ[i]? = some (.own xs)) : ∃ a vs, σ[i]? = some (some (.ref a)) ∧ H a = some (.lst vs) ∧ DenL X.K H vs xs := by
  obtain ⟨B, ok⟩ := ok
  obtain ⟨a, vs, s, n, l, g⟩ := ok.slot i _ h
  exact ⟨a, vs, s, l, g⟩
theorem s_app (i : Nat) {x : Str} {p1 p2 p3 : Pos} (he : JE X e f1) (hN : X.N[i]? = some x := by rfl) (hv : Vis X.env.scope x := by first | exact Or.inl rfl | exact Or.inr (Or.inl rfl) | exact Or.inr (Or.inr rfl)) (hd : (x == ("__debug__" : Str)) = false := by decide)
    (hcd : (x == ("__classdict__" : Str)) = false := by decide) (hst : starEach (e :: []) X.env = (false, eval e X.env) :: starEach [] X.env := by rfl)
    (hs : swapsWith (.Call (.Attribute (.Name x p1) "append" p2) [e] [] p3) none pos.line X.env = pure false := by rfl)
    (hpe : ∀ to ta, PE X (.Name x p1) to → PA X [e] ta → PE X (.Call (.Attribute (.Name x p1) "append" p2) [e] [] p3) (tBM X.K "list" rAppend to ta) := by exact fun _ _ h1 h2 => pe_bm PySem.F.plainAttrs_list PySem.F.slot_list_append PySem.F.type_list_append mt_append h1 h2) : JS X W (.Expr (.Call (.Attribute (.Name x p1) "append" p2) [e] [] p3) pos) (mApp i f1) := by
  obtain ⟨te, p, v⟩ := he
  refine ⟨_, ps_expr (hpe _ _ (pe_var hN hv hd hcd) (pa_cons p pa_nil hst)) hs, fun H0 D σ H ρ fl ok h q => ?_⟩
  unfold mApp at h
  split at h
  · rename_i xs hx
    obtain ⟨d, hd', h⟩ := Option.bind_eq_some_iff.mp h
    split at h
    · rename_i hz
      cases h
      obtain ⟨l, vs, s, hl', g⟩ := ok.own hx
      refine ⟨_, s, .inl ⟨rfl, _, sq_of hl'⟩, ?_⟩
      refine v _ _ _ _ _ ok (asDat_some hd') H (Ex.refl H) _ fun w H2 e2 gw => ?_
      refine ⟨l, vs, w, rfl, rfl, e2 _ _ hl', ?_, q _ _ ((ok.ex e2).mut hx s (e2 _ _ hl') ((g.ex e2).append (.cons gw .nil)))⟩
      have z : xs.length + 1 ≤ 100000 := okP_of hz
      rw [g.length]
      exact sz_lt (by omega)
    · cases h
  · cases h
theorem s_ext (i : Nat) {x : Str} {p1 p2 p3 : Pos} (he : JE X e f1) (hN : X.N[i]? = some x := by rfl) (hv : Vis X.env.scope x := by first | exact Or.inl rfl | exact Or.inr (Or.inl rfl) | exact Or.inr (Or.inr rfl)) (hd : (x == ("__debug__" : Str)) = false := by decide)
    (hcd : (x == ("__classdict__" : Str)) = false := by decide) (hst : starEach (e :: []) X.env = (false, eval e X.env) :: starEach [] X.env := by rfl)
    (hs : swapsWith (.Call (.Attribute (.Name x p1) "extend" p2) [e] [] p3) none pos.line X.env = pure false := by rfl)
    (hpe : ∀ to ta, PE X (.Name x p1) to → PA X [e] ta → PE X (.Call (.Attribute (.Name x p1) "extend" p2) [e] [] p3) (tBM X.K "list" rExtend to ta) := by exact fun _ _ h1 h2 => pe_bm PySem.F.plainAttrs_list PySem.F.slot_list_extend PySem.F.type_list_extend mt_extend h1 h2) : JS X W (.Expr (.Call (.Attribute (.Name x p1) "extend" p2) [e] [] p3) pos) (mExt i f1) := by
  obtain ⟨te, p, v⟩ := he
  refine ⟨_, ps_expr (hpe _ _ (pe_var hN hv hd hcd) (pa_cons p pa_nil hst)) hs, fun H0 D σ H ρ fl ok h q => ?_⟩
  unfold mExt at h
  split at h
  · rename_i xs hx
    split at h
    · rename_i ys hy
      split at h
      · rename_i hz
        cases h
        obtain ⟨l, vs, s, hl', g⟩ := ok.own hx
        refine ⟨_, s, .inl ⟨rfl, _, sq_of hl'⟩, ?_⟩
        refine v _ _ _ _ _ ok hy H (Ex.refl H) _ fun w H2 e2 ⟨b, ws, hw, nb, hb2, gw⟩ => ?_
        subst hw
        refine ⟨l, b, vs, ws, rfl, rfl, e2 _ _ hl', hb2, ?_, q _ _ ((ok.ex e2).mut hx s (e2 _ _ hl') ((g.ex e2).append gw))⟩
        rw [g.length, gw.length]
        exact szOk_of hz
      · cases h
    · cases h
  · cases h
theorem s_setI (i : Nat) {x : Str} {p1 p2 : Pos} {fi fv : ME} {ei ev : Expr} (hi : JE X ei fi) (he : JE X ev fv) (hN : X.N[i]? = some x := by rfl) (hv : Vis X.env.scope x := by first | exact Or.inl rfl | exact Or.inr (Or.inl rfl) | exact Or.inr (Or.inr rfl)) (hd : (x == ("__debug__" : Str)) = false := by decide)
    (hcd : (x == ("__classdict__" : Str)) = false := by decide) (hpg : ∀ to ti, PE X (.Name x p1) to → PE X ei ti → PG X (.Subscript (.Name x p1) ei p2) (gSub to ti rSetL) := by exact fun to ti h1 h2 => pg_sub h1 h2 set_list)
    (hs : swapsWithSole [.Subscript (.Name x p1) ei p2] ev pos.line X.env = pure false := by rfl) (hw : swappedStores [.Subscript (.Name x p1) ei p2] ev X.env = pure none := by rfl) : JS X W (.Assign [.Subscript (.Name x p1) ei p2] ev pos) (mSetI i fi fv) := by
  obtain ⟨ti, pi, vi⟩ := hi
  obtain ⟨te, p, v⟩ := he
  refine ⟨_, ps_asg p (hpg _ _ (pe_var hN hv hd hcd) pi) hs hw, fun H0 D σ H ρ fl ok h q => ?_⟩
  unfold mSetI at h
  split at h
  · rename_i xs hx
    obtain ⟨d, hd', h⟩ := Option.bind_eq_some_iff.mp h
    obtain ⟨k, hk, h⟩ := Option.bind_eq_some_iff.mp h
    obtain ⟨j, hj, h⟩ := Option.map_eq_some_iff.mp h
    subst h
    obtain ⟨l, vs, s, hl', g⟩ := ok.own hx
    refine v _ _ _ _ _ ok (asDat_some hd') H (Ex.refl H) _ fun w H2 e2 gw => ?_
    refine ⟨_, s, ?_⟩
    refine (vi _ _ _ _ _ ok (asInt_some hk)).int H2 e2 _ fun H3 e3 => ?_
    exact ⟨l, vs, k, j, rfl, rfl, e3 _ _ (e2 _ _ hl'), by rw [g.length]; exact hj, q _ _ (((ok.ex e2).ex e3).mut hx s (e3 _ _ (e2 _ _ hl')) (((g.ex e2).ex e3).set j (Den.ex gw e3)))⟩
  · cases h
theorem s_aug (i : Nat) {x : Str} {op : Operator} {pos' : Pos} {C : Int → Int → Prop} {c : Int → Int → Bool} {g : Int → Int → Int} (ho : OpR X (inplaceOp op) (rI C fun a b => .int (g a b))) (hc : ∀ i j, c i j = true → C i j) (hN : X.N.Nodup) (he : JE X e f1) (hi : X.N[i]? = some x := by rfl)
    (hx : Loc X.env.scope x := by first | exact Or.inl rfl | exact Or.inr rfl) (hf : X.fn x = true ∨ X.env.scope.names.lookup x = some .local := by first | exact .inl rfl | exact .inr rfl | assumption) :
    JS X W (.AugAssign (.Name x pos') op e pos) (mAug c g i f1) := by
  obtain ⟨te, p, v⟩ := he
  refine ⟨_, ps_aug hN hi hx p ho hf, fun H0 D σ H ρ fl ok h q => ?_⟩
  unfold mAug at h
  obtain ⟨a, ha, h⟩ := Option.bind_eq_some_iff.mp h
  obtain ⟨b, hb, h⟩ := Option.bind_eq_some_iff.mp h
  split at h
  · rename_i hcc
    cases h
    have hs : σ[i]? = some (some (.int a)) := by
      have ha := asInt_some ha
      obtain ⟨B, ok⟩ := ok
      unfold mVar at ha
      split at ha
      · rename_i d hd
        cases ha
        obtain ⟨v, s, g⟩ := ok.slot i _ hd
        cases g
        exact s
      · cases ha
      · cases ha
      · cases ha
    refine ⟨_, hs, ?_⟩
    refine (v _ _ _ _ _ ok (asInt_some hb)).int H (Ex.refl H) _ fun H2 e2 => ?_
    exact ⟨a, b, rfl, rfl, hc _ _ hcc, q _ _ ((ok.ex e2).set (.int _))⟩
  · cases h
/-! targets -/
def JG (X : Cx) (tg : Expr) (g : MG) : Prop := ∃ t, PG X tg t ∧ ∀ H0 σ H ρ v d ρ', Ok X H0 σ H ρ → Den X.K H v d → g d ρ = some ρ' → ∀ Q : L2.St → Hp → Prop, (∀ σ', Ok X H0 σ' H ρ' → Q σ' H) → t v σ H Q
def JGs (X : Cx) (tgs : List Expr) (g : MGs) : Prop := ∃ t, PGs X tgs t ∧ ∀ H0 σ H ρ vs ds ρ', Ok X H0 σ H ρ → DenL X.K H vs ds → g ds ρ = some ρ' → ∀ Q : L2.St → Hp → Prop, (∀ σ', Ok X H0 σ' H ρ' → Q σ' H) → t vs σ H Q
theorem g_nm (i : Nat) {x : Str} (hN : X.N.Nodup) (hi : X.N[i]? = some x := by rfl) (hx : Loc X.env.scope x := by first | exact Or.inl rfl | exact Or.inr rfl) (hf : X.fn x = true ∨ X.env.scope.names.lookup x = some .local := by first | exact .inl rfl | exact .inr rfl | assumption) :
    JG X (.Name x pos) (gNm i) := ⟨_, pg_name hN hi hx hf, fun H0 σ H ρ v d ρ' ok hd h Q q => by cases h; exact q _ (ok.set hd)⟩
theorem gs_nil : JGs X [] gNil' := ⟨_, pgs_nil, fun H0 σ H ρ vs ds ρ' ok hd h Q q => by
  cases hd with
  | nil => cases h; exact ⟨rfl, q _ ok⟩
  | cons _ _ => cases h⟩
theorem gs_cons {g : MG} {gs : MGs} (h1 : JG X e g) (h2 : JGs X es gs) (hpg : ∀ t u, PG X e t → PGs X es u → PGs X (e :: es) (gCons t u) := by exact fun t u h1 h2 => pgs_cons h1 h2) : JGs X (e :: es) (gCons' g gs) := by
  obtain ⟨t, p, v⟩ := h1
  obtain ⟨u, pu, vu⟩ := h2
  refine ⟨_, hpg _ _ p pu, fun H0 σ H ρ vs ds ρ' ok hd h Q q => ?_⟩
  cases hd with
  | nil => cases h
  | cons hd1 hd2 =>
    obtain ⟨ρ1, h1, h2⟩ := Option.bind_eq_some_iff.mp (show (g _ ρ).bind (fun ρ' => gs _ ρ') = some ρ' from h)
    refine ⟨_, _, rfl, ?_⟩
    exact v _ _ _ _ _ _ _ ok hd1 h1 _ fun σ1 ok1 => vu _ _ _ _ _ _ _ ok1 hd2 h2 Q q
theorem g_tp {gs : MGs} {k : Nat} {n : Nat} (hc : X.calm = true) (h : JGs X es gs) (hpg : ∀ t, PGs X es t → PG X (.Tuple es k pos) (gTup X.K n t) := by exact fun t h => pg_tup rfl h) (hl : ∀ ds ρ ρ', gs ds ρ = some ρ' → ds.length = n) : JG X (.Tuple es k pos) (gTp gs) := by
  obtain ⟨t, p, v⟩ := h
  refine ⟨_, hpg _ p, fun H0 σ H ρ w d ρ' ok hd h Q q => ?_⟩
  cases hd with
  | non => cases h
  | bl _ => cases h
  | int _ => cases h
  | str _ => cases h
  | tup h1 h2 => exact ⟨_, _, rfl, h1, by rw [h2.length]; exact hl _ _ _ h, v _ _ _ _ _ _ _ ok h2 h Q q⟩
theorem gs_len0 : ∀ ds ρ ρ', gNil' ds ρ = some ρ' → ds.length = 0 := fun ds ρ ρ' h => by
  cases ds with
  | nil => rfl
  | cons _ _ => cases h
theorem gs_lenS {g : MG} {gs : MGs} {n : Nat} (hl : ∀ ds ρ ρ', gs ds ρ = some ρ' → ds.length = n) : ∀ ds ρ ρ', gCons' g gs ds ρ = some ρ' → ds.length = n + 1 := fun ds ρ ρ' h => by
  cases ds with
  | nil => cases h
  | cons d ds =>
    obtain ⟨ρ1, h1, h2⟩ := Option.bind_eq_some_iff.mp (show (g _ ρ).bind (fun ρ' => gs _ ρ') = some ρ' from h)
    exact congrArg (· + 1) (hl _ _ _ h2)
theorem s_asg {tg : Expr} {g : MG} (he : JE X e f1) (hg : JG X tg g) (h1 : List.map (fun x => x.snd) (assignEach [tg] X.env) = [assign tg X.env] := by rfl) (hs : swapsWithSole [tg] e pos.line X.env = pure false := by rfl) (hw : swappedStores [tg] e X.env = pure none := by rfl) : JS X W (.Assign [tg] e pos) (mAsg g f1) := by
  obtain ⟨te, p, v⟩ := he
  obtain ⟨t, pg, vg⟩ := hg
  refine ⟨_, ps_asg p pg hs hw h1, fun H0 D σ H ρ fl ok h q => ?_⟩
  unfold mAsg at h
  obtain ⟨d, hd, h⟩ := Option.bind_eq_some_iff.mp h
  obtain ⟨ρ', hr, h⟩ := Option.map_eq_some_iff.mp h
  subst h
  exact v _ _ _ _ _ ok (asDat_some hd) H (Ex.refl H) _ fun w H2 e2 gw => vg _ _ _ _ _ _ _ (ok.ex e2) gw hr _ fun σ' ok' => q σ' H2 ok'
theorem s_asgL {gs : MGs} {k : Nat} {n : Nat} {p2 : Pos} (hc : X.calm = true) (he : JE X e f1) (hg : JGs X es gs) (hpg : ∀ t, PGs X es t → PG X (.Tuple es k p2) (gUnl X.K n t) := by exact fun t h => pg_unl rfl h) (hl : ∀ ds ρ ρ', gs ds ρ = some ρ' → ds.length = n)
    (hs : swapsWithSole [.Tuple es k p2] e pos.line X.env = pure false := by rfl) (hw : swappedStores [.Tuple es k p2] e X.env = pure none := by rfl) : JS X W (.Assign [.Tuple es k p2] e pos) (mAsgL gs f1) := by
  obtain ⟨te, p, v⟩ := he
  obtain ⟨t, pg, vg⟩ := hg
  refine ⟨_, ps_asg p (hpg _ pg) hs hw, fun H0 D σ H ρ fl ok h q => ?_⟩
  unfold mAsgL at h
  obtain ⟨d, hd, h⟩ := Option.bind_eq_some_iff.mp h
  obtain ⟨ρ', hr, h⟩ := Option.map_eq_some_iff.mp h
  subst h
  refine ev_lst hd (fun r hr => v _ _ _ _ _ ok hr) H (Ex.refl H) _ fun w H2 e2 ⟨p, vs, hv, hl', hdn⟩ => ?_
  subst hv
  exact ⟨_, _, rfl, hl', by rw [hdn.length]; exact hl _ _ _ hr, vg _ _ _ _ _ _ _ (ok.ex e2) hdn hr _ fun σ' ok' => q σ' H2 ok'⟩
end
end
end Tl

namespace Tl
open PySem PySem.Spec PyProof.Rows L2 Evl
noncomputable section
/-! ### all that no slot owns, kept -/
def Owned (σ : L2.St) (ρ : Rho) (b : Addr) : Prop := ∃ (i : Nat) (xs : List D), ρ[i]? = some (.own xs) ∧ σ[i]? = some (some (.ref b))
open Classical in
def hidO (σ : L2.St) (ρ : Rho) (H : Hp) : Hp := fun b => if Owned σ ρ b then none else H b
section
variable {X : Cx} {H0 H B : Hp} {σ : L2.St} {ρ : Rho}
theorem hidO_no {b : Addr} (h : ¬ Owned σ ρ b) : hidO σ ρ H b = H b := if_neg h
theorem hidO_yes {b : Addr} (h : Owned σ ρ b) : hidO σ ρ H b = none := if_pos h
theorem hidO_ex : Ex (hidO σ ρ H) H := fun b o h => by
  by_cases q : Owned σ ρ b
  · rw [hidO_yes q] at h; cases h
  · rw [hidO_no q] at h; exact h
theorem OkB.owned {b : Addr} (ok : OkB X H0 B σ H ρ) (h : Owned σ ρ b) : B b = none ∧ ∃ vs, H b = some (.lst vs) := by
  obtain ⟨i, xs, hi, si⟩ := h
  obtain ⟨a, vs, s, n, l, _⟩ := ok.slot i _ hi
  rw [s] at si
  cases si
  exact ⟨n, vs, l⟩
theorem OkB.hid (ok : OkB X H0 B σ H ρ) : Ex B (hidO σ ρ H) := fun b o h => by
  have q : ¬ Owned σ ρ b := fun q => by rw [(ok.owned q).1] at h; cases h
  rw [hidO_no q]
  exact ok.e1 b o h
theorem OkB.tex (ok : OkB X H0 B σ H ρ) : TEx X.K H (hidO σ ρ H) := fun a xs h => by
  rcases h with (h | ⟨o, h⟩) | h
  · have q : ¬ Owned σ ρ a := fun q => by
      obtain ⟨_, vs, z⟩ := ok.owned q
      rw [z] at h; cases h
    exact .inl (.inl (by rw [hidO_no q]; exact h))
  · have q : ¬ Owned σ ρ a := fun q => by
      obtain ⟨_, vs, z⟩ := ok.owned q
      rw [z] at h; cases h
    exact .inl (.inr ⟨o, by rw [hidO_no q]; exact h⟩)
  · exact .inr h
theorem OkB.pin (ok : OkB X H0 B σ H ρ) : Ok X (hidO σ ρ H) σ H ρ := by
  refine ⟨hidO σ ρ H, Ex.refl _, hidO_ex, ok.len, fun i c hi => ?_, ok.inj⟩
  have z := ok.slot i c hi
  cases c with
  | un => trivial
  | dat d => exact z
  | own xs =>
    obtain ⟨a, vs, s, n, l, g⟩ := z
    exact ⟨a, vs, s, hidO_yes ⟨i, xs, hi, s⟩, l, g⟩
  | bor xs =>
    obtain ⟨a, vs, s, l, g⟩ := z
    exact ⟨a, vs, s, ex_l ok.hid l, g⟩
  | exc c fs =>
    obtain ⟨a, oe, pn, C, dd, gs, h1, h2, h3, h4, h5, h6, h7, h8⟩ := z
    exact ⟨a, oe, pn, C, dd, gs, h1, h2, h3, h4, h5, h6, ok.hid _ _ h7, h8⟩
theorem OkB.fresh {a : Addr} {H1 : Hp} (ok : OkB X H0 B σ H1 ρ) (h : H1 a = none) : ¬ Owned σ ρ a := fun q => by
  obtain ⟨_, vs, z⟩ := ok.owned q
  rw [z] at h; cases h
end

/-! ### what a loop walks -/
/-- J walks ds, whatever is done while H0 stands -/
structure ItD (K : PySem.W.Frag) (H0 : Hp) (J : It) (ds : List D) : Prop where
  go : ∀ i H, Ex H0 H → i < ds.length → J.go i H
  yld : ∀ i H x H', Ex H0 H → i < ds.length → J.yld i H x H' → Ex H H' ∧ ∃ d, ds[i]? = some d ∧ Den K H' x d
  stop : ∀ i H, Ex H0 H → ds.length ≤ i → J.stop i H
def JI (X : Cx) (tg it : Expr) (m : MI) : Prop := ∃ wi, PI X tg it wi ∧ ∀ H0 σ H ρ ds ρ', Ok X H0 σ H ρ → m ρ = some (ds, ρ') → ∀ R' : It → Hp → Prop,
  (∀ J H1 H0', Ex H0 H0' → Ok X H0' σ H1 ρ' → Ex H H1 → ItD X.K H0' J ds → R' J H1) → wi σ H R'
section
variable {X : Cx} {W : WX} {a b c e : Expr} {pos : Pos} {f1 f2 f3 : ME} {es : List Expr} {ma : MA} {m1 m2 : MS} {st : Stmt} {sts : List Stmt} {t : MT} {tg it : Expr} {mi : MI} {g : MG} {mb : MS} {body : List Stmt}
/-- the invariant of a loop: the rest of it ends well -/
def Pv (X : Cx) (H0 : Hp) (D : Ends) (W : WX) (g : MG) (mb : MS) (ds : List Tl.D) (i : Nat) (σ : L2.St) (H : Hp) : Prop := ∃ ρ, Ok X H0 σ H ρ ∧ ∃ fl, loopM g mb (ds.drop i) ρ = some fl ∧ Post X H0 D W fl
theorem s_for (hi : JI X tg it mi) (hg : JG X tg g) (hb : JB X W body mb)
    (hfor : ∀ wi tg' tb, PI X tg it wi → PG X tg tg' → PSs X body tb → PS X (.For tg it body [] pos) (tFor wi tg' tb) := by exact fun _ _ _ h1 h2 h3 => ps_for PassesOwn.never rfl h1 h2 h3) : JS X W (.For tg it body [] pos) (mFor mi g mb) := by
  obtain ⟨wi, pi, vi⟩ := hi
  obtain ⟨tg', pg, vg⟩ := hg
  obtain ⟨tb, pb, vb⟩ := hb
  refine ⟨_, hfor _ _ _ pi pg pb, fun H0 D σ H ρ fl ok h q => ?_⟩
  unfold mFor at h
  obtain ⟨⟨ds, ρ'⟩, hm, h⟩ := Option.bind_eq_some_iff.mp h
  refine vi H0 σ H ρ ds ρ' ok hm _ fun J H1 H0' e0 ok1 _ T => ?_
  have q' := Post.up (X := X) (W := W) e0 q
  refine ⟨fun i m σ H => m = ds.length - i ∧ i ≤ ds.length ∧ Pv X H0' D W g mb ds i σ H, ⟨ds.length, by simp, Nat.zero_le _, ρ', ok1, fl, by rw [List.drop_zero]; exact h, q'⟩, ?_⟩
  rintro i m σ1 H2 ⟨rfl, hi, ρ1, okr, fl1, hl, q1⟩
  by_cases hlt : i < ds.length
  · refine .inr ⟨T.go i H2 okr.base hlt, Pv X H0' D W g mb ds (i + 1), fun σ' H' p' => ⟨ds.length - (i + 1), by omega, rfl, hlt, p'⟩, fun x H' y => ?_⟩
    obtain ⟨e2, d, hd, hdn⟩ := T.yld i H2 x H' okr.base hlt y
    have hdrop : ds.drop i = d :: ds.drop (i + 1) := by
      rw [List.drop_eq_getElem_cons hlt]
      congr 1
      rw [List.getElem?_eq_getElem hlt] at hd
      exact Option.some.inj hd
    rw [hdrop] at hl
    unfold loopM at hl
    obtain ⟨ρ2, hg2, hl⟩ := Option.bind_eq_some_iff.mp hl
    refine vg _ _ _ _ _ _ _ (okr.ex e2) hdn hg2 _ fun σ2 ok2 => ?_
    cases hbd : mb ρ2 with
    | none => rw [hbd] at hl; cases hl
    | some fl2 =>
      rw [hbd] at hl
      refine vb H0' _ σ2 H' ρ2 fl2 ok2 hbd ?_
      cases fl2 with
      | nx ρ3 => exact fun σ3 H3 ok3 => ⟨ρ3, ok3, fl1, hl, q1⟩
      | cnt ρ3 => exact fun σ3 H3 ok3 => ⟨ρ3, ok3, fl1, hl, q1⟩
      | brk ρ3 => cases hl; exact q1
      | ret r => cases hl; exact q1
      | exc c fs ρ3 => cases hl; exact q1
      | exc0 c ρ3 => cases hl; exact q1
  · have e : i = ds.length := by omega
    subst e
    rw [List.drop_length] at hl
    cases hl
    exact .inl ⟨T.stop _ H2 okr.base (Nat.le_refl _), q1 σ1 H2 okr⟩
/-! ranges -/
def rngD (lo : Int) (n : Nat) : List D := (List.range n).map fun i => .int (lo + (i : Nat))
theorem rngD_get {lo : Int} {n i : Nat} (h : i < n) : (rngD lo n)[i]? = some (.int (lo + (i : Nat))) := by
  unfold rngD
  rw [List.getElem?_map, List.getElem?_range h]
  rfl
theorem rngD_len {lo : Int} {n : Nat} : (rngD lo n).length = n := by
  unfold rngD
  rw [List.length_map, List.length_range]
theorem itd_range {K : PySem.W.Frag} {H0 : Hp} {lo : Int} {n : Nat} : ItD K H0 (Itr lo n) (rngD lo n) where
  go := fun i H _ h => by rw [rngD_len] at h; exact h
  yld := fun i H x H' _ h ⟨e1, e2⟩ => by
    rw [rngD_len] at h
    subst e1 e2
    exact ⟨Ex.refl _, _, rngD_get h, .int _⟩
  stop := fun i H _ h => by rw [rngD_len] at h; exact h
def bnd62 (j : Int) : Bool := okP (-(2 ^ 62) ≤ j ∧ j < 2 ^ 62)
def iR1 (f : ME) : MI := fun ρ => (asInt (f ρ)).bind fun n => if bnd62 n = true then some (rngD 0 n.toNat, ρ) else none
def iR2 (f h : ME) : MI := fun ρ => (asInt (f ρ)).bind fun lo => (asInt (h ρ)).bind fun n => if (bnd62 lo && bnd62 n) = true then some (rngD lo (n - lo).toNat, ρ) else none
theorem i_r1 {p : Pos} (hm : X.mg "range" = none) (ha : JE X a f1) (hg : Gl X "range" := by rfl) (hs : starEach [a] X.env = [(false, eval a X.env)] := by rfl) : JI X tg (.Call (.Name "range" p) [a] [] pos) (iR1 f1) := by
  obtain ⟨ta, pa, va⟩ := a_cons ha a_nil hs
  refine ⟨_, pi_range1 hg hm pa hs, fun H0 σ H ρ ds ρ' ok h R' k => ?_⟩
  unfold iR1 at h
  obtain ⟨n, hn, h⟩ := Option.bind_eq_some_iff.mp h
  split at h
  · rename_i hz
    cases h
    have hz := okP_of hz
    refine va _ _ _ _ [.dat (.int n)] ok (by unfold aCons; rw [asInt_some hn]; rfl) H (Ex.refl H) _ fun vs H2 e2 gs => ?_
    cases gs with
    | cons g1 g2 =>
      cases g2
      have g1 : Den X.K H2 _ (.int n) := g1
      cases g1
      exact ⟨n, rfl, hz.1, hz.2, k _ H2 H0 (Ex.refl _) (ok.ex e2) e2 itd_range⟩
  · cases h
theorem i_r2 {p : Pos} (hm : X.mg "range" = none) (ha : JE X a f1) (hb : JE X b f2) (hg : Gl X "range" := by rfl) (hs : starEach [a, b] X.env = [(false, eval a X.env), (false, eval b X.env)] := by rfl) (hs2 : starEach [b] X.env = [(false, eval b X.env)] := by rfl)
    (hpi : ∀ ta, PA X [a, b] ta → PI X tg (.Call (.Name "range" p) [a, b] [] pos) (iRng2 ta) := by exact fun _ h => pi_range2 rfl (by assumption) h) : JI X tg (.Call (.Name "range" p) [a, b] [] pos) (iR2 f1 f2) := by
  obtain ⟨ta, pa, va⟩ := a_cons ha (a_cons hb a_nil hs2) (by rw [hs, hs2])
  refine ⟨_, hpi _ pa, fun H0 σ H ρ ds ρ' ok h R' k => ?_⟩
  unfold iR2 at h
  obtain ⟨lo, hlo, h⟩ := Option.bind_eq_some_iff.mp h
  obtain ⟨n, hn, h⟩ := Option.bind_eq_some_iff.mp h
  split at h
  · rename_i hz
    cases h
    rw [Bool.and_eq_true] at hz
    have hz1 := okP_of hz.1
    have hz2 := okP_of hz.2
    refine va _ _ _ _ [.dat (.int lo), .dat (.int n)] ok (by unfold aCons; rw [asInt_some hlo, asInt_some hn]; rfl) H (Ex.refl H) _ fun vs H2 e2 gs => ?_
    cases gs with
    | cons g1 g2 =>
      cases g2 with
      | cons g2 g3 =>
        cases g3
        have g1 : Den X.K H2 _ (.int lo) := g1
        have g2 : Den X.K H2 _ (.int n) := g2
        cases g1
        cases g2
        exact ⟨lo, n, rfl, ⟨hz1.1, hz1.2, hz2.1, hz2.2⟩, k _ H2 H0 (Ex.refl _) (ok.ex e2) e2 itd_range⟩
  · cases h
/-! lists, tuples -/
theorem itd_list {K : PySem.W.Frag} {H0 : Hp} {p : Addr} {vs : List V} {ds : List D} (hl : SqL K H0 p vs) (hd : DenL K H0 vs ds) : ItD K H0 (Itl K p) ds where
  go := fun i H e h => by
    obtain ⟨v, h1, _⟩ := hd.get (List.getElem?_eq_getElem h)
    exact ⟨vs, v, ex_l e hl, h1⟩
  yld := fun i H x H' e h ⟨e1, e2⟩ => by
    subst e1
    obtain ⟨d, h1, h2⟩ := hd.getV (e2 vs (ex_l e hl))
    exact ⟨Ex.refl _, d, h1, h2.ex e⟩
  stop := fun i H e h => ⟨vs, ex_l e hl, by rw [hd.length]; exact h⟩
theorem itd_tup {K : PySem.W.Frag} {H0 : Hp} {p : Addr} {vs : List V} {ds : List D} (hl : SqT K H0 p vs) (hd : DenL K H0 vs ds) : ItD K H0 (Itt K p) ds where
  go := fun i H e h => by
    obtain ⟨v, h1, _⟩ := hd.get (List.getElem?_eq_getElem h)
    exact ⟨vs, v, ex_t e hl, h1⟩
  yld := fun i H x H' e h ⟨e1, e2⟩ => by
    subst e1
    obtain ⟨d, h1, h2⟩ := hd.getV (e2 vs (ex_t e hl))
    exact ⟨Ex.refl _, d, h1, h2.ex e⟩
  stop := fun i H e h => ⟨vs, ex_t e hl, by rw [hd.length]; exact h⟩
/-- over the list that a name holds -/
def frzV (i : Nat) (ρ : Rho) : Option (List D × Rho) := match ρ[i]? with
  | some (.own xs) => some (xs, ρ.set i (.bor xs))
  | some (.bor xs) => some (xs, ρ)
  | _ => none
def iV (i : Nat) : MI := frzV i
/-- what a name's list is, kept -/
theorem frz_ok {H0 H : Hp} {σ : L2.St} {ρ ρ' : Rho} {i : Nat} {ds : List D} (ok : Ok X H0 σ H ρ) (h : frzV i ρ = some (ds, ρ')) : ∃ H0' p vs, Ex H0 H0' ∧ Ok X H0' σ H ρ' ∧ TEx X.K H H0' ∧ σ[i]? = some (some (.ref p)) ∧ SqL X.K H0' p vs ∧ DenL X.K H0' vs ds := by
  have key : ∀ ρ', Ok X H0 σ H ρ' → ρ'[i]? = some (.bor ds) → ∃ H0' p vs, Ex H0 H0' ∧ Ok X H0' σ H ρ' ∧ TEx X.K H H0' ∧ σ[i]? = some (some (.ref p)) ∧ SqL X.K H0' p vs ∧ DenL X.K H0' vs ds := by
    rintro ρ' ⟨B, ok⟩ h
    obtain ⟨p, vs, s, l, g⟩ := ok.slot i _ h
    exact ⟨_, p, vs, ok.e0.trans ok.hid, ok.pin, ok.tex, s, ex_l ok.hid l, g.imp ok.tex⟩
  unfold frzV at h
  split at h
  · rename_i xs hx
    cases h
    exact key _ (ok.frz hx) (set_get (lt_of_get hx))
  · rename_i xs hx
    cases h
    exact key _ ok hx
  · cases h
theorem i_v (i : Nat) {x : Str} {pos : Pos} (hN : X.N[i]? = some x := by rfl) (hv : Vis X.env.scope x := by first | exact Or.inl rfl | exact Or.inr (Or.inl rfl) | exact Or.inr (Or.inr rfl)) (hd : (x == ("__debug__" : Str)) = false := by decide)
    (hcd : (x == ("__classdict__" : Str)) = false := by decide) : JI X tg (.Name x pos) (iV i) := by
  refine ⟨_, pi_list (pe_var hN hv hd hcd), fun H0 σ H ρ ds ρ' ok h R' k => ?_⟩
  obtain ⟨H0', p, vs, e0, ok', _, s, l, g⟩ := frz_ok ok h
  exact ⟨_, s, p, rfl, ⟨_, ex_l ok'.base l⟩, k _ H H0' e0 ok' (Ex.refl _) (itd_list l g)⟩
/-- over a new list -/
def iN (f : ME) : MI := fun ρ => match f ρ with
  | some (.new xs) => some (xs, ρ)
  | _ => none
theorem i_n (ha : JE X a f1) : JI X tg a (iN f1) := by
  obtain ⟨ta, pa, va⟩ := ha
  refine ⟨_, pi_list pa, fun H0 σ H ρ ds ρ' ok h R' k => ?_⟩
  unfold iN at h
  split at h
  · rename_i xs hx
    cases h
    refine va _ _ _ _ _ ok hx H (Ex.refl H) _ fun v H2 e2 ⟨p, vs, hv, n, l, gd⟩ => ?_
    subst hv
    obtain ⟨B, okb⟩ := ok
    have no := okb.fresh n
    have ok2 : Ok X H0 σ H2 ρ := Ok.ex ⟨B, okb⟩ e2
    obtain ⟨B2, okb2⟩ := ok2
    refine ⟨p, rfl, ⟨_, sq_of l⟩, k _ H2 _ (okb2.e0.trans okb2.hid) okb2.pin e2 (itd_list (sq_of ?_) (gd.imp okb2.tex))⟩
    rw [hidO_no no]
    exact l
  · cases h
/-- over a tuple -/
def iT (f : ME) : MI := fun ρ => (asTup (f ρ)).map fun xs => (xs, ρ)
theorem i_t (ha : JE X a f1) : JI X tg a (iT f1) := by
  obtain ⟨ta, pa, va⟩ := ha
  refine ⟨_, pi_tup pa, fun H0 σ H ρ ds ρ' ok h R' k => ?_⟩
  unfold iT at h
  obtain ⟨xs, hx, h⟩ := Option.map_eq_some_iff.mp h
  cases h
  refine (va _ _ _ _ _ ok (asTup_some hx)).tup H (Ex.refl H) _ fun p vs H2 e2 l gd => ?_
  obtain ⟨B2, okb2⟩ := ok.ex e2
  exact ⟨p, rfl, ⟨_, l⟩, k _ H2 _ (okb2.e0.trans okb2.hid) okb2.pin e2 (itd_tup (okb2.tex _ _ l) (gd.imp okb2.tex))⟩
end

/-! ### defs -/
def argC : R → C
  | .dat d => .dat d
  | .lst xs => .bor xs
  | .new xs => .bor xs
  | .ro xs => .bor xs
def startC (n : Nat) (rs : List R) : Rho := rs.map argC ++ List.replicate (n - rs.length) .un
def outR : Option F → Option R
  | some (.ret r) => some r
  | some (.nx _) => some (.dat .non)
  | _ => none
def mDef (n np : Nat) (body : MS) : Mir := fun rs => if rs.length = np then outR (body (startC n rs)) else none
theorem start_ok {X : Cx} {H : Hp} {vs : List V} {rs : List R} (h : ArgL X.K H vs rs) (N : List Str) : Ok X H (L2.start N vs) H (startC N.length rs) := by
  have len := h.length
  have get : ∀ {vs : List V} {rs : List R} {i : Nat} {r : R}, ArgL X.K H vs rs → rs[i]? = some r → ∃ v, vs[i]? = some v ∧ ArgOk X.K H v r := by
    intro vs rs i r h
    induction h generalizing i with
    | nil => intro e; simp at e
    | cons h1 h2 ih =>
      intro e
      cases i with
      | zero => cases Option.some.inj e; exact ⟨_, rfl, h1⟩
      | succ i =>
        obtain ⟨v, e1, e2⟩ := ih (i := i) (by simpa using e)
        exact ⟨v, by simpa using e1, e2⟩
  have own : ∀ (i : Nat) (xs : List D), (startC N.length rs)[i]? ≠ some (.own xs) := by
    intro i xs e
    unfold startC at e
    rw [List.getElem?_append] at e
    split at e
    · rw [List.getElem?_map] at e
      cases q : rs[i]? with
      | none => rw [q] at e; cases e
      | some r => rw [q] at e; cases r <;> cases Option.some.inj e
    · rw [List.getElem?_replicate] at e
      split at e <;> cases e
  refine ⟨H, Ex.refl _, Ex.refl _, ?_, fun i c hi => ?_, fun i j xs ys a hi _ _ _ => absurd hi (own i xs)⟩
  · unfold L2.start startC
    rw [List.length_append, List.length_append, List.length_map, List.length_map, List.length_replicate, List.length_replicate, len]
  · unfold startC at hi
    rw [List.getElem?_append] at hi
    split at hi
    · rename_i hlt
      rw [List.length_map] at hlt
      rw [List.getElem?_map] at hi
      cases q : rs[i]? with
      | none => rw [q] at hi; cases hi
      | some r =>
        rw [q] at hi
        cases Option.some.inj hi
        obtain ⟨v, e1, e2⟩ := get h q
        have s : (L2.start N vs)[i]? = some (some v) := by
          unfold L2.start
          rw [List.getElem?_append_left (by rw [List.length_map, len]; exact hlt), List.getElem?_map, e1]
          rfl
        cases r with
        | dat d => exact ⟨v, s, e2⟩
        | lst xs =>
          obtain ⟨a, ws, rfl, l, g⟩ := e2
          exact ⟨a, ws, s, sq_of l, g⟩
        | new xs =>
          obtain ⟨a, ws, rfl, l, g⟩ := e2
          exact ⟨a, ws, s, sq_of l, g⟩
        | ro xs =>
          obtain ⟨a, ws, rfl, l, g⟩ := e2
          exact ⟨a, ws, s, l, g⟩
    · rw [List.getElem?_replicate] at hi
      split at hi
      · cases hi; trivial
      · cases hi
abbrev W0 : WX := fun _ _ _ _ => False
section
variable {P : Program} {w : World} {K : PySem.W.Frag} {mg : Str → Option Value} {base : Heap}
theorem d_ok {x qual : Str} {st : Stmt} {f : Addr} {fd : FuncData} {N ps : List Str} {k : Nat} {mb : MS} (F : Fun K x qual st f fd) (S : FnScope N ps (defScope st))
    (hb : ∀ (cdv : Value) (A : Around) (outer : List Env) (s : Shared) (H : Hp) (E : XK), Room k (A.deeper (envOfC qual (defScope st) s.heap.objs.size f cdv)) → JB (cxOf CX0 P w K mg base N qual (defScope st) f cdv A outer s H E).nox W0 (defBody st) mb) :
    FnOk P w K mg base CX0 (k + 1) f fd ps (spM K (mDef N.length ps.length mb)) := by
  refine F.ok S (fun vs H Q E h => ?_) (fun cdv A outer s H vs Q E hr h => ?_)
  · obtain ⟨rs, r, ha, hm, _⟩ := h
    unfold mDef at hm
    split at hm
    · rename_i hl
      rw [ha.length]; exact hl
    · cases hm
  · obtain ⟨rs, r, ha, hm, q⟩ := h
    obtain ⟨ts, p, v⟩ := hb cdv A outer s H E hr
    unfold mDef at hm
    split at hm
    · refine ⟨ts, p, ?_⟩
      cases hf : mb (startC N.length rs) with
      | none => rw [hf] at hm; cases hm
      | some fl =>
        rw [hf] at hm
        refine v H _ _ H _ fl (start_ok ha N) hf ?_
        cases fl with
        | ret r' => cases hm; exact fun u H' e g => q u H' e g
        | nx ρ' => cases hm; exact fun σ' H' ok' => q .non H' ok'.base .non
        | brk _ => cases hm
        | cnt _ => cases hm
        | exc _ _ _ => cases hm
        | exc0 _ _ => cases hm
    · cases hm
/-- a def of the text, as others call it -/
def Cal (P : Program) (w : World) (K : PySem.W.Frag) (mg : Str → Option Value) (base : Heap) (x : Str) (k : Nat) (m : Mir) : Prop :=
  ∃ f fd ps, FnOk P w K mg base CX0 k f fd ps (spM K m) ∧ mg x = some (.ref f) ∧ PySem.W.keepIn K (.ref f) = true ∧ Binds K fd ps []
theorem x_cal {X : Cx} {a : Expr} {es : List Expr} {ma : MA} {pos p : Pos} {x : Str} {k : Nat} {m : Mir} (h : Cal X.prog X.w X.K X.mg X.base x k m) (hr : Room k X.A)
    (ha : JA X (a :: es) ma) (hg : Gl X x := by rfl) (hdb : (x == ("__debug__" : Str)) = false := by decide)
    (he : starEach (a :: es) X.env = (false, eval a X.env) :: starEach es X.env := by rfl) (hpl : (backTo pos (starEach es X.env)).any (·.1) = false := by rfl) : JE X (.Call (.Name x p) (a :: es) [] pos) (mCall m ma) := by
  obtain ⟨f, fd, ps, F, hm, hk, hb⟩ := h
  exact x_call F hr hm hk hb ha hg hdb he hpl
theorem law_end {m : Mir} {H : Hp} {a : Addr} {ns : List Int} (hS : SqL K H a (ns.map V.int)) (h : m [.ro (ns.map D.int)] = some (.dat (.bl true))) {E : XK} : spM K m [.ref a] H (fun v _ => v = .bl true) E :=
  ⟨[.ro (ns.map D.int)], .dat (.bl true), .cons ⟨a, _, rfl, hS, DenL.of_ints ns⟩ .nil, h, fun v H' e g => by
    have g : Den K H' v (.bl true) := g
    cases g
    rfl⟩
end
end
end Tl

namespace Tl
open PySem PySem.Spec PyProof.Rows L2 Evl
noncomputable section
/-! ### == at any depth -/
mutual
def py : D → PyData
  | .non => .none
  | .bl b => .bool b
  | .int i => .int i
  | .str x => .str x
  | .tup xs => .tuple (pyL xs)
def pyL : List D → List PyData
  | [] => []
  | x :: xs => py x :: pyL xs
end
section
variable {K : PySem.W.Frag} {H : Hp}
mutual
theorem Den.dp : ∀ {v : V} {d : D}, Den K H v d → Dp K H v (py d)
  | _, _, .non => .non
  | _, _, .bl b => .bl b
  | _, _, .int i => .int i
  | _, _, .str x => .str x
  | _, _, .tup h hl => .tup h (DenL.dp hl)
theorem DenL.dp : ∀ {vs : List V} {ds : List D}, DenL K H vs ds → DpAll K H vs (pyL ds)
  | _, _, .nil => .nil
  | _, _, .cons h hl => .cons (Den.dp h) (DenL.dp hl)
end
end
def shp (d : D) : Bool := SeqAt.shaped (py d)
def eqD (a b : D) : Bool := PyData.eqv (py a) (py b)
def mEqD (f1 f2 : ME) : ME := fun ρ => (asDat (f1 ρ)).bind fun a => (asDat (f2 ρ)).bind fun b => if (shp a && shp b) = true then some (.dat (.bl (eqD a b))) else none
def mNeD (f1 f2 : ME) : ME := fun ρ => (asDat (f1 ρ)).bind fun a => (asDat (f2 ρ)).bind fun b => if (shp a && shp b) = true then some (.dat (.bl (!eqD a b))) else none
section
variable {X : Cx} {W : WX} {a b c e : Expr} {pos : Pos} {f1 f2 f3 : ME} {es : List Expr} {ma : MA} {m1 m2 : MS} {t : MT}
theorem ev_eqD {ta tb : TE} {σ : L2.St} {H : Hp} {ρ : Rho} {r : R} {H0 : Hp} (va : ∀ H0 σ H ρ r, Ok X H0 σ H ρ → f1 ρ = some r → EvR X.K ta σ H r) (vb : ∀ H0 σ H ρ r, Ok X H0 σ H ρ → f2 ρ = some r → EvR X.K tb σ H r) (ok : Ok X H0 σ H ρ)
    (h : mEqD f1 f2 ρ = some r) : EvR X.K (tOp (rEqD X.K) ta tb) σ H r := by
  unfold mEqD at h
  obtain ⟨d, hd, h⟩ := Option.bind_eq_some_iff.mp h
  obtain ⟨e, he, h⟩ := Option.bind_eq_some_iff.mp h
  split at h
  · rename_i hz
    rw [Bool.and_eq_true] at hz
    cases h
    intro H1 e1 Q q
    refine va _ _ _ _ _ ok (asDat_some hd) H1 e1 _ fun v H2 e2 gv => ?_
    refine vb _ _ _ _ _ ok (asDat_some he) H2 (e1.trans e2) _ fun w H3 e3 gw => ?_
    exact ⟨py d, py e, (Den.ex gv e3).dp, Den.dp gw, hz.1, hz.2, q _ H3 (e2.trans e3) (.bl _)⟩
  · cases h
theorem ev_neD {ta tb : TE} {σ : L2.St} {H : Hp} {ρ : Rho} {r : R} {H0 : Hp} (va : ∀ H0 σ H ρ r, Ok X H0 σ H ρ → f1 ρ = some r → EvR X.K ta σ H r) (vb : ∀ H0 σ H ρ r, Ok X H0 σ H ρ → f2 ρ = some r → EvR X.K tb σ H r) (ok : Ok X H0 σ H ρ)
    (h : mNeD f1 f2 ρ = some r) : EvR X.K (tOp (rNeD X.K) ta tb) σ H r := by
  unfold mNeD at h
  obtain ⟨d, hd, h⟩ := Option.bind_eq_some_iff.mp h
  obtain ⟨e, he, h⟩ := Option.bind_eq_some_iff.mp h
  split at h
  · rename_i hz
    rw [Bool.and_eq_true] at hz
    cases h
    intro H1 e1 Q q
    refine va _ _ _ _ _ ok (asDat_some hd) H1 e1 _ fun v H2 e2 gv => ?_
    refine vb _ _ _ _ _ ok (asDat_some he) H2 (e1.trans e2) _ fun w H3 e3 gw => ?_
    exact ⟨py d, py e, (Den.ex gv e3).dp, Den.dp gw, hz.1, hz.2, q _ H3 (e2.trans e3) (.bl _)⟩
  · cases h
theorem x_eqD (hu : X.A.units + 64 < cLine) (ha : JE X a f1) (hb : JE X b f2) : JE X (.Compare a [.Eq] [b] pos) (mEqD f1 f2) := by
  obtain ⟨ta, pa, va⟩ := ha
  obtain ⟨tb, pb, vb⟩ := hb
  exact ⟨_, pe_cmpR (op_eqD hu) pa pb (nomark _), fun H0 σ H ρ r ok h => ev_eqD va vb ok h⟩
theorem t_eqD (hu : X.A.units + 64 < cLine) (ha : JE X a f1) (hb : JE X b f2) : JT X (.Compare a [.Eq] [b] pos) (mT (mEqD f1 f2)) := by
  obtain ⟨ta, pa, va⟩ := ha
  obtain ⟨tb, pb, vb⟩ := hb
  exact ⟨_, pt_cmpR (op_eqD hu) pa pb (nomark _), fun H0 σ H ρ r ok h => ev_test h fun r hr => ev_eqD va vb ok hr⟩
theorem x_neD (hu : X.A.units + 64 < cLine) (ha : JE X a f1) (hb : JE X b f2) : JE X (.Compare a [.NotEq] [b] pos) (mNeD f1 f2) := by
  obtain ⟨ta, pa, va⟩ := ha
  obtain ⟨tb, pb, vb⟩ := hb
  exact ⟨_, pe_cmpR (op_neD hu) pa pb (nomark _), fun H0 σ H ρ r ok h => ev_neD va vb ok h⟩
theorem t_neD (hu : X.A.units + 64 < cLine) (ha : JE X a f1) (hb : JE X b f2) : JT X (.Compare a [.NotEq] [b] pos) (mT (mNeD f1 f2)) := by
  obtain ⟨ta, pa, va⟩ := ha
  obtain ⟨tb, pb, vb⟩ := hb
  exact ⟨_, pt_cmpR (op_neD hu) pa pb (nomark _), fun H0 σ H ρ r ok h => ev_test h fun r hr => ev_neD va vb ok hr⟩
/-! ### isinstance of plain data -/
def isiD : String → D → Option Bool
  | "int", .int _ => some true
  | "int", .bl _ => some true
  | "int", .non => some false
  | "int", .str _ => some false
  | "int", .tup _ => some false
  | "bool", .int _ => some false
  | "bool", .bl _ => some true
  | "bool", .non => some false
  | "bool", .str _ => some false
  | "bool", .tup _ => some false
  | "str", .int _ => some false
  | "str", .bl _ => some false
  | "str", .non => some false
  | "str", .str _ => some true
  | "str", .tup _ => some false
  | "tuple", .int _ => some false
  | "tuple", .bl _ => some false
  | "tuple", .non => some false
  | "tuple", .str _ => some false
  | "tuple", .tup _ => some true
  | _, _ => none
def tyD : D → String
  | .int _ => "int"
  | .bl _ => "bool"
  | .non => "NoneType"
  | .str _ => "str"
  | .tup _ => "tuple"
theorem isi_kit {T : String} {d : D} {k : Bool} (h : isiD T d = some k) : kitB (tyD d) T = some k := by
  unfold isiD at h
  split at h <;> first | (cases h; first | decide +kernel | rfl) | cases h
theorem den_ty {K : PySem.W.Frag} {H : Hp} {v : V} {d : D} (h : Den K H v d) : TyX K H v (.type (tyD d)) := by
  cases h with
  | non => exact .base .non
  | bl b => exact .base (.bl b)
  | int i => exact .base (.int i)
  | str x => exact .base (.str x)
  | tup h _ =>
    rcases h with (h | ⟨o, h⟩) | ⟨o, its, n, h1, h2, _⟩
    · exact .base (.tup h)
    · exact .fTuple h
    · exact .kTuple h1 h2
def mIsi (T : String) (f : ME) : ME := fun ρ => (asDat (f ρ)).bind fun d => (isiD T d).map fun k => .dat (.bl k)
theorem x_isi {T : String} {y : Str} {p p2 : Pos} (hm : X.mg "isinstance" = none) (hmT : X.mg y = none) (hvT : bootBuiltins y = some (.type T)) (ha : JE X a f1) (hg : Gl X "isinstance" := by rfl) (hgT : Gl X y := by rfl) (hnT : y ≠ "__name__" := by decide) (hdT : (y == ("__debug__" : Str)) = false := by decide)
    (hs : starEach (a :: [.Name y p2]) X.env = (false, eval a X.env) :: starEach [.Name y p2] X.env := by rfl) (hs2 : starEach (.Name y p2 :: []) X.env = (false, eval (.Name y p2) X.env) :: starEach [] X.env := by rfl)
    (hpl : (backTo pos (starEach [.Name y p2] X.env)).any (·.1) = false := by rfl) : JE X (.Call (.Name "isinstance" p) [a, .Name y p2] [] pos) (mIsi T f1) := by
  obtain ⟨ta, pa, va⟩ := ha
  refine ⟨_, pe_callB call_isi hg hm PyProof.Rows.boot_isinstance (pa_cons pa (pa_cons (pe_bltn (v := .ty T) hgT hmT hvT rfl hnT hdT) pa_nil hs2) hs) (he := hs) (hpl := hpl), fun H0 σ H ρ r ok h => ?_⟩
  unfold mIsi at h
  obtain ⟨d, hd, h⟩ := Option.bind_eq_some_iff.mp h
  obtain ⟨k, hk, h⟩ := Option.map_eq_some_iff.mp h
  subst h
  intro H1 e1 Q q
  refine va _ _ _ _ _ ok (asDat_some hd) H1 e1 _ fun v H2 e2 gv => ?_
  exact ⟨v, _, _, _, k, rfl, .ty T, den_ty gv, kit_ty (isi_kit hk), q _ H2 e2 (.bl k)⟩
/-! ### int(a bool) -/
def gIntB : List R → Option R
  | [.dat (.bl k)] => some (.dat (.int (if k then 1 else 0)))
  | [.dat (.int i)] => some (.dat (.int i))
  | _ => none
def mIntOf (f : ME) : ME := fun ρ => (aCons f aNil ρ).bind gIntB
theorem x_intOf {p : Pos} (hm : X.mg "int" = none) (ha : JE X a f1) (hg : Gl X "int" := by rfl) (hs : starEach (a :: []) X.env = (false, eval a X.env) :: starEach [] X.env := by rfl) : JE X (.Call (.Name "int" p) [a] [] pos) (mIntOf f1) := by
  refine x_bltT call_int1 hg hm PyProof.Rows.boot_int (g := gIntB) (fun rs vs H q Q h g k => ?_) (a_cons ha a_nil hs) (he := hs)
  unfold gIntB at h
  split at h
  · rename_i i
    cases h
    cases g with
    | cons g1 g2 =>
      cases g2
      have g1 : Den X.K H _ (.bl i) := g1
      cases g1
      exact .inr ⟨i, rfl, k _ H (Ex.refl H) (.int _)⟩
  · rename_i i
    cases h
    cases g with
    | cons g1 g2 =>
      cases g2
      have g1 : Den X.K H _ (.int i) := g1
      cases g1
      exact .inl ⟨i, rfl, k _ H (Ex.refl H) (.int _)⟩
  · cases h
/-! ### is None -/
def isNon : D → Bool
  | .non => true
  | _ => false
def mIsN (f : ME) : ME := fun ρ => (asDat (f ρ)).map fun d => .dat (.bl (isNon d))
def mNotN (f : ME) : ME := fun ρ => (asDat (f ρ)).map fun d => .dat (.bl (!isNon d))
theorem den_non {K : PySem.W.Frag} {H : Hp} {v : V} {d : D} (h : Den K H v d) : decide (v = .non) = isNon d := by
  cases h <;> simp [isNon]
theorem t_isN {j pos'} (ha : JE X a f1) : JT X (.Compare a [.Is] [.Constant .none j pos'] pos) (mT (mIsN f1)) := by
  obtain ⟨ta, pa, va⟩ := ha
  refine ⟨_, pt_cmp (pc_isN pa), fun H0 σ H ρ k ok h => ?_⟩
  have h := asBl_some h
  unfold mIsN at h
  obtain ⟨d, hd, h⟩ := Option.map_eq_some_iff.mp h
  cases h
  exact et_B fun H1 e1 Q q => va _ _ _ _ _ ok (asDat_some hd) H1 e1 _ fun v H2 e2 gv => by
    show Q (.bl (decide (v = .non))) H2
    rw [den_non gv]
    exact q H2 e2
theorem x_isN {j pos'} (ha : JE X a f1) : JE X (.Compare a [.Is] [.Constant .none j pos'] pos) (mIsN f1) := by
  obtain ⟨ta, pa, va⟩ := ha
  refine ⟨_, pe_cmp (pc_isN pa), fun H0 σ H ρ k ok h => ?_⟩
  unfold mIsN at h
  obtain ⟨d, hd, h⟩ := Option.map_eq_some_iff.mp h
  cases h
  exact fun H1 e1 Q q => va _ _ _ _ _ ok (asDat_some hd) H1 e1 _ fun v H2 e2 gv => by
    show Q (.bl (decide (v = .non))) H2
    rw [den_non gv]
    exact q _ H2 e2 (.bl _)
theorem t_notN {j pos'} (ha : JE X a f1) : JT X (.Compare a [.IsNot] [.Constant .none j pos'] pos) (mT (mNotN f1)) := by
  obtain ⟨ta, pa, va⟩ := ha
  refine ⟨_, pt_cmp (pc_notN pa), fun H0 σ H ρ k ok h => ?_⟩
  have h := asBl_some h
  unfold mNotN at h
  obtain ⟨d, hd, h⟩ := Option.map_eq_some_iff.mp h
  cases h
  exact et_B fun H1 e1 Q q => va _ _ _ _ _ ok (asDat_some hd) H1 e1 _ fun v H2 e2 gv => by
    show Q (.bl (!decide (v = .non))) H2
    rw [den_non gv]
    exact q H2 e2
theorem x_notN {j pos'} (ha : JE X a f1) : JE X (.Compare a [.IsNot] [.Constant .none j pos'] pos) (mNotN f1) := by
  obtain ⟨ta, pa, va⟩ := ha
  refine ⟨_, pe_cmp (pc_notN pa), fun H0 σ H ρ k ok h => ?_⟩
  unfold mNotN at h
  obtain ⟨d, hd, h⟩ := Option.map_eq_some_iff.mp h
  cases h
  exact fun H1 e1 Q q => va _ _ _ _ _ ok (asDat_some hd) H1 e1 _ fun v H2 e2 gv => by
    show Q (.bl (!decide (v = .non))) H2
    rw [den_non gv]
    exact q _ H2 e2 (.bl _)
end
end
end Tl

namespace Tl
open PySem PySem.Spec PyProof.Rows L2 Evl
noncomputable section
theorem loop_all {g : MG} {body : MS} (I : Rho → Prop) : ∀ {ds : List D}, (∀ d ∈ ds, ∀ ρ, I ρ → ∃ ρ1 ρ2, g d ρ = some ρ1 ∧ body ρ1 = some (.nx ρ2) ∧ I ρ2) → ∀ ρ, I ρ → ∃ ρ', loopM g body ds ρ = some (.nx ρ') ∧ I ρ'
  | [], _, ρ, hI => ⟨ρ, rfl, hI⟩
  | d :: ds, h, ρ, hI => by
    obtain ⟨ρ1, ρ2, h1, h2, h3⟩ := h d List.mem_cons_self ρ hI
    obtain ⟨ρ', h4, h5⟩ := loop_all I (ds := ds) (fun d hd => h d (List.mem_cons_of_mem _ hd)) ρ2 h3
    refine ⟨ρ', ?_, h5⟩
    unfold loopM
    rw [h1]
    show (match body ρ1 with | some (.nx ρ') => loopM g body ds ρ' | some (.cnt ρ') => loopM g body ds ρ' | some (.brk ρ') => some (.nx ρ') | r => r) = _
    rw [h2]
    exact h4
theorem mem_rngD {lo : Int} {n : Nat} {d : D} (h : d ∈ rngD lo n) : ∃ i : Nat, i < n ∧ d = .int (lo + (i : Nat)) := by
  unfold rngD at h
  obtain ⟨i, hi, e⟩ := List.mem_map.mp h
  exact ⟨i, List.mem_range.mp hi, e.symm⟩
theorem v_seq {s t : MS} {ρ ρ' : Rho} {r : Option F} (h1 : s ρ = some (.nx ρ')) (h2 : t ρ' = r) : mSeq s t ρ = r := by
  unfold mSeq
  rw [h1]
  exact h2
theorem v_for {mi : MI} {g : MG} {mb : MS} {ρ ρ' : Rho} {ds : List D} {r : Option F} (h1 : mi ρ = some (ds, ρ')) (h2 : loopM g mb ds ρ' = r) : mFor mi g mb ρ = r := by
  unfold mFor
  rw [h1]
  exact h2
theorem v_call {m : Mir} {ma : MA} {ρ : Rho} {rs : List R} {r : Option R} (h1 : ma ρ = some rs) (h2 : m (rs.map argN) = r) : mCall m ma ρ = r := by
  unfold mCall
  rw [h1]
  exact h2
theorem v_def {n np : Nat} {b : MS} {rs : List R} {r : Option R} (h : rs.length = np) (h2 : outR (b (startC n rs)) = r) : mDef n np b rs = r := by
  unfold mDef
  rw [if_pos h]
  exact h2
/-! data -/
theorem canLay_ints : ∀ ns : List Int, PyData.canLayAll0 (pyL (ns.map D.int)) = true
  | [] => by simp [pyL, PyData.canLayAll0]
  | n :: ns => by simp [pyL, py, PyData.canLayAll0, PyData.canLay0, canLay_ints ns]
theorem depth_ints : ∀ ns : List Int, PyData.depthAll (pyL (ns.map D.int)) = 0
  | [] => by simp [pyL, PyData.depthAll]
  | n :: ns => by simp [pyL, py, PyData.depthAll, PyData.depth, depth_ints ns]
theorem shp_ints (ns : List Int) : shp (.tup (ns.map D.int)) = true := by
  simp [shp, SeqAt.shaped, py, PyData.canLay0, PyData.depth, canLay_ints, depth_ints]
theorem shp_int (n : Int) : shp (.int n) = true := by simp [shp, SeqAt.shaped, py, PyData.canLay0, PyData.depth]
theorem shp_non : shp .non = true := by simp [shp, SeqAt.shaped, py, PyData.canLay0, PyData.depth]
theorem eqv_ints : ∀ ns ms : List Int, PyData.eqvAll (pyL (ns.map D.int)) (pyL (ms.map D.int)) = okP (ns = ms)
  | [], [] => by rw [okP_t rfl]; simp [pyL, PyData.eqvAll]
  | [], m :: ms => by rw [okP_f (by simp)]; simp [pyL, PyData.eqvAll]
  | n :: ns, [] => by rw [okP_f (by simp)]; simp [pyL, PyData.eqvAll]
  | n :: ns, m :: ms => by
    by_cases h : n = m
    · by_cases h2 : ns = ms
      · rw [okP_t (by rw [h, h2])]
        have ih := eqv_ints ns ms
        rw [okP_t h2] at ih
        simp [pyL, py, PyData.eqvAll, PyData.eqv, ih, h]
      · rw [okP_f (by simp [h2])]
        have ih := eqv_ints ns ms
        rw [okP_f h2] at ih
        simp [pyL, py, PyData.eqvAll, PyData.eqv, ih, h]
    · rw [okP_f (by simp [h])]
      simp [pyL, py, PyData.eqvAll, PyData.eqv, h]
theorem eqD_ints (ns ms : List Int) : eqD (.tup (ns.map D.int)) (.tup (ms.map D.int)) = okP (ns = ms) := by
  simp [eqD, py, PyData.eqv, eqv_ints]
theorem eqD_pair (a b c d : Int) : eqD (.tup [.int a, .int b]) (.tup [.int c, .int d]) = okP (a = c ∧ b = d) := by
  have h := eqD_ints [a, b] [c, d]
  simp only [List.map_cons, List.map_nil] at h
  rw [h]
  congr 1
  simp
theorem shp_pair (a b : Int) : shp (.tup [.int a, .int b]) = true := shp_ints [a, b]
/-! places -/
theorem atI_map {α : Type} {f : α → D} {ns : List α} {i : Int} {v : α} (h : atI ns i = some v) : atI (ns.map f) i = some (f v) := by
  unfold atI at h ⊢
  rw [List.length_map]
  obtain ⟨j, hj, h⟩ := Option.bind_eq_some_iff.mp h
  rw [hj]
  show (ns.map f)[j]? = _
  rw [List.getElem?_map, h]
  rfl
theorem atI_in {α : Type} {ns : List α} {i : Int} (h0 : 0 ≤ i) (h1 : i < ns.length) : ∃ v, atI ns i = some v := by
  unfold atI ixN
  rw [if_pos h0, if_pos h1]
  have : i.toNat < ns.length := by omega
  exact ⟨ns[i.toNat], by simp [this]⟩
theorem atI_0 {α : Type} {a : α} {l : List α} : atI (a :: l) 0 = some a := atI_nat (j := 0) rfl
theorem atI_1 {α : Type} {a b : α} {l : List α} : atI (a :: b :: l) 1 = some b := atI_nat (j := 1) rfl
theorem atI_2 {α : Type} {a b c : α} {l : List α} : atI (a :: b :: c :: l) 2 = some c := atI_nat (j := 2) rfl
theorem atI_3 {α : Type} {a b c d : α} {l : List α} : atI (a :: b :: c :: d :: l) 3 = some d := atI_nat (j := 3) rfl
theorem atI_4 {α : Type} {a b c d e : α} {l : List α} : atI (a :: b :: c :: d :: e :: l) 4 = some e := atI_nat (j := 4) rfl
theorem atI_5 {α : Type} {a b c d e f : α} {l : List α} : atI (a :: b :: c :: d :: e :: f :: l) 5 = some f := atI_nat (j := 5) rfl
theorem cut3 {α : Type} (a b c d : α) : cutD [a, b, c, d] none (some 3) = [a, b, c] := rfl
/-- numbers drawn: each below its width -/
inductive Drawn : List Int → List Int → Prop
  | nil : Drawn [] []
  | cons {d w : Int} {ds ws : List Int} : 0 ≤ d → d < w → Drawn ds ws → Drawn (d :: ds) (w :: ws)
theorem Drawn.snoc : ∀ {ds ws : List Int} {d w : Int}, Drawn ds ws → 0 ≤ d → d < w → Drawn (ds ++ [d]) (ws ++ [w])
  | _, _, _, _, .nil, h0, h1 => .cons h0 h1 .nil
  | _, _, _, _, .cons a b t, h0, h1 => .cons a b (t.snoc h0 h1)
theorem Drawn.length : ∀ {ds ws : List Int}, Drawn ds ws → ds.length = ws.length
  | _, _, .nil => rfl
  | _, _, .cons _ _ t => congrArg (· + 1) t.length
/-- widths: positive, not too great -/
def WOk (w : Int) : Prop := 0 < w ∧ w.natAbs.log2 < 9000
theorem wok_of {w : Int} {b : Nat} (h : 0 < w) (hb : w.natAbs < 2 ^ b) (h0 : 0 < b) (h9 : b ≤ 9000) : WOk w := ⟨h, Nat.lt_of_lt_of_le (PySem.Flt.log2_lt_of h0 hb) h9⟩
theorem take_snoc {α : Type} {l : List α} {i : Nat} {x : α} (h : l[i]? = some x) : l.take (i + 1) = l.take i ++ [x] := by
  rw [List.take_add_one, h]; rfl
theorem drop_rng {lo : Int} {n i : Nat} (hi : i < n) : (rngD lo n).drop i = .int (lo + (i : Nat)) :: (rngD lo n).drop (i + 1) := by
  have hr : i < (rngD lo n).length := by rw [rngD_len]; exact hi
  rw [List.drop_eq_getElem_cons hr]
  congr 1
  have := rngD_get (lo := lo) hi
  rw [List.getElem?_eq_getElem hr] at this
  exact Option.some.inj this
end
end Tl

namespace Tl
open PySem PySem.Spec PyProof.Rows L2 Evl
noncomputable section
/-! ### defs that may refuse -/
inductive Out where
  | ok (r : R) | exc (c : Str) (fs : List (Str × D)) | exc0 (c : Str)
abbrev MirX := List R → Option Out
def OutP (K : PySem.W.Frag) (mg : Str → Option Value) (H : Hp) (Q : VK) (E : XK) : Out → Prop
  | .ok r => RetP K H Q r
  | .exc c fs => ∀ C d H' gs, mg c = some (.ref C) → Ex H H' → H d = none → H' d = some (.xd gs) → FldL K H' gs fs → E (.ref C) (some d) H'
  | .exc0 c => ∀ C H', mg c = some (.ref C) → Ex H H' → E (.ref C) none H'
def spX (K : PySem.W.Frag) (mg : Str → Option Value) (m : MirX) : Sp := fun vs H Q E => ∃ rs o, ArgL K H vs rs ∧ m rs = some o ∧ OutP K mg H Q E o
def outX : Option F → Option Out
  | some (.ret r) => some (.ok r)
  | some (.nx _) => some (.ok (.dat .non))
  | some (.exc c fs _) => some (.exc c fs)
  | some (.exc0 c _) => some (.exc0 c)
  | _ => none
def mDefX (n np : Nat) (body : MS) : MirX := fun rs => if rs.length = np then outX (body (startC n rs)) else none
def okX (m : MirX) : Mir := fun rs => match m rs with
  | some (.ok r) => some r
  | _ => none
section
variable {P : Program} {w : World} {K : PySem.W.Frag} {mg : Str → Option Value} {base : Heap}
theorem d_okX {x qual : Str} {st : Stmt} {f : Addr} {fd : FuncData} {N ps : List Str} {k : Nat} {mb : MS} (F : Fun K x qual st f fd) (S : FnScope N ps (defScope st))
    (hb : ∀ (cdv : Value) (A : Around) (outer : List Env) (s : Shared) (H : Hp) (E : XK), Room k (A.deeper (envOfC qual (defScope st) s.heap.objs.size f cdv)) → Takes (cxOf (L2.CX P w) P w K mg base N qual (defScope st) f cdv A outer s H E) (fun cls d _ H => E cls d H) →
      JB (cxOf (L2.CX P w) P w K mg base N qual (defScope st) f cdv A outer s H E) (fun cls d _ H => E cls d H) (defBody st) mb) :
    FnOk P w K mg base (L2.CX P w) (k + 1) f fd ps (spX K mg (mDefX N.length ps.length mb)) := by
  refine F.okX S (fun vs H Q E h => ?_) (fun cdv A outer s H vs Q E hr h => ?_)
  · obtain ⟨rs, r, ha, hm, _⟩ := h
    unfold mDefX at hm
    split at hm
    · rename_i hl
      rw [ha.length]; exact hl
    · cases hm
  · obtain ⟨rs, r, ha, hm, q⟩ := h
    obtain ⟨ts, p, v⟩ := hb cdv A outer s H E hr (takes_of rfl rfl rfl rfl)
    unfold mDefX at hm
    split at hm
    · refine ⟨ts, p, ?_⟩
      cases hf : mb (startC N.length rs) with
      | none => rw [hf] at hm; cases hm
      | some fl =>
        rw [hf] at hm
        refine v H _ _ H _ fl (start_ok (X := cxOf (L2.CX P w) P w K mg base N qual (defScope st) f cdv A outer s H E) ha N) hf ?_
        cases fl with
        | ret r' => cases hm; exact fun u H' e g => q u H' e g
        | nx ρ' => cases hm; exact fun σ' H' ok' => q .non H' ok'.base .non
        | brk _ => cases hm
        | cnt _ => cases hm
        | exc c fs ρ' => cases hm; exact fun C d σ' H' gs hc ok' n hd hf => q C d H' gs hc ok'.base n hd hf
        | exc0 c ρ' => cases hm; exact fun C σ' H' hc ok' => q C H' hc ok'.base
    · cases hm
def CalX (P : Program) (w : World) (K : PySem.W.Frag) (mg : Str → Option Value) (base : Heap) (x : Str) (k : Nat) (m : MirX) : Prop :=
  ∃ f fd ps, FnOk P w K mg base (L2.CX P w) k f fd ps (spX K mg m) ∧ mg x = some (.ref f) ∧ PySem.W.keepIn K (.ref f) = true ∧ Binds K fd ps []
end
section
variable {X : Cx} {W : WX} {a b c e : Expr} {pos p : Pos} {f1 f2 f3 : ME} {es : List Expr} {ma : MA} {x : Str} {k : Nat} {m : MirX}
/-- a call that refuses nothing here -/
theorem x_calX (h : CalX X.prog X.w X.K X.mg X.base x k m) (hr : Room k X.A)
    (ha : JA X (a :: es) ma) (hg : Gl X x := by rfl) (hdb : (x == ("__debug__" : Str)) = false := by decide)
    (he : starEach (a :: es) X.env = (false, eval a X.env) :: starEach es X.env := by rfl) (hpl : (backTo pos (starEach es X.env)).any (·.1) = false := by rfl) : JE X (.Call (.Name x p) (a :: es) [] pos) (mCall (okX m) ma) := by
  obtain ⟨f, fd, ps, F, hm, hk, hb⟩ := h
  refine x_callW (m := okX m) (E := E0) F (fun vs H Q h => ?_) hr hg hm hk hb passL ha hdb he hpl
  obtain ⟨rs, r, ha, hm, q⟩ := h
  unfold okX at hm
  split at hm
  · rename_i r' hr'
    cases hm
    exact ⟨rs, _, ha, hr', q⟩
  · cases hm
/-- what comes of a call that may refuse -/
def callX (m : MirX) (ma : MA) (ρ : Rho) : Option Out := (ma ρ).bind fun rs => m (rs.map argN)
def mSetX (i : Nat) (m : MirX) (ma : MA) : MS := fun ρ => match callX m ma ρ with
  | some (.ok r) => (setR i ρ (some r)).map .nx
  | some (.exc c fs) => some (.exc c fs ρ)
  | some (.exc0 c) => some (.exc0 c ρ)
  | none => none
def mExprX (m : MirX) (ma : MA) : MS := fun ρ => match callX m ma ρ with
  | some (.ok _) => some (.nx ρ)
  | some (.exc c fs) => some (.exc c fs ρ)
  | some (.exc0 c) => some (.exc0 c ρ)
  | none => none
def mRetX (m : MirX) (ma : MA) : MS := fun ρ => match callX m ma ρ with
  | some (.ok r) => retR (some r)
  | some (.exc c fs) => some (.exc c fs ρ)
  | some (.exc0 c) => some (.exc0 c ρ)
  | none => none
theorem outp_of {H0 H H2 : Hp} {σ : L2.St} {ρ : Rho} {D : Ends} {Q : VK} {o : Out} {fl : F} (ok : Ok X H0 σ H ρ) (e2 : Ex H H2) (q : Post X H0 D W fl)
    (h1 : ∀ r, o = .ok r → RetP X.K H2 Q r) (h2 : ∀ c fs, o = .exc c fs → fl = .exc c fs ρ) (h3 : ∀ c, o = .exc0 c → fl = .exc0 c ρ) : OutP X.K X.mg H2 Q (WE W σ) o := by
  cases o with
  | ok r => exact h1 r rfl
  | exc c fs =>
    have z := h2 c fs rfl
    subst z
    exact fun C d H' gs hc e' n hd hf => q C d σ H' gs hc (ok.ex (e2.trans e')) (fresh_back (ok.base.trans e2) n) hd hf
  | exc0 c =>
    have z := h3 c rfl
    subst z
    exact fun C H' hc e' => q C σ H' hc (ok.ex (e2.trans e'))
theorem s_setX (i : Nat) {y : Str} {pos' cp : Pos} (h : CalX X.prog X.w X.K X.mg X.base x k m) (hr : Room k X.A) (tk : Takes X W) (hN : X.N.Nodup) (ha : JA X (a :: es) ma) (hg : Gl X x := by rfl) (hdb : (x == ("__debug__" : Str)) = false := by decide)
    (he : starEach (a :: es) X.env = (false, eval a X.env) :: starEach es X.env := by rfl) (hpl : (backTo cp (starEach es X.env)).any (·.1) = false := by rfl)
    (hi : X.N[i]? = some y := by rfl) (hx : Loc X.env.scope y := by first | exact Or.inl rfl | exact Or.inr rfl) (hs : swapsWith (.Call (.Name x p) (a :: es) [] cp) (some (.Name y pos')) pos.line X.env = pure false := by rfl)
    (hf : X.fn y = true ∨ X.env.scope.names.lookup y = some .local := by first | exact .inl rfl | exact .inr rfl | assumption) : JS X W (.Assign [.Name y pos'] (.Call (.Name x p) (a :: es) [] cp) pos) (mSetX i m ma) := by
  obtain ⟨f, fd, ps, F, hm, hk, hb⟩ := h
  obtain ⟨ta, pa, va⟩ := ha
  refine ⟨_, ps_set hN hi hx (pe_callS F hr hg hm hk hb (fun σ => passAt tk σ) pa hdb he hpl) hs hf, fun H0 D σ H ρ fl ok h q => ?_⟩
  unfold mSetX callX at h
  cases hrs : ma ρ with
  | none => rw [hrs] at h; cases h
  | some rs =>
    rw [hrs, Option.bind_some] at h
    refine va _ _ _ _ _ ok hrs H (Ex.refl H) _ fun vs H2 e2 g => ?_
    cases ho : m (rs.map argN) with
    | none => rw [ho] at h; cases h
    | some o =>
      rw [ho] at h
      refine ⟨rs.map argN, o, g.norm, ho, outp_of ok e2 q (fun r z => ?_) (fun c fs z => ?_) (fun c z => ?_)⟩
      · subst z
        obtain ⟨ρ', h1, h2⟩ := Option.map_eq_some_iff.mp h
        subst h2
        exact fun v H' e' gv => q _ _ (setR_ok (ok.ex e2) h1 e' gv)
      · subst z
        cases h
        rfl
      · subst z
        cases h
        rfl
theorem s_exprX {cp : Pos} (h : CalX X.prog X.w X.K X.mg X.base x k m) (hr : Room k X.A) (tk : Takes X W) (ha : JA X (a :: es) ma) (hg : Gl X x := by rfl) (hdb : (x == ("__debug__" : Str)) = false := by decide)
    (he : starEach (a :: es) X.env = (false, eval a X.env) :: starEach es X.env := by rfl) (hpl : (backTo cp (starEach es X.env)).any (·.1) = false := by rfl)
    (hs : swapsWith (.Call (.Name x p) (a :: es) [] cp) none pos.line X.env = pure false := by rfl) : JS X W (.Expr (.Call (.Name x p) (a :: es) [] cp) pos) (mExprX m ma) := by
  obtain ⟨f, fd, ps, F, hm, hk, hb⟩ := h
  obtain ⟨ta, pa, va⟩ := ha
  refine ⟨_, ps_expr (pe_callS F hr hg hm hk hb (fun σ => passAt tk σ) pa hdb he hpl) hs, fun H0 D σ H ρ fl ok h q => ?_⟩
  unfold mExprX callX at h
  cases hrs : ma ρ with
  | none => rw [hrs] at h; cases h
  | some rs =>
    rw [hrs, Option.bind_some] at h
    refine va _ _ _ _ _ ok hrs H (Ex.refl H) _ fun vs H2 e2 g => ?_
    cases ho : m (rs.map argN) with
    | none => rw [ho] at h; cases h
    | some o =>
      rw [ho] at h
      refine ⟨rs.map argN, o, g.norm, ho, outp_of ok e2 q (fun r z => ?_) (fun c fs z => ?_) (fun c z => ?_)⟩
      · subst z
        cases h
        exact fun v H' e' gv => q _ _ (ok.ex (e2.trans e'))
      · subst z
        cases h
        rfl
      · subst z
        cases h
        rfl
theorem s_retX {cp : Pos} (h : CalX X.prog X.w X.K X.mg X.base x k m) (hr : Room k X.A) (tk : Takes X W) (ha : JA X (a :: es) ma) (hg : Gl X x := by rfl) (hdb : (x == ("__debug__" : Str)) = false := by decide)
    (he : starEach (a :: es) X.env = (false, eval a X.env) :: starEach es X.env := by rfl) (hpl : (backTo cp (starEach es X.env)).any (·.1) = false := by rfl) : JS X W (.Return (some (.Call (.Name x p) (a :: es) [] cp)) pos) (mRetX m ma) := by
  obtain ⟨f, fd, ps, F, hm, hk, hb⟩ := h
  obtain ⟨ta, pa, va⟩ := ha
  refine ⟨_, ps_ret (pe_callS F hr hg hm hk hb (fun σ => passAt tk σ) pa hdb he hpl), fun H0 D σ H ρ fl ok h q => ?_⟩
  unfold mRetX callX at h
  cases hrs : ma ρ with
  | none => rw [hrs] at h; cases h
  | some rs =>
    rw [hrs, Option.bind_some] at h
    refine va _ _ _ _ _ ok hrs H (Ex.refl H) _ fun vs H2 e2 g => ?_
    cases ho : m (rs.map argN) with
    | none => rw [ho] at h; cases h
    | some o =>
      rw [ho] at h
      refine ⟨rs.map argN, o, g.norm, ho, outp_of ok e2 q (fun r z => ?_) (fun c fs z => ?_) (fun c z => ?_)⟩
      · subst z
        refine fun v H' e' gv => ?_
        have eb := ok.base.trans e2
        cases r with
        | dat d => cases h; exact q v H' (eb.trans e') (gv.back eb)
        | new xs => cases h; exact q v H' (eb.trans e') (gv.back eb)
        | lst xs => cases h
        | ro xs => cases h
      · subst z
        cases h
        rfl
      · subst z
        cases h
        rfl
end
/-! ### the error classes: __init__ sets its fields -/
def spI1 (K : PySem.W.Frag) (f : Str) : Sp := fun vs H Q _ => ∃ (a C : Addr) (y : V), vs = [.ref a, y] ∧ OexC K C ∧ PySem.W.findIn K (.ref C) f = some none ∧ H a = some (exo a C none) ∧ ∀ dx, H dx = none → dx ≠ a → Q .non (upd (upd H dx (exd dx [(f, y)])) a (exo a C (some dx)))
def spI2 (K : PySem.W.Frag) (f g : Str) : Sp := fun vs H Q _ => ∃ (a C : Addr) (y z : V), vs = [.ref a, y, z] ∧ OexC K C ∧ PySem.W.findIn K (.ref C) f = some none ∧ PySem.W.findIn K (.ref C) g = some none ∧ H a = some (exo a C none) ∧
  ∀ dx, H dx = none → dx ≠ a → Q .non (upd (upd (upd H dx (exd dx [(f, y)])) a (exo a C (some dx))) dx (exd dx [(g, z), (f, y)]))
/-- a class of one field, of two -/
def Xc1 (P : Program) (w : World) (K : PySem.W.Frag) (mg : Str → Option Value) (base : Heap) (c f : Str) : Prop :=
  ∃ C fI fd ps, mg c = some (.ref C) ∧ OexC K C ∧ PySem.W.findIn K (.ref C) "__init__" = some (some (.ref fI)) ∧ PySem.W.typeIn K (.ref fI) = some (.type "function") ∧ FnOk P w K mg base CX0 1 fI fd ps (spI1 K f) ∧ Binds K fd ps [] ∧ PySem.W.findIn K (.ref C) f = some none
def Xc2 (P : Program) (w : World) (K : PySem.W.Frag) (mg : Str → Option Value) (base : Heap) (c f g : Str) : Prop :=
  ∃ C fI fd ps, mg c = some (.ref C) ∧ OexC K C ∧ PySem.W.findIn K (.ref C) "__init__" = some (some (.ref fI)) ∧ PySem.W.typeIn K (.ref fI) = some (.type "function") ∧ FnOk P w K mg base CX0 1 fI fd ps (spI2 K f g) ∧ Binds K fd ps [] ∧ PySem.W.findIn K (.ref C) f = some none ∧ PySem.W.findIn K (.ref C) g = some none
def mRaise1 (c f : Str) (f1 : ME) : MS := fun ρ => (asDat (f1 ρ)).map fun d => .exc c [(f, d)] ρ
def mRaise2 (c f g : Str) (f1 f2 : ME) : MS := fun ρ => (asDat (f1 ρ)).bind fun d => (asDat (f2 ρ)).map fun e => .exc c [(g, e), (f, d)] ρ
section
variable {X : Cx} {W : WX} {a b : Expr} {pos p pos2 : Pos} {f1 f2 : ME} {c f g : Str}
theorem s_raise1 (h : Xc1 X.prog X.w X.K X.mg X.base c f) (hc : X.calm = true) (hr : Room 2 X.A) (tk : Takes X W) (ha : JE X a f1) (hg : Gl X c := by rfl) (hdb : (c == ("__debug__" : Str)) = false := by decide)
    (he : starEach (a :: []) X.env = (false, eval a X.env) :: starEach [] X.env := by rfl) (hpl : (backTo pos (starEach [] X.env)).any (·.1) = false := by rfl) : JS X W (.Raise (some (.Call (.Name c p) [a] [] pos)) none pos2) (mRaise1 c f f1) := by
  obtain ⟨C, fI, fd, ps, gC, T, iC, tI, F, hb, no⟩ := h
  obtain ⟨ta, pa, va⟩ := ha
  refine ⟨_, ps_raise hc tk (pmk_oex T iC tI F hr hb .nil pass0 hg gC (pa_cons pa pa_nil he) hdb he hpl), fun H0 D σ H ρ fl ok h q => ?_⟩
  unfold mRaise1 at h
  obtain ⟨d, hd, h⟩ := Option.map_eq_some_iff.mp h
  subst h
  refine va _ _ _ _ _ ok (asDat_some hd) H (Ex.refl H) _ fun v H2 e2 gv => ?_
  refine ⟨by show 1 ≤ 1000; decide, fun a na => ?_⟩
  refine ⟨a, C, v, rfl, T, no, upd_same, fun dx ndx ne => ?_⟩
  have n2 : H2 dx = none := by rw [upd_ne ne] at ndx; exact ndx
  refine ⟨rfl, dx, [(f, v)], upd_same, by rw [upd_ne ne, upd_same], n2, ?_⟩
  have e3 : Ex H2 (upd (del (upd (upd (upd H2 a (exo a C none)) dx (exd dx [(f, v)])) a (exo a C (some dx))) a) dx (.xd [(f, v)])) := fun b o hb => by
    have b1 : b ≠ dx := ne_of_none hb n2
    have b2 : b ≠ a := ne_of_none hb na
    rw [upd_ne b1, del_ne b2, upd_ne b2, upd_ne b1, upd_ne b2]
    exact hb
  exact q C dx σ _ _ gC (ok.ex (e2.trans e3)) (fresh_back (ok.base.trans e2) n2) upd_same (.cons (Den.ex gv e3) .nil)
theorem s_raise2 (h : Xc2 X.prog X.w X.K X.mg X.base c f g) (hc : X.calm = true) (hr : Room 2 X.A) (tk : Takes X W) (ha : JE X a f1) (hb' : JE X b f2) (hg : Gl X c := by rfl) (hdb : (c == ("__debug__" : Str)) = false := by decide)
    (he : starEach (a :: [b]) X.env = (false, eval a X.env) :: starEach [b] X.env := by rfl) (he2 : starEach (b :: []) X.env = (false, eval b X.env) :: starEach [] X.env := by rfl) (hpl : (backTo pos (starEach [b] X.env)).any (·.1) = false := by rfl) :
    JS X W (.Raise (some (.Call (.Name c p) [a, b] [] pos)) none pos2) (mRaise2 c f g f1 f2) := by
  obtain ⟨C, fI, fd, ps, gC, T, iC, tI, F, hb, no, no2⟩ := h
  obtain ⟨ta, pa, va⟩ := ha
  obtain ⟨tb, pb, vb⟩ := hb'
  refine ⟨_, ps_raise hc tk (pmk_oex T iC tI F hr hb .nil pass0 hg gC (pa_cons pa (pa_cons pb pa_nil he2) he) hdb he hpl), fun H0 D σ H ρ fl ok h q => ?_⟩
  unfold mRaise2 at h
  obtain ⟨d, hd, h⟩ := Option.bind_eq_some_iff.mp h
  obtain ⟨e, he', h⟩ := Option.map_eq_some_iff.mp h
  subst h
  refine va _ _ _ _ _ ok (asDat_some hd) H (Ex.refl H) _ fun v H1 e1 gv => ?_
  refine vb _ _ _ _ _ ok (asDat_some he') H1 e1 _ fun u H2 e2 gu => ?_
  refine ⟨by show 2 ≤ 1000; decide, fun a na => ?_⟩
  refine ⟨a, C, v, u, rfl, T, no, no2, upd_same, fun dx ndx ne => ?_⟩
  have n2 : H2 dx = none := by rw [upd_ne ne] at ndx; exact ndx
  refine ⟨rfl, dx, [(g, u), (f, v)], by rw [upd_ne ne.symm, upd_same], upd_same, n2, ?_⟩
  have e3 : Ex H2 (upd (del (upd (upd (upd (upd H2 a (exo a C none)) dx (exd dx [(f, v)])) a (exo a C (some dx))) dx (exd dx [(g, u), (f, v)])) a) dx (.xd [(g, u), (f, v)])) := fun b o hb => by
    have b1 : b ≠ dx := ne_of_none hb n2
    have b2 : b ≠ a := ne_of_none hb na
    rw [upd_ne b1, del_ne b2, upd_ne b1, upd_ne b2, upd_ne b1, upd_ne b2]
    exact hb
  exact q C dx σ _ _ gC (ok.ex ((e1.trans e2).trans e3)) (fresh_back (ok.base.trans (e1.trans e2)) n2) upd_same (.cons (Den.ex gu e3) (.cons (Den.ex gv (e2.trans e3)) .nil))
end
end
end Tl

namespace Tl
open PySem PySem.Spec PyProof.Rows L2 Evl
noncomputable section
/-! ### try .. except C as n -/
def dropX : C → C
  | .exc _ _ => .un
  | c => c
theorem Ok.drop {X Y : Cx} {H0 H : Hp} {σ : L2.St} {ρ : Rho} (ok : Ok X H0 σ H ρ) (hK : Y.K = X.K) : Ok Y H0 σ H (ρ.map dropX) := by
  obtain ⟨B, ok⟩ := ok
  have own : ∀ (i : Nat) (xs : List D), (ρ.map dropX)[i]? = some (.own xs) → ρ[i]? = some (.own xs) := fun i xs h => by
    rw [List.getElem?_map] at h
    cases q : ρ[i]? with
    | none => rw [q] at h; cases h
    | some c => rw [q] at h; cases c <;> cases Option.some.inj h; rfl
  refine ⟨B, ok.e0, ok.e1, by rw [List.length_map]; exact ok.len, fun i c hi => ?_, fun i j xs ys a hi hj => ok.inj i j xs ys a (own i xs hi) (own j ys hj)⟩
  rw [List.getElem?_map] at hi
  cases q : ρ[i]? with
  | none => rw [q] at hi; cases hi
  | some c' =>
    rw [q] at hi
    have z := ok.slot i c' q
    cases c' with
    | un => cases Option.some.inj hi; trivial
    | dat d =>
      cases Option.some.inj hi
      show SlotOk Y B H σ[i]? (.dat d)
      unfold SlotOk
      rw [hK]
      exact z
    | own xs =>
      cases Option.some.inj hi
      show SlotOk Y B H σ[i]? (.own xs)
      unfold SlotOk
      rw [hK]
      exact z
    | bor xs =>
      cases Option.some.inj hi
      show SlotOk Y B H σ[i]? (.bor xs)
      unfold SlotOk
      rw [hK]
      exact z
    | exc _ _ => cases Option.some.inj hi; trivial
theorem OkB.setX {X : Cx} {H0 B H : Hp} {σ : L2.St} {ρ : Rho} {i : Nat} {a C dd : Addr} {oe : Obj} {pn : List (Addr × Obj)} {gs : List (Str × V)} {c : Str} {fs : List (Str × D)} (h : OkB X H0 B σ H ρ) (hp : X.pn = (a, oe) :: pn) (h3 : oe.cls = .ref C) (h4 : X.mg c = some (.ref C))
    (h5 : oe.dict = some dd) (h6 : ∃ vs, oe.data = .fields vs) (h7 : B dd = some (.xd gs)) (h8 : FldL X.K H gs fs) : OkB X H0 B (σ.set i (some (.ref a))) H (ρ.set i (.exc c fs)) := by
  refine ⟨h.e0, h.e1, by rw [List.length_set, List.length_set]; exact h.len, fun j cc hj => ?_, fun j k xs ys b hj hk sj sk => ?_⟩
  · by_cases e : i = j
    · subst e
      have hl := lt_of_get hj
      rw [List.length_set, h.len] at hl
      rw [get_set_eq hj]
      exact ⟨a, oe, pn, C, dd, gs, hp, set_get hl, h3, h4, h5, h6, h7, h8⟩
    · rw [List.getElem?_set_ne e] at hj ⊢
      exact h.slot j cc hj
  · have nj : i ≠ j := fun e => by subst e; exact absurd (get_set_eq hj) (by intro z; cases z)
    have nk : i ≠ k := fun e => by subst e; exact absurd (get_set_eq hk) (by intro z; cases z)
    rw [List.getElem?_set_ne nj] at hj sj
    rw [List.getElem?_set_ne nk] at hk sk
    exact h.inj j k xs ys b hj hk sj sk
def endT (i : Nat) : Option F → Option F
  | some (.nx ρ) => some (.nx ((ρ.map dropX).set i .un))
  | some (.brk ρ) => some (.brk ((ρ.map dropX).set i .un))
  | some (.cnt ρ) => some (.cnt ((ρ.map dropX).set i .un))
  | some (.ret r) => some (.ret r)
  | _ => none
def mTry (i : Nat) (mt : Str → Option Bool) (mb ms : MS) : MS := fun ρ => match mb (ρ.map dropX) with
  | some (.exc c fs ρ') => (match mt c with
    | some true => endT i (ms ((ρ'.map dropX).set i (.exc c fs)))
    | some false => some (.exc c fs (ρ'.map dropX))
    | none => none)
  | some (.nx ρ') => some (.nx (ρ'.map dropX))
  | some (.brk ρ') => some (.brk (ρ'.map dropX))
  | some (.cnt ρ') => some (.cnt (ρ'.map dropX))
  | some (.ret r) => some (.ret r)
  | _ => none
section
variable {X : Cx} {W : WX} {pos pos' np : Pos} {body suite : List Stmt} {b₀ : Stmt} {mb ms : MS} {n x : Str} {Ch : Addr}
theorem s_tryAs (i : Nat) (mt : Str → Option Bool) (hN : X.N.Nodup) (hc : Names X x (.ref Ch)) (tk : Takes X W) (hmt : ∀ c b C, mt c = some b → X.mg c = some (.ref C) → PySem.W.exmOne X.K (.ref C) (.ref Ch) = some b)
    (hb : ∀ (W' : WX) (pn : List (Addr × Obj)) (xe : Value → Shared → Prop), Takes (X.tr pn xe) W' → PassesOwn (model X.prog X.w) X.A X.env xe → JB (X.tr pn xe) W' body mb)
    (hsu : ∀ (a : Addr) (oe : Obj) (cls : Value) (d : Option Addr) (pn : List (Addr × Obj)), Zc cls d oe → (∃ vs, oe.data = .fields vs) → JB (X.suite a ((a, oe) :: pn)) W0 (b₀ :: suite) ms)
    (hs : X.stack = X.env :: X.outer := by rfl) (hf : X.env.frame = some X.env.locals := by rfl) (hi : X.N[i]? = some n := by rfl) (hln : X.env.kindOf n = some .local := by rfl) :
    JS X W (.Try body [.ExceptHandler (some (.Name x np)) (some n) (b₀ :: suite) pos'] [] [] pos) (mTry i mt mb ms) := by
  refine ⟨_, ps_try_as (i := i) (tb := fun W' D σ H => ∃ H0 ρ fl, (∀ pn xe, Ok (X.tr pn xe) H0 σ H ρ) ∧ mb ρ = some fl ∧ ∀ pn xe, Post (X.tr pn xe) H0 D W' fl)
    (ts := fun a cls d D σ H => ∀ (oe : Obj) (pn : List (Addr × Obj)), Zc cls d oe → (∃ vs, oe.data = .fields vs) → ∃ H0 ρ fl, Ok (X.suite a ((a, oe) :: pn)) H0 σ H ρ ∧ ms ρ = some fl ∧ Post (X.suite a ((a, oe) :: pn)) H0 D W0 fl)
    hs hf hN hi hln hc tk (fun W' pn xe t po => ?_) (fun a oe cls d pn hz hd => ?_), fun H0 D σ H ρ fl ok h q => ?_⟩
  · obtain ⟨ts, p, v⟩ := hb W' pn xe t po
    refine ⟨fun pins s σ H D I h => ?_⟩
    obtain ⟨H0, ρ, fl, ok, hm, q⟩ := h
    exact p.run pins s σ H D I (v H0 D σ H ρ fl (ok pn xe) hm (q pn xe))
  · obtain ⟨ts, p, v⟩ := hsu a oe cls d pn hz hd
    refine ⟨fun pins s σ H D I h => ?_⟩
    obtain ⟨H0, ρ, fl, ok, hm, q⟩ := h oe pn hz hd
    exact p.run pins s σ H D I (v H0 D σ H ρ fl ok hm q)
  · unfold mTry at h
    cases hbd : mb (ρ.map dropX) with
    | none => rw [hbd] at h; cases h
    | some fl1 =>
      rw [hbd] at h
      refine ⟨H0, ρ.map dropX, fl1, fun pn xe => ok.drop rfl, hbd, fun pn xe => ?_⟩
      cases fl1 with
      | nx ρ' => cases h; exact fun σ' H' ok' => q σ' H' (Ok.drop (Y := X) ok' rfl)
      | brk ρ' => cases h; exact fun σ' H' ok' => q σ' H' (Ok.drop (Y := X) ok' rfl)
      | cnt ρ' => cases h; exact fun σ' H' ok' => q σ' H' (Ok.drop (Y := X) ok' rfl)
      | ret r => cases h; exact q
      | exc0 c ρ' => cases h
      | exc c fs ρ' =>
        intro C d σ' H' gs hgc ok' nd hd hfl
        cases hm : mt c with
        | none =>
          have h' : (match mt c with | some true => endT i (ms ((ρ'.map dropX).set i (.exc c fs))) | some false => some (F.exc c fs (ρ'.map dropX)) | none => none) = some fl := h
          rw [hm] at h'; cases h'
        | some b =>
          have h' : (match mt c with | some true => endT i (ms ((ρ'.map dropX).set i (.exc c fs))) | some false => some (F.exc c fs (ρ'.map dropX)) | none => none) = some fl := h
          rw [hm] at h'
          refine ⟨b, hmt c b C hm hgc, fun eb a na => ?_, fun eb => ?_⟩
          · subst eb
            intro oe pn hz hdd
            have okS : Ok (X.suite a ((a, oe) :: pn)) H0 σ' H' (ρ'.map dropX) := Ok.drop (Y := X.suite a ((a, oe) :: pn)) ok' rfl
            obtain ⟨B, okB⟩ := okS
            have nown : ¬ Owned σ' (ρ'.map dropX) d := fun z => by
              obtain ⟨_, vs, z2⟩ := okB.owned z
              rw [z2] at hd; cases hd
            obtain ⟨B2, okP⟩ := okB.pin
            have hdB : B2 d = some (.xd gs) := okP.e0 _ _ (by rw [hidO_no nown]; exact hd)
            have okE := okP.setX (i := i) (a := a) (C := C) (dd := d) (oe := oe) (pn := pn) (gs := gs) (c := c) (fs := fs) rfl hz.1 hgc hz.2 hdd hdB hfl
            cases hms : ms ((ρ'.map dropX).set i (.exc c fs)) with
            | none => rw [hms] at h'; cases h'
            | some fl2 =>
              rw [hms] at h'
              refine ⟨_, _, fl2, ⟨B2, okE⟩, hms, ?_⟩
              have q' := Post.up (X := X) (W := W) (okB.e0.trans okB.hid) q
              cases fl2 with
              | nx ρ2 => cases h'; exact fun σ2 H2 ok2 => q' _ H2 (Ok.drop (Y := X) ok2 rfl).un
              | brk ρ2 => cases h'; exact fun σ2 H2 ok2 => q' _ H2 (Ok.drop (Y := X) ok2 rfl).un
              | cnt ρ2 => cases h'; exact fun σ2 H2 ok2 => q' _ H2 (Ok.drop (Y := X) ok2 rfl).un
              | ret r => cases h'; exact q'
              | exc _ _ _ => cases h'
              | exc0 _ _ => cases h'
          · subst eb
            cases h'
            exact q C d σ' H' gs hgc (Ok.drop (Y := X) ok' rfl) nd hd hfl
end
theorem mt_one {X : Cx} {c0 : Str} {C0 Ch : Addr} (g0 : X.mg c0 = some (.ref C0)) (h : PySem.W.exmOne X.K (.ref C0) (.ref Ch) = some true) : ∀ c b C, (fun c : Str => if c = c0 then some true else none) c = some b → X.mg c = some (.ref C) → PySem.W.exmOne X.K (.ref C) (.ref Ch) = some b := by
  intro c b C hc hg
  have hc' : (if c = c0 then some true else none) = some b := hc
  split at hc'
  · rename_i e
    cases hc'
    subst e
    rw [g0] at hg
    cases hg
    exact h
  · cases hc'
/-! ### what a suite asks of the exception it holds -/
theorem FldL.lookup {K : PySem.W.Frag} {H : Hp} {f : Str} {d : D} : ∀ {gs : List (Str × V)} {fs : List (Str × D)}, FldL K H gs fs → fs.lookup f = some d → ∃ v, gs.lookup f = some v ∧ Den K H v d
  | _, _, .nil, h => by cases h
  | _, _, .cons (f := g) hd t, h => by
    rw [List.lookup_cons] at h
    rw [List.lookup_cons]
    cases e : (f == g) with
    | true =>
      rw [e] at h
      cases h
      exact ⟨_, rfl, hd⟩
    | false =>
      rw [e] at h
      exact FldL.lookup t h
def mExF (i : Nat) (c0 f : Str) : ME := fun ρ => match ρ[i]? with
  | some (.exc c fs) => if c = c0 then (fs.lookup f).map .dat else none
  | _ => none
def mExI (i : Nat) (c0 : Str) (b : Bool) : ME := fun ρ => match ρ[i]? with
  | some (.exc c _) => if c = c0 then some (.dat (.bl b)) else none
  | _ => none
theorem kit_one {K : PySem.W.Frag} {C D' : Addr} {b : Bool} (i : PySem.W.isClsIn K D' = true) (t : PySem.W.typeIn K (.ref D') = some (.type "type")) (s : PySem.W.subIn K (.ref C) (.ref D') = some b) (sC : PySem.W.subIn K (.ref C) (.ref C) = some true) : PySem.W.kitOne K (.ref C) (.ref D') = some b := by
  unfold PySem.W.kitOne
  split
  · rename_i e
    have e' : C = D' := Value.ref.inj (beq_iff_eq.mp e)
    subst e'
    rw [sC] at s
    exact s
  · unfold PySem.W.kitCls
    have i' : (PySem.W.clsIn K D').isSome = true := i
    have z : ((PySem.W.clsIn K D').isSome && PySem.W.typeIn K (.ref D') == some (.type "type")) = true := by rw [i', t]; rfl
    show (if ((PySem.W.clsIn K D').isSome && PySem.W.typeIn K (.ref D') == some (.type "type")) = true then PySem.W.subIn K (.ref C) (.ref D') else none) = some b
    rw [if_pos z]
    exact s
/-- what the written part says of an error's class -/
structure ExK (K : PySem.W.Frag) (mg : Str → Option Value) (c : Str) (C : Addr) : Prop where
  gC : mg c = some (.ref C)
  xf : XfC K C
  cl : (PySem.W.clsIn K C).isSome = true
  ha : PySem.W.findIn K (.ref C) "__class__" = some (some (.builtin "object.__class__"))
  hn : PySem.W.specialIn K (.builtin "object.__class__") "__get__" = some (some (.builtin "getset_descriptor.__get__"))
  ht : PySem.W.takesIn K (.builtin "object.__class__") = some true
  hm : PySem.W.mroIn K C (.type "object") = some true
section
variable {X : Cx} {a C : Addr} {oe : Obj} {cls : Value} {d : Option Addr} {pn : List (Addr × Obj)} {pos p p2 : Pos} {c0 n f : Str}
theorem x_exF (i : Nat) (T : ExK X.K X.mg c0 C) (hno : PySem.W.findIn X.K (.ref C) f = some none) (hz : Zc cls d oe) (hf : ∃ vs, oe.data = .fields vs) (hN : X.N[i]? = some n := by rfl)
    (hv : Vis X.env.scope n := by first | exact Or.inl rfl | exact Or.inr (Or.inl rfl) | exact Or.inr (Or.inr rfl)) (hd : (n == ("__debug__" : Str)) = false := by decide) (hcd : (n == ("__classdict__" : Str)) = false := by decide)
    (hb : attributeBase (.Name n p) f X.env (eval (.Name n p) X.env) = eval (.Name n p) X.env := by rfl) : JE (X.suite a ((a, oe) :: pn)) (.Attribute (.Name n p) f pos) (mExF i c0 f) := by
  refine ⟨_, pe_xf T.xf hno hz hf (pe_var hN hv hd hcd) hb, fun H0 σ H ρ r ok h => ?_⟩
  unfold mExF at h
  split at h
  · rename_i c fs hc
    split at h
    · rename_i ec
      subst ec
      obtain ⟨dd, hdd, h⟩ := Option.map_eq_some_iff.mp h
      subst h
      obtain ⟨B, ok⟩ := ok
      obtain ⟨a', oe', pn', C', d', gs, h1, h2, h3, h4, h5, _, h7, h8⟩ := ok.slot i _ hc
      have e1 : (a, oe) :: pn = (a', oe') :: pn' := h1
      cases e1
      have e2 : C' = C := by
        have z : X.mg c = some (.ref C') := h4
        rw [T.gC] at z
        exact (Value.ref.inj (Option.some.inj z)).symm
      subst e2
      intro H1 e Q q
      obtain ⟨v, hv1, hv2⟩ := (h8.ex e).lookup hdd
      exact ⟨_, h2, rfl, hz.1.symm.trans h3, d', gs, v, hz.2.symm.trans h5, e _ _ (ok.e1 _ _ h7), hv1, q v H1 (Ex.refl _) hv2⟩
    · cases h
  · cases h
/-- isinstance(e, c) -/
def rIsX (K : PySem.W.Frag) (C a : Addr) (d : Option Addr) : List V → Hp → VK → Prop := fun xs H Q => ∃ (c : V) (cv : Value) (b : Bool) (dd : Addr) (gs : List (Str × V)), xs = [.ref a, c] ∧ (∀ u, RelV c u → u = cv) ∧ PySem.W.kitOne K (.ref C) cv = some b ∧ d = some dd ∧ H dd = some (.xd gs) ∧ Q (.bl b) H
theorem call_isX (T : ExK X.K X.mg c0 C) (hz : Zc (.ref C) d oe) (hf : ∃ vs, oe.data = .fields vs) : CallR (X.suite a ((a, oe) :: pn)) (.builtin "isinstance") (rIsX X.K C a d) := by
  intro pins s σ H xs us Q I r h
  obtain ⟨c, cv, b, dd, gs, rfl, hcv, e, hd, ea, q⟩ := h
  cases r with
  | cons rx rr =>
    cases rr with
    | cons rt rr =>
      cases rr
      cases rx
      have ec := hcv _ rt
      subst ec
      obtain ⟨hget, _⟩ := I.pin (a, oe) (List.mem_append.mpr (.inl List.mem_cons_self))
      obtain ⟨vs, hv⟩ := hf
      have hx : ObjOk X.prog X.w H s.heap dd (.xd gs) := I.hok dd _ ea
      obtain ⟨mA, hns, hr⟩ := hx
      obtain ⟨od, ho, hl⟩ := lookIn_ns hns
      have J : PySem.W.InstAt s.heap a oe C (some od) := ⟨hget, hz.1, by unfold PySem.W.notCls; rw [hv] <;> rfl, by rw [hz.2, hd]; exact ho⟩
      exact PySem.W.kia_one (PySem.W.kitx_exc T.cl T.xf.ga T.xf.gg T.xf.exC T.ha T.hn T.ht T.hm) I.kIn J e (fun z => nomatch z) fun tk => ⟨.bl b, H, I.kept (t' := tk) fun _ _ z => z, rfl, q⟩
theorem x_exI (i : Nat) {y : Str} {b : Bool} {D' : Addr} (T : ExK X.K X.mg c0 C) (hm : X.mg "isinstance" = none) (gD : X.mg y = some (.ref D')) (hk : PySem.W.kitOne X.K (.ref C) (.ref D') = some b) (hz : Zc cls d oe) (hf : ∃ vs, oe.data = .fields vs) (hN : X.N[i]? = some n := by rfl)
    (hv : Vis X.env.scope n := by first | exact Or.inl rfl | exact Or.inr (Or.inl rfl) | exact Or.inr (Or.inr rfl)) (hd : (n == ("__debug__" : Str)) = false := by decide) (hcd : (n == ("__classdict__" : Str)) = false := by decide)
    (hg : Gl X "isinstance" := by rfl) (hgD : Gl X y := by rfl) (hdy : (y == ("__debug__" : Str)) = false := by decide)
    (hs : starEach (.Name n p :: [.Name y p2]) X.env = (false, eval (.Name n p) X.env) :: starEach [.Name y p2] X.env := by rfl) (hs2 : starEach (.Name y p2 :: []) X.env = (false, eval (.Name y p2) X.env) :: starEach [] X.env := by rfl)
    (hpl : (backTo pos (starEach [.Name y p2] X.env)).any (·.1) = false := by rfl) {p0 : Pos} : JE (X.suite a ((a, oe) :: pn)) (.Call (.Name "isinstance" p0) [.Name n p, .Name y p2] [] pos) (mExI i c0 b) := by
  by_cases hcls : cls = .ref C
  · subst hcls
    refine ⟨_, pe_callB (call_isX T hz hf) hg hm PyProof.Rows.boot_isinstance (pa_cons (pe_var hN hv hd hcd) (pa_cons (pe_glob (v := .ref D') hgD gD rfl hdy) pa_nil hs2) hs) (he := hs) (hpl := hpl), fun H0 σ H ρ r ok h => ?_⟩
    unfold mExI at h
    split at h
    · rename_i c fs hc
      split at h
      · rename_i ec
        subst ec
        cases h
        obtain ⟨B, ok⟩ := ok
        obtain ⟨a', oe', pn', C', d', gs, h1, h2, h3, h4, h5, _, h7, h8⟩ := ok.slot i _ hc
        have e1 : (a, oe) :: pn = (a', oe') :: pn' := h1
        cases e1
        intro H1 e Q q
        exact ⟨_, h2, _, _, b, d', gs, rfl, fun u ru => ru, hk, hz.2.symm.trans h5, e _ _ (ok.e1 _ _ h7), q _ H1 (Ex.refl _) (.bl b)⟩
      · cases h
    · cases h
  · refine ⟨fun _ _ _ => False, ⟨fun _ _ _ _ _ _ h => h.elim⟩, fun H0 σ H ρ r ok h => ?_⟩
    unfold mExI at h
    split at h
    · rename_i c fs hc
      split at h
      · rename_i ec
        subst ec
        obtain ⟨B, ok⟩ := ok
        obtain ⟨a', oe', pn', C', d', gs, h1, h2, h3, h4, h5, _, h7, h8⟩ := ok.slot i _ hc
        have e1 : (a, oe) :: pn = (a', oe') :: pn' := h1
        cases e1
        have e2 : C' = C := by
          have z : X.mg c = some (.ref C') := h4
          rw [T.gC] at z
          exact (Value.ref.inj (Option.some.inj z)).symm
        subst e2
        exact absurd (hz.1.symm.trans h3) hcls
      · cases h
    · cases h
end
end
end Tl

namespace Tl
open PySem PySem.Spec PyProof.Rows L2 Evl
noncomputable section
/-! ### x in (..) of flat values -/
def eqF : D → D → Option Bool
  | .non, .non => some true
  | .bl a, .bl b => some (a == b)
  | .int a, .int b => some (okP (a = b))
  | .str a, .str b => some (decide (a = b))
  | .non, .str _ => some false
  | .str _, .non => some false
  | .non, .int _ => some false
  | .int _, .non => some false
  | .int _, .str _ => some false
  | .str _, .int _ => some false
  | _, _ => none
def inF (x : D) : List D → Option Bool
  | [] => some false
  | y :: ys => (eqF y x).bind fun b => (inF x ys).map fun c => b || c
theorem beq_okP (a b : Int) : (a == b) = okP (a = b) := by
  by_cases h : a = b
  · rw [okP_t h, h]; simp
  · rw [okP_f h]; simp [h]
theorem eqF_of {K : PySem.W.Frag} {H H' : Hp} {v w : V} {d e : D} {k : Bool} (hv : Den K H v d) (hw : Den K H' w e) (h : eqF d e = some k) : flatV v = true ∧ flatV w = true ∧ eqV v w = k := by
  cases hv <;> cases hw <;> simp only [eqF, Option.some.injEq, reduceCtorEq] at h <;> subst h <;> refine ⟨rfl, rfl, ?_⟩ <;> first | rfl | exact beq_okP _ _ | simp [eqV]
theorem inF_of {K : PySem.W.Frag} {H : Hp} {v : V} {x : D} (hv : Den K H v x) : ∀ {ds : List D} {vs : List V} {b : Bool}, DenL K H vs ds → inF x ds = some b → vs.all flatV = true ∧ (ds ≠ [] → flatV v = true) ∧ inV v vs = b
  | [], _, _, .nil, h => by cases h; exact ⟨rfl, fun z => absurd rfl z, rfl⟩
  | y :: ys, _, _, .cons h1 h2, h => by
    obtain ⟨k, hk, h⟩ := Option.bind_eq_some_iff.mp (show ((eqF y x).bind fun b => (inF x ys).map fun c => b || c) = _ from h)
    obtain ⟨c, hc, h⟩ := Option.map_eq_some_iff.mp h
    subst h
    obtain ⟨a1, a2, a3⟩ := eqF_of h1 hv hk
    obtain ⟨b1, _, b3⟩ := inF_of hv h2 hc
    refine ⟨by rw [List.all_cons, a1, b1]; rfl, fun _ => a2, ?_⟩
    unfold inV at b3 ⊢
    rw [List.any_cons, a3, b3]
def mIn (f g : ME) : ME := fun ρ => (asDat (f ρ)).bind fun x => (asTup (g ρ)).bind fun ys => if ys.isEmpty = true then none else (inF x ys).map fun b => .dat (.bl b)
def mNi (f g : ME) : ME := fun ρ => (asDat (f ρ)).bind fun x => (asTup (g ρ)).bind fun ys => if ys.isEmpty = true then none else (inF x ys).map fun b => .dat (.bl (!b))
section
variable {X : Cx} {W : WX} {a b c e : Expr} {pos p : Pos} {f1 f2 f3 : ME} {es : List Expr} {ma : MA}
theorem ev_in {ta tb : TE} {σ : L2.St} {H : Hp} {ρ : Rho} {r : R} {H0 : Hp} (va : ∀ H0 σ H ρ r, Ok X H0 σ H ρ → f1 ρ = some r → EvR X.K ta σ H r) (vb : ∀ H0 σ H ρ r, Ok X H0 σ H ρ → f2 ρ = some r → EvR X.K tb σ H r) (ok : Ok X H0 σ H ρ)
    (h : mIn f1 f2 ρ = some r) : EvR X.K (tOp (rIn X.K false) ta tb) σ H r := by
  unfold mIn at h
  obtain ⟨x, hx, h⟩ := Option.bind_eq_some_iff.mp h
  obtain ⟨ys, hy, h⟩ := Option.bind_eq_some_iff.mp h
  split at h
  · cases h
  · rename_i hne
    obtain ⟨k, hk, h⟩ := Option.map_eq_some_iff.mp h
    subst h
    intro H1 e1 Q q
    refine va _ _ _ _ _ ok (asDat_some hx) H1 e1 _ fun v H2 e2 gv => ?_
    refine (vb _ _ _ _ _ ok (asTup_some hy)).tup H2 (e1.trans e2) _ fun p ws H3 e3 hl hdn => ?_
    obtain ⟨h1, h2, h3⟩ := inF_of (Den.ex gv e3) hdn hk
    refine ⟨p, ws, rfl, .inr hl, h2 (by intro z; subst z; exact hne rfl), h1, ?_⟩
    show Q (.bl (inV v ws)) H3
    rw [h3]
    exact q _ H3 (e2.trans e3) (.bl k)
theorem ev_ni {ta tb : TE} {σ : L2.St} {H : Hp} {ρ : Rho} {r : R} {H0 : Hp} (va : ∀ H0 σ H ρ r, Ok X H0 σ H ρ → f1 ρ = some r → EvR X.K ta σ H r) (vb : ∀ H0 σ H ρ r, Ok X H0 σ H ρ → f2 ρ = some r → EvR X.K tb σ H r) (ok : Ok X H0 σ H ρ)
    (h : mNi f1 f2 ρ = some r) : EvR X.K (tOp (rIn X.K true) ta tb) σ H r := by
  unfold mNi at h
  obtain ⟨x, hx, h⟩ := Option.bind_eq_some_iff.mp h
  obtain ⟨ys, hy, h⟩ := Option.bind_eq_some_iff.mp h
  split at h
  · cases h
  · rename_i hne
    obtain ⟨k, hk, h⟩ := Option.map_eq_some_iff.mp h
    subst h
    intro H1 e1 Q q
    refine va _ _ _ _ _ ok (asDat_some hx) H1 e1 _ fun v H2 e2 gv => ?_
    refine (vb _ _ _ _ _ ok (asTup_some hy)).tup H2 (e1.trans e2) _ fun p ws H3 e3 hl hdn => ?_
    obtain ⟨h1, h2, h3⟩ := inF_of (Den.ex gv e3) hdn hk
    refine ⟨p, ws, rfl, .inr hl, h2 (by intro z; subst z; exact hne rfl), h1, ?_⟩
    show Q (.bl (!inV v ws)) H3
    rw [h3]
    exact q _ H3 (e2.trans e3) (.bl _)
theorem x_in (ha : JE X a f1) (hb : JE X b f2) (hm : behindInMarks .In b = false := by rfl) : JE X (.Compare a [.In] [b] pos) (mIn f1 f2) := by
  obtain ⟨ta, pa, va⟩ := ha
  obtain ⟨tb, pb, vb⟩ := hb
  exact ⟨_, pe_cmpR op_in_seq pa pb hm, fun H0 σ H ρ r ok h => ev_in va vb ok h⟩
theorem t_in (ha : JE X a f1) (hb : JE X b f2) (hm : behindInMarks .In b = false := by rfl) : JT X (.Compare a [.In] [b] pos) (mT (mIn f1 f2)) := by
  obtain ⟨ta, pa, va⟩ := ha
  obtain ⟨tb, pb, vb⟩ := hb
  exact ⟨_, pt_cmpR op_in_seq pa pb hm, fun H0 σ H ρ r ok h => ev_test h fun r hr => ev_in va vb ok hr⟩
theorem x_ni (ha : JE X a f1) (hb : JE X b f2) (hm : behindInMarks .NotIn b = false := by rfl) : JE X (.Compare a [.NotIn] [b] pos) (mNi f1 f2) := by
  obtain ⟨ta, pa, va⟩ := ha
  obtain ⟨tb, pb, vb⟩ := hb
  exact ⟨_, pe_cmpR op_notIn_seq pa pb hm, fun H0 σ H ρ r ok h => ev_ni va vb ok h⟩
theorem t_ni (ha : JE X a f1) (hb : JE X b f2) (hm : behindInMarks .NotIn b = false := by rfl) : JT X (.Compare a [.NotIn] [b] pos) (mT (mNi f1 f2)) := by
  obtain ⟨ta, pa, va⟩ := ha
  obtain ⟨tb, pb, vb⟩ := hb
  exact ⟨_, pt_cmpR op_notIn_seq pa pb hm, fun H0 σ H ρ r ok h => ev_test h fun r hr => ev_ni va vb ok hr⟩
/-! ### a module's constant -/
def Gcon (K : PySem.W.Frag) (mg : Str → Option Value) (x : Str) (d : D) : Prop := ∃ v u, mg x = some u ∧ RelV v u ∧ ∀ H, Den K H v d
theorem x_gcon {x : Str} {d : D} (h : Gcon X.K X.mg x d) (hg : Gl X x := by rfl) (hdb : (x == ("__debug__" : Str)) = false := by decide) : JE X (.Name x pos) (mC d) := by
  obtain ⟨v, u, hm, r, hd⟩ := h
  exact x_glob hg hm r hd hdb
theorem gcon_int {K : PySem.W.Frag} {mg : Str → Option Value} {x : Str} {i : Int} {t : Tok} (h : mg x = some (.int i t)) : Gcon K mg x (.int i) := ⟨.int i, _, h, ⟨t, rfl⟩, fun _ => .int i⟩
inductive TupV : List Value → List V → List D → Prop
  | nil : TupV [] [] []
  | str {t : Tok} {us : List Value} {vs : List V} {ds : List D} (z : Str) : TupV us vs ds → TupV (.str z t :: us) (.str z :: vs) (.str z :: ds)
  | int {t : Tok} {us : List Value} {vs : List V} {ds : List D} (z : Int) : TupV us vs ds → TupV (.int z t :: us) (.int z :: vs) (.int z :: ds)
theorem TupV.vals : ∀ {us : List Value} {vs : List V} {ds : List D}, TupV us vs ds → Vals vs us
  | _, _, _, .nil => .nil
  | _, _, _, .str (t := t) z h => .cons ⟨t, rfl⟩ h.vals
  | _, _, _, .int (t := t) z h => .cons ⟨t, rfl⟩ h.vals
theorem TupV.den {K : PySem.W.Frag} {H : Hp} : ∀ {us : List Value} {vs : List V} {ds : List D}, TupV us vs ds → DenL K H vs ds
  | _, _, _, .nil => .nil
  | _, _, _, .str z h => .cons (.str z) h.den
  | _, _, _, .int z h => .cons (.int z) h.den
theorem den_tupK {K : PySem.W.Frag} {a : Addr} {dd : Option Addr} {us : List Value} {n : Nat} {sl : Array (Option Value)} {vs : List V} {ds : List D} (l : K.lookup a = some ⟨.type "tuple", dd, .seq us.toArray n, sl⟩) (hz : us.length ≤ 1000) (h : TupV us vs ds) (H : Hp) : Den K H (.ref a) (.tup ds) :=
  .tup (.inr ⟨_, _, _, l, rfl, rfl, by rw [List.size_toArray]; exact Nat.le_trans hz (by decide), by simpa using h.vals⟩) h.den
theorem gcon_tup {K : PySem.W.Frag} {mg : Str → Option Value} {x : Str} {a : Addr} {dd : Option Addr} {us : List Value} {n : Nat} {sl : Array (Option Value)} {vs : List V} {ds : List D} (h : mg x = some (.ref a)) (l : K.lookup a = some ⟨.type "tuple", dd, .seq us.toArray n, sl⟩) (hz : us.length ≤ 1000)
    (t : TupV us vs ds) : Gcon K mg x (.tup ds) := ⟨.ref a, _, h, rfl, den_tupK l hz t⟩
/-! ### slices of texts -/
def mSlS (f : ME) (lo hi : MO) : ME := fun ρ => (asStr (f ρ)).bind fun z => (lo ρ).bind fun l => (hi ρ).bind fun u => if szOk z.length = true then some (.dat (.str (cutS z l u))) else none
theorem x_slS {lo hi : Option Expr} {ml mh : MO} (ha : JE X a f1) (hl : JO X lo ml) (hh : JO X hi mh) {p2 : Pos} : JE X (.Subscript a (.Slice lo hi none p2) pos) (mSlS f1 ml mh) := by
  obtain ⟨ta, pa, va⟩ := ha
  obtain ⟨tl, pl, vl⟩ := hl
  obtain ⟨th, ph, vh⟩ := hh
  refine ⟨_, pe_slice sl_str pa pl ph, fun H0 σ H ρ r ok h => ?_⟩
  unfold mSlS at h
  obtain ⟨xs, hx, h⟩ := Option.bind_eq_some_iff.mp h
  obtain ⟨l, hl, h⟩ := Option.bind_eq_some_iff.mp h
  obtain ⟨u, hu, h⟩ := Option.bind_eq_some_iff.mp h
  split at h
  · rename_i hz
    cases h
    intro H1 e1 Q q
    refine (va _ _ _ _ _ ok (asStr_some hx)).str H1 e1 _ fun H2 e2 => ?_
    refine vl _ _ _ _ _ ok hl H2 (e1.trans e2) _ fun H3 e3 => ?_
    refine vh _ _ _ _ _ ok hu H3 ((e1.trans e2).trans e3) _ fun H4 e4 => ?_
    exact ⟨xs, rfl, szOk_of hz, q _ H4 ((e2.trans e3).trans e4) (.str _)⟩
  · cases h
end
end
end Tl

namespace Tl
open PySem PySem.Spec PyProof.Rows L2 Evl
noncomputable section
theorem okP_T : okP True = true := okP_t trivial
theorem okP_F : okP False = false := okP_f id
mutual
theorem eqv_refl : ∀ d : D, PyData.eqv (py d) (py d) = true
  | .non => by simp [py, PyData.eqv]
  | .bl b => by simp [py, PyData.eqv]
  | .int i => by simp [py, PyData.eqv]
  | .str x => by simp [py, PyData.eqv]
  | .tup xs => by
    simp only [py, PyData.eqv]
    exact eqvL_refl xs
theorem eqvL_refl : ∀ xs : List D, PyData.eqvAll (pyL xs) (pyL xs) = true
  | [] => by simp [pyL, PyData.eqvAll]
  | x :: xs => by
    simp only [pyL, PyData.eqvAll, eqv_refl x, eqvL_refl xs, Bool.and_self]
end
theorem eqD_refl (d : D) : eqD d d = true := eqv_refl d
/-! data of which == may be asked -/
mutual
def okD : D → Bool
  | .str x => PyData.strOk x
  | .tup xs => okDL xs
  | _ => true
def okDL : List D → Bool
  | [] => true
  | x :: xs => okD x && okDL xs
end
mutual
def dpD : D → Nat
  | .tup xs => dpDL xs + 1
  | _ => 0
def dpDL : List D → Nat
  | [] => 0
  | x :: xs => max (dpD x) (dpDL xs)
end
mutual
theorem lay_of : ∀ d : D, PyData.canLay0 (py d) = okD d
  | .non => by simp [py, PyData.canLay0, okD]
  | .bl b => by simp [py, PyData.canLay0, okD]
  | .int i => by simp [py, PyData.canLay0, okD]
  | .str x => by simp [py, PyData.canLay0, okD]
  | .tup xs => by
    simp only [py, PyData.canLay0, okD]
    exact layL_of xs
theorem layL_of : ∀ xs : List D, PyData.canLayAll0 (pyL xs) = okDL xs
  | [] => by simp [pyL, PyData.canLayAll0, okDL]
  | x :: xs => by simp only [pyL, PyData.canLayAll0, okDL, lay_of x, layL_of xs]
end
mutual
theorem dp_of : ∀ d : D, PyData.depth (py d) = dpD d
  | .non => by simp [py, PyData.depth, dpD]
  | .bl b => by simp [py, PyData.depth, dpD]
  | .int i => by simp [py, PyData.depth, dpD]
  | .str x => by simp [py, PyData.depth, dpD]
  | .tup xs => by
    simp only [py, PyData.depth, dpD]
    rw [dpL_of xs]
theorem dpL_of : ∀ xs : List D, PyData.depthAll (pyL xs) = dpDL xs
  | [] => by simp [pyL, PyData.depthAll, dpDL]
  | x :: xs => by simp only [pyL, PyData.depthAll, dpDL, dp_of x, dpL_of xs]
end
theorem shp_of {d : D} (h : okD d = true) (h2 : dpD d ≤ 64) : shp d = true := by
  unfold shp SeqAt.shaped
  rw [lay_of, dp_of, h, decide_eq_true h2]
  rfl
/-! texts -/
theorem cps_append (x y : Str) : (x ++ y).cps.toList = x.cps.toList ++ y.cps.toList := by
  show (x.cps ++ y.cps).toList = _
  simp
def okS (x : Str) : Prop := ∀ c ∈ x.cps.toList, c < 0x110000
theorem okS_iff {x : Str} : okS x ↔ PyData.strOk x = true := by
  unfold okS PyData.strOk
  rw [Array.all_eq_true_iff_forall_mem]
  simp
theorem okS_append {x y : Str} (hx : okS x) (hy : okS y) : okS (x ++ y) := by
  intro c hc
  rw [cps_append] at hc
  rcases List.mem_append.mp hc with h | h
  · exact hx c h
  · exact hy c h
theorem okS_cut {x : Str} (hx : okS x) (l u : Option Int) : okS (cutS x l u) := by
  intro c hc
  unfold cutS at hc
  have hc : c ∈ (x.cps.toList.drop (HT.sIx x.length 0 l)).take (HT.sIx x.length x.length u - HT.sIx x.length 0 l) := by simpa using hc
  exact hx c (List.mem_of_mem_drop (List.mem_of_mem_take hc))
theorem okS_one {c : Nat} (h : c < 0x110000) : okS ⟨#[c]⟩ := by
  intro d hd
  simp at hd
  omega
theorem len_append (x y : Str) : (x ++ y).length = x.length + y.length := by
  show (x.cps ++ y.cps).size = _
  rw [Array.size_append]; rfl
theorem len_cut (x : Str) (l u : Option Int) : (cutS x l u).length ≤ x.length := by
  unfold cutS
  show ((x.cps.toList.drop _).take _).toArray.size ≤ x.cps.size
  rw [List.size_toArray, List.length_take, List.length_drop, Array.length_toList]
  omega
theorem atI_ints {ns : List Int} {i : Int} (h0 : 0 ≤ i) (h1 : i < ns.length) : ∃ v, atI (ns.map D.int) i = some (.int v) := by
  obtain ⟨v, hv⟩ := atI_in h0 h1
  exact ⟨v, atI_map hv⟩
end
end Tl

namespace Lw
open PySem PySem.Spec PyProof.Rows L2 Evl Tl
def topS (i : Nat) : Stmt := PySem.Challenge.pw_tensloft_k01_shapes_made.main.body.getD i (.Pass ⟨0, 0, 0, 0⟩)
abbrev s_shape : Stmt := topS 8
theorem sc_shape : FnScope ["kind", "figures", "sign", "point"] ["kind", "figures", "sign", "point"] (defScope s_shape) := ⟨rfl, rfl, rfl, by decide +kernel, rfl, by decide +kernel, by decide +kernel⟩
noncomputable def b_shape : MS := (mSeq (mIf (mT (mNi (mVar 0) (mC (.tup [(.str "packed"), (.str "spread")])))) (mRaise1 "NoShape" "part" (mC (.str "kind"))) mSkip)
    (mSeq (mIf (tNotM (mT (mChain (fun i j => i ≤ j) (fun i j => i ≤ j) (mC (.int 1)) (mVar 1) (mC (.int 12))))) (mRaise1 "NoShape" "part" (mC (.str "figures"))) mSkip)
    (mSeq (mIf (mT (mNi (mVar 2) (mC (.tup [(.str "none"), (.str "end"), (.str "tens")])))) (mRaise1 "NoShape" "part" (mC (.str "sign"))) mSkip)
    (mSeq (mIf (tNotM (mT (mChain (fun i j => i ≤ j) (fun i j => i ≤ j) (mC (.int 0)) (mVar 3) (mVar 1)))) (mRaise1 "NoShape" "part" (mC (.str "point"))) mSkip)
    (mRet (mTup (aCons (mVar 0) (aCons (mVar 1) (aCons (mVar 2) (aCons (mVar 3) aNil))))))))))
noncomputable def m_shape : MirX := mDefX 4 4 b_shape
abbrev s__law_cell : Stmt := topS 10
theorem sc__law_cell : FnScope ["_law_script", "_law_k"] ["_law_script", "_law_k"] (defScope s__law_cell) := ⟨rfl, rfl, rfl, by decide +kernel, rfl, by decide +kernel, by decide +kernel⟩
noncomputable def b__law_cell : MS := (mSeq (mIf (mT (mLt (mVar 1) (mLen (mVar 0)))) (mRet (mIxL (mVar 0) (mVar 1))) mSkip)
    (mSeq (mIf (mT (mEqS (mLen (mVar 0)) (mC (.int 0)))) (mRet (mMul (mC (.int 7919)) (mAdd (mVar 1) (mC (.int 1))))) mSkip)
    (mRet (mAdd (mIxL (mVar 0) (mMod (mVar 1) (mLen (mVar 0)))) (mMul (mC (.int 104729)) (mVar 1))))))
noncomputable def m__law_cell : Mir := mDef 2 2 b__law_cell
abbrev s__law_mixed : Stmt := topS 11
theorem sc__law_mixed : FnScope ["_law_cell_here", "_law_k", "_law_salt", "_law_primes", "_law_one", "_law_two"] ["_law_cell_here", "_law_k", "_law_salt"] (defScope s__law_mixed) := ⟨rfl, rfl, rfl, by decide +kernel, rfl, by decide +kernel, by decide +kernel⟩
noncomputable def b__law_mixed : MS := (mSeq (mSet 3 (mLst (aCons (mC (.int 2147483629)) (aCons (mC (.int 2147483587)) (aCons (mC (.int 2147483579)) (aCons (mC (.int 2147483563)) (aCons (mC (.int 2147483549)) (aCons (mC (.int 2147483543)) (aCons (mC (.int 2147483497)) (aCons (mC (.int 2147483489)) aNil))))))))))
    (mSeq (mSet 4 (mMod (mAdd (mAdd (mAdd (mVar 0) (mMul (mC (.int 7919)) (mVar 2))) (mMul (mC (.int 104729)) (mVar 1))) (mC (.int 13))) (mC (.int 2147483647))))
    (mSeq (mSet 4 (mMod (mPow (mVar 4) (mC (.int 5))) (mIxL (mVar 3) (mMod (mVar 1) (mC (.int 8))))))
    (mSeq (mSet 5 (mMod (mAdd (mAdd (mVar 4) (mMul (mC (.int 40692)) (mVar 2))) (mVar 1)) (mC (.int 2147483647))))
    (mRet (mAdd (mMul (mMod (mPow (mVar 5) (mC (.int 5))) (mC (.int 2147483647))) (mC (.int 1000000007))) (mVar 4)))))))
noncomputable def m__law_mixed : Mir := mDef 6 3 b__law_mixed
abbrev s__law_draws : Stmt := topS 12
theorem sc__law_draws : FnScope ["_law_cell_here", "_law_salt", "_law_widths", "_law_found", "_law_left", "_law_k"] ["_law_cell_here", "_law_salt", "_law_widths"] (defScope s__law_draws) := ⟨rfl, rfl, rfl, by decide +kernel, rfl, by decide +kernel, by decide +kernel⟩
noncomputable def f__law_draws_1 : MS := (mIf (mT (mGt (mVar 4) (mC (.int 0)))) (mSeq (mApp 3 (mMod (mVar 4) (mIxL (mVar 2) (mVar 5))))
    (mSet 4 (mDiv (mVar 4) (mIxL (mVar 2) (mVar 5))))) (mApp 3 (mMod (mCall m__law_mixed (aCons (mVar 0) (aCons (mVar 5) (aCons (mVar 1) aNil)))) (mIxL (mVar 2) (mVar 5)))))
noncomputable def b__law_draws : MS := (mSeq (mSet 3 (mLst aNil))
    (mSeq (mSet 4 (mC (.int 0)))
    (mSeq (mIf (mT (mGe (mAbs' (mVar 0)) (mPow (mC (.int 10)) (mC (.int 18))))) (mSet 4 (mAbs' (mVar 0))) mSkip)
    (mSeq (mFor (iR1 (mLen (mVar 2))) (gNm 5) f__law_draws_1)
    (mRetV 3)))))
noncomputable def m__law_draws : Mir := mDef 6 3 b__law_draws
abbrev s__law_word : Stmt := topS 13
theorem sc__law_word : FnScope ["_law_good", "_law_way", "_law_at", "_law_letter", "_law_word_here", "_law_place", "_law_some"] ["_law_good", "_law_way", "_law_at", "_law_letter"] (defScope s__law_word) := ⟨rfl, rfl, rfl, by decide +kernel, rfl, by decide +kernel, by decide +kernel⟩
noncomputable def b__law_word : MS := (mSeq (mSet 4 (mIxL (mVar 0) (mMod (mVar 2) (mLen (mVar 0)))))
    (mSeq (mIf (mT (mEqS (mVar 1) (mC (.int 0)))) (mSeq (mSet 5 (mMod (mDiv (mVar 2) (mC (.int 7))) (mLen (mVar 4))))
    (mRet (mCatS (mCatS (mSlS (mVar 4) oNone (oSome (mVar 5))) (mIxS (mC (.str "abcdefghijklmnopqrstuvwxyz")) (mVar 3))) (mSlS (mVar 4) (oSome (mAdd (mVar 5) (mC (.int 1)))) oNone)))) mSkip)
    (mSeq (mIf (mT (mEqS (mVar 1) (mC (.int 1)))) (mSeq (mSet 6 (mLst (aCons (mC (.str "")) (aCons (mC (.str "Packed")) (aCons (mC (.str "spread ")) (aCons (mC (.str "ends")) (aCons (mC (.str "packed")) (aCons (mC (.str "none")) (aCons (mC (.str "s")) (aCons (mC (.str "tens.")) (aCons (mC (.str "spread")) (aCons (mC (.str "end")) aNil))))))))))))
    (mRet (mIxL (mCatL (mVar 6) (mLst (aCons (mC (.str "End")) (aCons (mC (.str "tens ")) (aCons (mC (.str " none")) (aCons (mC (.str "NONE")) (aCons (mC (.str " packed")) (aCons (mC (.str "Spread")) aNil)))))))) (mMod (mVar 2) (mC (.int 16)))))) mSkip)
    (mRetV 4))))
noncomputable def m__law_word : Mir := mDef 7 4 b__law_word
abbrev s__law_due : Stmt := topS 14
theorem sc__law_due : FnScope ["_law_kind", "_law_many", "_law_sign", "_law_point"] ["_law_kind", "_law_many", "_law_sign", "_law_point"] (defScope s__law_due) := ⟨rfl, rfl, rfl, by decide +kernel, rfl, by decide +kernel, by decide +kernel⟩
noncomputable def b__law_due : MS := (mSeq (mIf (mT (mNi (mVar 0) (mTup (aCons (mC (.str "packed")) (aCons (mC (.str "spread")) aNil))))) (mRet (mC (.str "kind"))) mSkip)
    (mSeq (mIf (tOrM (mT (mLt (mVar 1) (mC (.int 1)))) (mT (mGt (mVar 1) (mC (.int 12))))) (mRet (mC (.str "figures"))) mSkip)
    (mSeq (mIf (mT (mNi (mVar 2) (mTup (aCons (mC (.str "none")) (aCons (mC (.str "end")) (aCons (mC (.str "tens")) aNil)))))) (mRet (mC (.str "sign"))) mSkip)
    (mSeq (mIf (tOrM (mT (mLt (mVar 3) (mC (.int 0)))) (mT (mGt (mVar 3) (mVar 1)))) (mRet (mC (.str "point"))) mSkip)
    (mRet (mC .non))))))
noncomputable def m__law_due : Mir := mDef 4 4 b__law_due
abbrev s_law : Stmt := topS 15
theorem sc_law : FnScope ["_law_script", "_law_k", "_law_draws_here", "_law_kind", "_law_sign", "_law_many", "_law_point", "_law_due_here", "_law_found", "_law_part", "e"] ["_law_script"] (defScope s_law) := ⟨rfl, rfl, rfl, by decide +kernel, rfl, by decide +kernel, by decide +kernel⟩
noncomputable def t_law_1 : MS := (mSetX 8 m_shape (aCons (mVar 3) (aCons (mVar 5) (aCons (mVar 4) (aCons (mVar 6) aNil)))))
noncomputable def u_law_2 : MS := (mSeq (mSet 9 (mExF 10 "NoShape" "part"))
    (mIf (tOrM (tNotM (mT (mExI 10 "NoShape" true))) (mT (mExI 10 "NoShape" false))) (mRet (mC (.bl false))) mSkip))
noncomputable def f_law_3 : MS := (mSeq (mSet 2 (mCall m__law_draws (aCons (mCall m__law_cell (aCons (mVar 0) (aCons (mVar 1) aNil))) (aCons (mC (.int 1)) (aCons (mLst (aCons (mC (.int 8)) (aCons (mC (.int 840)) (aCons (mC (.int 26)) (aCons (mC (.int 8)) (aCons (mC (.int 12)) (aCons (mC (.int 6)) (aCons (mC (.int 840)) (aCons (mC (.int 26)) (aCons (mC (.int 6)) (aCons (mC (.int 13)) (aCons (mC (.int 6)) aNil)))))))))))) aNil)))))
    (mSeq (mSet 3 (mCall m__law_word (aCons (mLst (aCons (mC (.str "packed")) (aCons (mC (.str "spread")) aNil))) (aCons (mIxL (mVar 2) (mC (.int 0))) (aCons (mIxL (mVar 2) (mC (.int 1))) (aCons (mIxL (mVar 2) (mC (.int 2))) aNil))))))
    (mSeq (mSet 4 (mCall m__law_word (aCons (mLst (aCons (mC (.str "none")) (aCons (mC (.str "end")) (aCons (mC (.str "tens")) aNil)))) (aCons (mIxL (mVar 2) (mC (.int 3))) (aCons (mIxL (mVar 2) (mC (.int 6))) (aCons (mIxL (mVar 2) (mC (.int 7))) aNil))))))
    (mSeq (mSet 5 (mIxL (mLst (aCons (mAdd (mC (.int 1)) (mIxL (mVar 2) (mC (.int 4)))) (aCons (mC (.int 13)) (aCons (mC (.int 0)) (aCons (mAdd (mC (.int 1)) (mIxL (mVar 2) (mC (.int 4)))) (aCons (mSub (mNeg (mC (.int 1))) (mIxL (mVar 2) (mC (.int 4)))) (aCons (mPow (mC (.int 10)) (mC (.int 39))) aNil))))))) (mIxL (mVar 2) (mC (.int 5)))))
    (mSeq (mIf (mT (mEqS (mMod (mIxL (mVar 2) (mC (.int 0))) (mC (.int 2))) (mC (.int 1)))) (mSet 5 (mAdd (mC (.int 1)) (mIxL (mVar 2) (mC (.int 4))))) mSkip)
    (mSeq (mSet 6 (mIxL (mLst (aCons (mIxL (mVar 2) (mC (.int 9))) (aCons (mAdd (mVar 5) (mC (.int 1))) (aCons (mNeg (mC (.int 1))) (aCons (mVar 5) (aCons (mC (.int 0)) (aCons (mMin' (mVar 5) (mIxL (mVar 2) (mC (.int 9)))) aNil))))))) (mIxL (mVar 2) (mC (.int 8)))))
    (mSeq (mSet 7 (mCall m__law_due (aCons (mVar 3) (aCons (mVar 5) (aCons (mVar 4) (aCons (mVar 6) aNil))))))
    (mSeq (mSet 8 (mC .non))
    (mSeq (mSet 9 (mC .non))
    (mSeq (mTry 10 (fun c => if c = "NoShape" then some true else none) t_law_1 u_law_2)
    (mIf (tOrM (mT (mNeS (mVar 9) (mVar 7))) (tAndM (mT (mIsN (mVar 7))) (mT (mNeD (mVar 8) (mTup (aCons (mVar 3) (aCons (mVar 5) (aCons (mVar 4) (aCons (mVar 6) aNil))))))))) (mRet (mC (.bl false))) mSkip)))))))))))
noncomputable def b_law : MS := (mSeq (mFor (iR1 (mC (.int 8))) (gNm 1) f_law_3)
    (mRet (mC (.bl true))))
noncomputable def m_law : Mir := mDef 11 1 b_law
section
variable {P : Program} {w : World} {K : PySem.W.Frag} {mg : Str → Option Value} {base : Heap}
theorem ok_shape {f : Addr} {fd : FuncData} (c_KINDS : Gcon K mg "KINDS" (.tup [(.str "packed"), (.str "spread")])) (c_MOST_FIGURES : Gcon K mg "MOST_FIGURES" (.int 12)) (c_SIGNS : Gcon K mg "SIGNS" (.tup [(.str "none"), (.str "end"), (.str "tens")])) (r_NoShape : Xc1 P w K mg base "NoShape" "part") (F : Fun K "shape" "shape" s_shape f fd) (gm : mg "shape" = some (.ref f)) (hb : Binds K fd ["kind", "figures", "sign", "point"] []) : CalX P w K mg base "shape" 3 m_shape :=
  ⟨f, fd, _, d_okX (k := 2) F sc_shape (fun cdv A outer s H E hr tk => by
    have nd := sc_shape.nd
    exact (b_cons (s_if (t_ni (x_var 0) (x_gcon c_KINDS)) (b_one (s_raise1 r_NoShape rfl (hr.mono (by decide)) tk x_str)) b_nil)
      (b_cons (s_if (t_not (t_chain op_le op_le x_int (x_var 1) (x_gcon c_MOST_FIGURES))) (b_one (s_raise1 r_NoShape rfl (hr.mono (by decide)) tk x_str)) b_nil)
      (b_cons (s_if (t_ni (x_var 2) (x_gcon c_SIGNS)) (b_one (s_raise1 r_NoShape rfl (hr.mono (by decide)) tk x_str)) b_nil)
      (b_cons (s_if (t_not (t_chain op_le op_le x_int (x_var 3) (x_var 1))) (b_one (s_raise1 r_NoShape rfl (hr.mono (by decide)) tk x_str)) b_nil)
      (b_one (s_ret (x_tup (a_cons (x_var 0) (a_cons (x_var 1) (a_cons (x_var 2) (a_cons (x_var 3) a_nil)))))))))))), gm, F.kp, hb⟩
theorem ok__law_cell {f : Addr} {fd : FuncData} (z_len : mg "len" = none) (F : Fun K "_law_cell" "_law_cell" s__law_cell f fd) (gm : mg "_law_cell" = some (.ref f)) (hb : Binds K fd ["_law_script", "_law_k"] []) : Cal P w K mg base "_law_cell" 1 m__law_cell :=
  ⟨f, fd, _, d_ok (k := 0) F sc__law_cell (fun cdv A outer s H E hr => by
    have nd := sc__law_cell.nd
    exact (b_cons (s_if (t_lt (x_var 1) (x_len z_len (x_var 0))) (b_one (s_ret (x_ixL (x_var 0) (x_var 1)))) b_nil)
      (b_cons (s_if (t_eqS (x_len z_len (x_var 0)) x_int) (b_one (s_ret (x_mul x_int (x_add (x_var 1) x_int)))) b_nil)
      (b_one (s_ret (x_add (x_ixL (x_var 0) (x_mod (x_var 1) (x_len z_len (x_var 0)))) (x_mul x_int (x_var 1)))))))), gm, F.kp, hb⟩
theorem ok__law_mixed {f : Addr} {fd : FuncData} (F : Fun K "_law_mixed" "_law_mixed" s__law_mixed f fd) (gm : mg "_law_mixed" = some (.ref f)) (hb : Binds K fd ["_law_cell_here", "_law_k", "_law_salt"] []) : Cal P w K mg base "_law_mixed" 1 m__law_mixed :=
  ⟨f, fd, _, d_ok (k := 0) F sc__law_mixed (fun cdv A outer s H E hr => by
    have nd := sc__law_mixed.nd
    exact (b_cons (s_set 3 nd (x_lst (a_cons x_int (a_cons x_int (a_cons x_int (a_cons x_int (a_cons x_int (a_cons x_int (a_cons x_int (a_cons x_int a_nil))))))))))
      (b_cons (s_set 4 nd (x_mod (x_add (x_add (x_add (x_var 0) (x_mul x_int (x_var 2))) (x_mul x_int (x_var 1))) x_int) x_int))
      (b_cons (s_set 4 nd (x_mod (x_pow (x_var 4) x_int) (x_ixL (x_var 3) (x_mod (x_var 1) x_int))))
      (b_cons (s_set 5 nd (x_mod (x_add (x_add (x_var 4) (x_mul x_int (x_var 2))) (x_var 1)) x_int))
      (b_one (s_ret (x_add (x_mul (x_mod (x_pow (x_var 5) x_int) x_int) x_int) (x_var 4))))))))), gm, F.kp, hb⟩
theorem ok__law_draws {f : Addr} {fd : FuncData} (h__law_mixed : Cal P w K mg base "_law_mixed" 1 m__law_mixed) (z_abs : mg "abs" = none) (z_range : mg "range" = none) (z_len : mg "len" = none) (F : Fun K "_law_draws" "_law_draws" s__law_draws f fd) (gm : mg "_law_draws" = some (.ref f)) (hb : Binds K fd ["_law_cell_here", "_law_salt", "_law_widths"] []) : Cal P w K mg base "_law_draws" 2 m__law_draws :=
  ⟨f, fd, _, d_ok (k := 1) F sc__law_draws (fun cdv A outer s H E hr => by
    have nd := sc__law_draws.nd
    exact (b_cons (s_set 3 nd (x_lst a_nil))
      (b_cons (s_set 4 nd x_int)
      (b_cons (s_if (t_ge (x_abs z_abs (x_var 0)) (x_pow x_int x_int)) (b_one (s_set 4 nd (x_abs z_abs (x_var 0)))) b_nil)
      (b_cons (s_for (i_r1 z_range (x_len z_len (x_var 2))) (g_nm 5 nd)
      (b_one (s_if (t_gt (x_var 4) x_int) (b_cons (s_app 3 (x_mod (x_var 4) (x_ixL (x_var 2) (x_var 5))))
      (b_one (s_set 4 nd (x_div (x_var 4) (x_ixL (x_var 2) (x_var 5)))))) (b_one (s_app 3 (x_mod (x_cal h__law_mixed (hr.mono (by decide)) (a_cons (x_var 0) (a_cons (x_var 5) (a_cons (x_var 1) a_nil)))) (x_ixL (x_var 2) (x_var 5))))))))
      (b_one (s_retV 3))))))), gm, F.kp, hb⟩
theorem ok__law_word {f : Addr} {fd : FuncData} (z_len : mg "len" = none) (F : Fun K "_law_word" "_law_word" s__law_word f fd) (gm : mg "_law_word" = some (.ref f)) (hb : Binds K fd ["_law_good", "_law_way", "_law_at", "_law_letter"] []) : Cal P w K mg base "_law_word" 1 m__law_word :=
  ⟨f, fd, _, d_ok (k := 0) F sc__law_word (fun cdv A outer s H E hr => by
    have nd := sc__law_word.nd
    exact (b_cons (s_set 4 nd (x_ixL (x_var 0) (x_mod (x_var 2) (x_len z_len (x_var 0)))))
      (b_cons (s_if (t_eqS (x_var 1) x_int) (b_cons (s_set 5 nd (x_mod (x_div (x_var 2) x_int) (x_len z_len (x_var 4))))
      (b_one (s_ret (x_catS (x_catS (x_slS (x_var 4) o_none (o_some (x_var 5))) (x_ixS x_str (x_var 3))) (x_slS (x_var 4) (o_some (x_add (x_var 5) x_int)) o_none))))) b_nil)
      (b_cons (s_if (t_eqS (x_var 1) x_int) (b_cons (s_set 6 nd (x_lst (a_cons x_str (a_cons x_str (a_cons x_str (a_cons x_str (a_cons x_str (a_cons x_str (a_cons x_str (a_cons x_str (a_cons x_str (a_cons x_str a_nil))))))))))))
      (b_one (s_ret (x_ixL (x_catL (x_var 6) (x_lst (a_cons x_str (a_cons x_str (a_cons x_str (a_cons x_str (a_cons x_str (a_cons x_str a_nil)))))))) (x_mod (x_var 2) x_int))))) b_nil)
      (b_one (s_retV 4)))))), gm, F.kp, hb⟩
theorem ok__law_due {f : Addr} {fd : FuncData} (F : Fun K "_law_due" "_law_due" s__law_due f fd) (gm : mg "_law_due" = some (.ref f)) (hb : Binds K fd ["_law_kind", "_law_many", "_law_sign", "_law_point"] []) : Cal P w K mg base "_law_due" 1 m__law_due :=
  ⟨f, fd, _, d_ok (k := 0) F sc__law_due (fun cdv A outer s H E hr => by
    have nd := sc__law_due.nd
    exact (b_cons (s_if (t_ni (x_var 0) (x_tup (a_cons x_str (a_cons x_str a_nil)))) (b_one (s_ret x_str)) b_nil)
      (b_cons (s_if (t_or (t_lt (x_var 1) x_int) (w_or1 (t_gt (x_var 1) x_int))) (b_one (s_ret x_str)) b_nil)
      (b_cons (s_if (t_ni (x_var 2) (x_tup (a_cons x_str (a_cons x_str (a_cons x_str a_nil))))) (b_one (s_ret x_str)) b_nil)
      (b_cons (s_if (t_or (t_lt (x_var 3) x_int) (w_or1 (t_gt (x_var 3) (x_var 1)))) (b_one (s_ret x_str)) b_nil)
      (b_one (s_ret x_non))))))), gm, F.kp, hb⟩
theorem ok_law {f : Addr} {fd : FuncData} {A_NoShape : Addr} {A_LoftError : Addr} {A_NoFit : Addr} (h__law_draws : Cal P w K mg base "_law_draws" 2 m__law_draws) (h__law_cell : Cal P w K mg base "_law_cell" 1 m__law_cell) (h__law_word : Cal P w K mg base "_law_word" 1 m__law_word) (h__law_due : Cal P w K mg base "_law_due" 1 m__law_due) (h_shape : CalX P w K mg base "shape" 3 m_shape) (z_range : mg "range" = none) (z_min : mg "min" = none) (z_isinstance : mg "isinstance" = none) (q_NoShape : ExK K mg "NoShape" A_NoShape) (x_NoShape : PySem.W.exmOne K (.ref A_NoShape) (.ref A_NoShape) = some true) (no_NoShape_part : PySem.W.findIn K (.ref A_NoShape) "part" = some none) (n_LoftError : mg "LoftError" = some (.ref A_LoftError)) (n_NoFit : mg "NoFit" = some (.ref A_NoFit)) (k_NoShape_LoftError : PySem.W.kitOne K (.ref A_NoShape) (.ref A_LoftError) = some true) (k_NoShape_NoFit : PySem.W.kitOne K (.ref A_NoShape) (.ref A_NoFit) = some false) (F : Fun K "law" "law" s_law f fd) (gm : mg "law" = some (.ref f)) (hb : Binds K fd ["_law_script"] []) : Cal P w K mg base "law" 4 m_law :=
  ⟨f, fd, _, d_ok (k := 3) F sc_law (fun cdv A outer s H E hr => by
    have nd := sc_law.nd
    exact (b_cons (s_for (i_r1 z_range x_int) (g_nm 1 nd)
      (b_cons (s_set 2 nd (x_cal h__law_draws (hr.mono (by decide)) (a_cons (x_cal h__law_cell (hr.mono (by decide)) (a_cons (x_var 0) (a_cons (x_var 1) a_nil))) (a_cons x_int (a_cons (x_lst (a_cons x_int (a_cons x_int (a_cons x_int (a_cons x_int (a_cons x_int (a_cons x_int (a_cons x_int (a_cons x_int (a_cons x_int (a_cons x_int (a_cons x_int a_nil)))))))))))) a_nil)))))
      (b_cons (s_set 3 nd (x_cal h__law_word (hr.mono (by decide)) (a_cons (x_lst (a_cons x_str (a_cons x_str a_nil))) (a_cons (x_ixL (x_var 2) x_int) (a_cons (x_ixL (x_var 2) x_int) (a_cons (x_ixL (x_var 2) x_int) a_nil))))))
      (b_cons (s_set 4 nd (x_cal h__law_word (hr.mono (by decide)) (a_cons (x_lst (a_cons x_str (a_cons x_str (a_cons x_str a_nil)))) (a_cons (x_ixL (x_var 2) x_int) (a_cons (x_ixL (x_var 2) x_int) (a_cons (x_ixL (x_var 2) x_int) a_nil))))))
      (b_cons (s_set 5 nd (x_ixL (x_lst (a_cons (x_add x_int (x_ixL (x_var 2) x_int)) (a_cons x_int (a_cons x_int (a_cons (x_add x_int (x_ixL (x_var 2) x_int)) (a_cons (x_sub (x_neg x_int) (x_ixL (x_var 2) x_int)) (a_cons (x_pow x_int x_int) a_nil))))))) (x_ixL (x_var 2) x_int)))
      (b_cons (s_if (t_eqS (x_mod (x_ixL (x_var 2) x_int) x_int) x_int) (b_one (s_set 5 nd (x_add x_int (x_ixL (x_var 2) x_int)))) b_nil)
      (b_cons (s_set 6 nd (x_ixL (x_lst (a_cons (x_ixL (x_var 2) x_int) (a_cons (x_add (x_var 5) x_int) (a_cons (x_neg x_int) (a_cons (x_var 5) (a_cons x_int (a_cons (x_min rfl z_min (x_var 5) (x_ixL (x_var 2) x_int)) a_nil))))))) (x_ixL (x_var 2) x_int)))
      (b_cons (s_set 7 nd (x_cal h__law_due (hr.mono (by decide)) (a_cons (x_var 3) (a_cons (x_var 5) (a_cons (x_var 4) (a_cons (x_var 6) a_nil))))))
      (b_cons (s_set 8 nd x_non)
      (b_cons (s_set 9 nd x_non)
      (b_cons (s_tryAs 10 (fun c => if c = "NoShape" then some true else none) nd ⟨rfl, by decide, .inl q_NoShape.gC⟩ takes0 (mt_one q_NoShape.gC x_NoShape) (fun W' pn xe tk po => (b_one (s_setX 8 h_shape (hr.mono (by decide)) tk nd (a_cons (x_var 3) (a_cons (x_var 5) (a_cons (x_var 4) (a_cons (x_var 6) a_nil)))))))
      (fun a oe cls d pn hz hf => (b_cons (s_set 9 nd (x_exF 10 q_NoShape no_NoShape_part hz hf))
      (b_one (s_if (t_or (t_not (t_val (x_exI 10 q_NoShape z_isinstance n_LoftError k_NoShape_LoftError hz hf))) (w_or1 (t_val (x_exI 10 q_NoShape z_isinstance n_NoFit k_NoShape_NoFit hz hf)))) (b_one (s_ret x_bl)) b_nil)))))
      (b_one (s_if (t_or (t_neS (x_var 9) (x_var 7)) (w_or1 (t_and (t_isN (x_var 7)) (w_and1 (t_neD (hr.units) (x_var 8) (x_tup (a_cons (x_var 3) (a_cons (x_var 5) (a_cons (x_var 4) (a_cons (x_var 6) a_nil)))))))))) (b_one (s_ret x_bl)) b_nil)))))))))))))
      (b_one (s_ret x_bl)))), gm, F.kp, hb⟩
end
abbrev si_NoShape : Stmt := inClass (topS 2) 0
theorem sci_NoShape : FnScope ["self", "part"] ["self", "part"] (defScope si_NoShape) := ⟨rfl, rfl, rfl, by decide +kernel, rfl, by decide +kernel, by decide +kernel⟩
theorem ini_NoShape {P : Program} {w : World} {K : PySem.W.Frag} {mg : Str → Option Value} {base : Heap} {f : Addr} {fd : FuncData} (F : Fun K "__init__" "NoShape.__init__" si_NoShape f fd) : FnOk P w K mg base CX0 1 f fd ["self", "part"] (spI1 K "part") := by
  refine F.ok sci_NoShape (fun vs H Q E h => ?_) (fun cdv A outer s H vs Q E hr h => ?_)
  · obtain ⟨a, C, y, rfl, _⟩ := h
    rfl
  · obtain ⟨a, C, y, rfl, T, hno, ha, q⟩ := h
    exact ⟨_, pss_one (ps_ost (pv 0) (pv 1)), ⟨_, rfl, _, rfl, a, C, rfl, T, hno, .inl ⟨ha, q⟩⟩⟩
theorem fn_law {P : Program} {w : World} {K : PySem.W.Frag} {mg : Str → Option Value} {base : Heap} {f : Addr} {fd : FuncData} {A_NoShape : Addr} {A_LoftError : Addr} {A_NoFit : Addr} (h__law_draws : Cal P w K mg base "_law_draws" 2 m__law_draws) (h__law_cell : Cal P w K mg base "_law_cell" 1 m__law_cell) (h__law_word : Cal P w K mg base "_law_word" 1 m__law_word) (h__law_due : Cal P w K mg base "_law_due" 1 m__law_due) (h_shape : CalX P w K mg base "shape" 3 m_shape) (z_range : mg "range" = none) (z_min : mg "min" = none) (z_isinstance : mg "isinstance" = none) (q_NoShape : ExK K mg "NoShape" A_NoShape) (x_NoShape : PySem.W.exmOne K (.ref A_NoShape) (.ref A_NoShape) = some true) (no_NoShape_part : PySem.W.findIn K (.ref A_NoShape) "part" = some none) (n_LoftError : mg "LoftError" = some (.ref A_LoftError)) (n_NoFit : mg "NoFit" = some (.ref A_NoFit)) (k_NoShape_LoftError : PySem.W.kitOne K (.ref A_NoShape) (.ref A_LoftError) = some true) (k_NoShape_NoFit : PySem.W.kitOne K (.ref A_NoShape) (.ref A_NoFit) = some false) (F : Fun K "law" "law" s_law f fd) : FnOk P w K mg base CX0 4 f fd ["_law_script"] (spM K m_law) :=
  d_ok F sc_law (fun cdv A outer s H E hr => by
    have nd := sc_law.nd
    exact (b_cons (s_for (i_r1 z_range x_int) (g_nm 1 nd)
      (b_cons (s_set 2 nd (x_cal h__law_draws (hr.mono (by decide)) (a_cons (x_cal h__law_cell (hr.mono (by decide)) (a_cons (x_var 0) (a_cons (x_var 1) a_nil))) (a_cons x_int (a_cons (x_lst (a_cons x_int (a_cons x_int (a_cons x_int (a_cons x_int (a_cons x_int (a_cons x_int (a_cons x_int (a_cons x_int (a_cons x_int (a_cons x_int (a_cons x_int a_nil)))))))))))) a_nil)))))
      (b_cons (s_set 3 nd (x_cal h__law_word (hr.mono (by decide)) (a_cons (x_lst (a_cons x_str (a_cons x_str a_nil))) (a_cons (x_ixL (x_var 2) x_int) (a_cons (x_ixL (x_var 2) x_int) (a_cons (x_ixL (x_var 2) x_int) a_nil))))))
      (b_cons (s_set 4 nd (x_cal h__law_word (hr.mono (by decide)) (a_cons (x_lst (a_cons x_str (a_cons x_str (a_cons x_str a_nil)))) (a_cons (x_ixL (x_var 2) x_int) (a_cons (x_ixL (x_var 2) x_int) (a_cons (x_ixL (x_var 2) x_int) a_nil))))))
      (b_cons (s_set 5 nd (x_ixL (x_lst (a_cons (x_add x_int (x_ixL (x_var 2) x_int)) (a_cons x_int (a_cons x_int (a_cons (x_add x_int (x_ixL (x_var 2) x_int)) (a_cons (x_sub (x_neg x_int) (x_ixL (x_var 2) x_int)) (a_cons (x_pow x_int x_int) a_nil))))))) (x_ixL (x_var 2) x_int)))
      (b_cons (s_if (t_eqS (x_mod (x_ixL (x_var 2) x_int) x_int) x_int) (b_one (s_set 5 nd (x_add x_int (x_ixL (x_var 2) x_int)))) b_nil)
      (b_cons (s_set 6 nd (x_ixL (x_lst (a_cons (x_ixL (x_var 2) x_int) (a_cons (x_add (x_var 5) x_int) (a_cons (x_neg x_int) (a_cons (x_var 5) (a_cons x_int (a_cons (x_min rfl z_min (x_var 5) (x_ixL (x_var 2) x_int)) a_nil))))))) (x_ixL (x_var 2) x_int)))
      (b_cons (s_set 7 nd (x_cal h__law_due (hr.mono (by decide)) (a_cons (x_var 3) (a_cons (x_var 5) (a_cons (x_var 4) (a_cons (x_var 6) a_nil))))))
      (b_cons (s_set 8 nd x_non)
      (b_cons (s_set 9 nd x_non)
      (b_cons (s_tryAs 10 (fun c => if c = "NoShape" then some true else none) nd ⟨rfl, by decide, .inl q_NoShape.gC⟩ takes0 (mt_one q_NoShape.gC x_NoShape) (fun W' pn xe tk po => (b_one (s_setX 8 h_shape (hr.mono (by decide)) tk nd (a_cons (x_var 3) (a_cons (x_var 5) (a_cons (x_var 4) (a_cons (x_var 6) a_nil)))))))
      (fun a oe cls d pn hz hf => (b_cons (s_set 9 nd (x_exF 10 q_NoShape no_NoShape_part hz hf))
      (b_one (s_if (t_or (t_not (t_val (x_exI 10 q_NoShape z_isinstance n_LoftError k_NoShape_LoftError hz hf))) (w_or1 (t_val (x_exI 10 q_NoShape z_isinstance n_NoFit k_NoShape_NoFit hz hf)))) (b_one (s_ret x_bl)) b_nil)))))
      (b_one (s_if (t_or (t_neS (x_var 9) (x_var 7)) (w_or1 (t_and (t_isN (x_var 7)) (w_and1 (t_neD (hr.units) (x_var 8) (x_tup (a_cons (x_var 3) (a_cons (x_var 5) (a_cons (x_var 4) (a_cons (x_var 6) a_nil)))))))))) (b_one (s_ret x_bl)) b_nil)))))))))))))
      (b_one (s_ret x_bl))))
end Lw

namespace Lw
open PySem PySem.Spec PyProof.Rows L2 Evl Tl
theorem cell_ok (ns : List Int) (k : Int) (h0 : 0 ≤ k) : ∃ c, m__law_cell [.ro (ns.map .int), .dat (.int k)] = some (.dat (.int c)) := by
  by_cases h1 : k < (ns.length : Int)
  · obtain ⟨v, hv⟩ := atI_in h0 h1
    exact ⟨v, by simp [m__law_cell, b__law_cell, mDef, okP_iff, okP_iffF, okP_T, okP_F, startC, argC, argN, outR, mSeq, mIf, mT, mLt, mLe, mGt, mGe, mII, cT, mVar, mC, mLen, aCons, aNil, gLen, asInt, asBl, asDat, asStr, asTup, asLst, asTrk, mRet, retR, mRetV, mSet, setR, mIxL, mIxT, mSkip, mEqS, mNeS, eqS, mMul, mAdd, mSub, mDiv, mMod, mPow, mNeg, cMul, cDiv, cMod, cPow, mTup, mLst, dats, szOk, mCall, mAbs', gAbs, mChain, tAndM, tOrM, tNotM, mIfE, mAndV, mOrV, mNotV, mApp, mAug, gNm, gTp, gCons', gNil', mAsg, mAsgL, mFor, iR1, iR2, bnd62, mDrop, mCatS, mCatT, mCatL, mSlT, mSlL, oNone, oSome, mIsi, isiD, mIsN, mNotN, isNon, mIntOf, gIntB, mMax', mMin', gMax2, gMin2, mEqD, mNeD, mIn, mNi, inF, eqF, mSlS, mIxS, mRaise1, mRaise2, mDefX, outX, okX, callX, mSetX, mExprX, mRetX, mTry, endT, dropX, mExF, mExI, mRevL, mRepL, iN, iV, iT, frzV, h1, atI_map hv]⟩
  · by_cases h2 : (ns.length : Int) = 0
    · exact ⟨7919 * (k + 1), by simp [m__law_cell, b__law_cell, mDef, okP_iff, okP_iffF, okP_T, okP_F, startC, argC, argN, outR, mSeq, mIf, mT, mLt, mLe, mGt, mGe, mII, cT, mVar, mC, mLen, aCons, aNil, gLen, asInt, asBl, asDat, asStr, asTup, asLst, asTrk, mRet, retR, mRetV, mSet, setR, mIxL, mIxT, mSkip, mEqS, mNeS, eqS, mMul, mAdd, mSub, mDiv, mMod, mPow, mNeg, cMul, cDiv, cMod, cPow, mTup, mLst, dats, szOk, mCall, mAbs', gAbs, mChain, tAndM, tOrM, tNotM, mIfE, mAndV, mOrV, mNotV, mApp, mAug, gNm, gTp, gCons', gNil', mAsg, mAsgL, mFor, iR1, iR2, bnd62, mDrop, mCatS, mCatT, mCatL, mSlT, mSlL, oNone, oSome, mIsi, isiD, mIsN, mNotN, isNon, mIntOf, gIntB, mMax', mMin', gMax2, gMin2, mEqD, mNeD, mIn, mNi, inF, eqF, mSlS, mIxS, mRaise1, mRaise2, mDefX, outX, okX, callX, mSetX, mExprX, mRetX, mTry, endT, dropX, mExF, mExI, mRevL, mRepL, iN, iV, iT, frzV, h1, h2, show ¬ k < 0 by omega]⟩
    · have h3 : 0 < (ns.length : Int) := by omega
      obtain ⟨v, hv⟩ := atI_in (ns := ns) (i := k % (ns.length : Int)) (Int.emod_nonneg _ h2) (Int.emod_lt_of_pos _ h3)
      exact ⟨v + 104729 * k, by simp [m__law_cell, b__law_cell, mDef, okP_iff, okP_iffF, okP_T, okP_F, startC, argC, argN, outR, mSeq, mIf, mT, mLt, mLe, mGt, mGe, mII, cT, mVar, mC, mLen, aCons, aNil, gLen, asInt, asBl, asDat, asStr, asTup, asLst, asTrk, mRet, retR, mRetV, mSet, setR, mIxL, mIxT, mSkip, mEqS, mNeS, eqS, mMul, mAdd, mSub, mDiv, mMod, mPow, mNeg, cMul, cDiv, cMod, cPow, mTup, mLst, dats, szOk, mCall, mAbs', gAbs, mChain, tAndM, tOrM, tNotM, mIfE, mAndV, mOrV, mNotV, mApp, mAug, gNm, gTp, gCons', gNil', mAsg, mAsgL, mFor, iR1, iR2, bnd62, mDrop, mCatS, mCatT, mCatL, mSlT, mSlL, oNone, oSome, mIsi, isiD, mIsN, mNotN, isNon, mIntOf, gIntB, mMax', mMin', gMax2, gMin2, mEqD, mNeD, mIn, mNi, inF, eqF, mSlS, mIxS, mRaise1, mRaise2, mDefX, outX, okX, callX, mSetX, mExprX, mRetX, mTry, endT, dropX, mExF, mExI, mRevL, mRepL, iN, iV, iT, frzV, h1, h2, h3, show 0 < ns.length by omega, atI_map hv, show ¬ ns = [] by intro e; subst e; exact h2 rfl]⟩
theorem pow5 {a p : Int} (h0 : 0 ≤ a) (h1 : a < 2147483647) : a.natAbs < 18446744073709551616 := by omega
theorem mixed_ok (c k s : Int) (h0 : 0 ≤ k) : ∃ v, m__law_mixed [.dat (.int c), .dat (.int k), .dat (.int s)] = some (.dat (.int v)) := by
  have hk0 : 0 ≤ k % 8 := Int.emod_nonneg _ (by decide)
  have hk1 : k % 8 < 8 := Int.emod_lt_of_pos _ (by decide)
  have hp : ∃ p : Int, 0 < p ∧ p < 2147483648 ∧ atI [D.int 2147483629, D.int 2147483587, D.int 2147483579, D.int 2147483563, D.int 2147483549, D.int 2147483543, D.int 2147483497, D.int 2147483489] (k % 8) = some (.int p) := by
    have : k % 8 = 0 ∨ k % 8 = 1 ∨ k % 8 = 2 ∨ k % 8 = 3 ∨ k % 8 = 4 ∨ k % 8 = 5 ∨ k % 8 = 6 ∨ k % 8 = 7 := by omega
    rcases this with e | e | e | e | e | e | e | e <;> rw [e] <;> exact ⟨_, by decide, by decide, rfl⟩
  obtain ⟨p, hp0, hp1, hp⟩ := hp
  have a1 : ∀ x : Int, (x % 2147483647).natAbs < 18446744073709551616 := fun x => by
    have := Int.emod_nonneg x (b := 2147483647) (by decide)
    have := Int.emod_lt_of_pos x (b := 2147483647) (by decide)
    omega
  simp [m__law_mixed, b__law_mixed, mDef, okP_iff, okP_iffF, okP_T, okP_F, startC, argC, argN, outR, mSeq, mIf, mT, mLt, mLe, mGt, mGe, mII, cT, mVar, mC, mLen, aCons, aNil, gLen, asInt, asBl, asDat, asStr, asTup, asLst, asTrk, mRet, retR, mRetV, mSet, setR, mIxL, mIxT, mSkip, mEqS, mNeS, eqS, mMul, mAdd, mSub, mDiv, mMod, mPow, mNeg, cMul, cDiv, cMod, cPow, mTup, mLst, dats, szOk, mCall, mAbs', gAbs, mChain, tAndM, tOrM, tNotM, mIfE, mAndV, mOrV, mNotV, mApp, mAug, gNm, gTp, gCons', gNil', mAsg, mAsgL, mFor, iR1, iR2, bnd62, mDrop, mCatS, mCatT, mCatL, mSlT, mSlL, oNone, oSome, mIsi, isiD, mIsN, mNotN, isNon, mIntOf, gIntB, mMax', mMin', gMax2, gMin2, mEqD, mNeD, mIn, mNi, inF, eqF, mSlS, mIxS, mRaise1, mRaise2, mDefX, outX, okX, callX, mSetX, mExprX, mRetX, mTry, endT, dropX, mExF, mExI, mRevL, mRepL, iN, iV, iT, frzV, hp, hp0, a1]
theorem draws_turn (c s left k w : Int) (ws ds : List Int) (x : C) (hk : 0 ≤ k) (hw : atI ws k = some w) (hwo : WOk w) (hl : ds.length < 1000) :
    ∃ d left', 0 ≤ d ∧ d < w ∧ f__law_draws_1 [.dat (.int c), .dat (.int s), .bor (ws.map .int), .own (ds.map .int), .dat (.int left), .dat (.int k)] = some (.nx [.dat (.int c), .dat (.int s), .bor (ws.map .int), .own ((ds ++ [d]).map .int), .dat (.int left'), .dat (.int k)]) := by
  have m0 : ∀ x : Int, 0 ≤ x % w ∧ x % w < w := fun x => ⟨Int.emod_nonneg _ (by have := hwo.1; omega), Int.emod_lt_of_pos _ hwo.1⟩
  by_cases hlf : 0 < left
  · exact ⟨left % w, left / w, (m0 _).1, (m0 _).2, by simp [f__law_draws_1, mDef, okP_iff, okP_iffF, okP_T, okP_F, startC, argC, argN, outR, mSeq, mIf, mT, mLt, mLe, mGt, mGe, mII, cT, mVar, mC, mLen, aCons, aNil, gLen, asInt, asBl, asDat, asStr, asTup, asLst, asTrk, mRet, retR, mRetV, mSet, setR, mIxL, mIxT, mSkip, mEqS, mNeS, eqS, mMul, mAdd, mSub, mDiv, mMod, mPow, mNeg, cMul, cDiv, cMod, cPow, mTup, mLst, dats, szOk, mCall, mAbs', gAbs, mChain, tAndM, tOrM, tNotM, mIfE, mAndV, mOrV, mNotV, mApp, mAug, gNm, gTp, gCons', gNil', mAsg, mAsgL, mFor, iR1, iR2, bnd62, mDrop, mCatS, mCatT, mCatL, mSlT, mSlL, oNone, oSome, mIsi, isiD, mIsN, mNotN, isNon, mIntOf, gIntB, mMax', mMin', gMax2, gMin2, mEqD, mNeD, mIn, mNi, inF, eqF, mSlS, mIxS, mRaise1, mRaise2, mDefX, outX, okX, callX, mSetX, mExprX, mRetX, mTry, endT, dropX, mExF, mExI, mRevL, mRepL, iN, iV, iT, frzV, hlf, atI_map hw, hwo.1, hwo.2, show ds.length + 1 ≤ 100000 by omega]⟩
  · obtain ⟨v, hv⟩ := mixed_ok c k s hk
    exact ⟨v % w, left, (m0 _).1, (m0 _).2, by simp [f__law_draws_1, mDef, okP_iff, okP_iffF, okP_T, okP_F, startC, argC, argN, outR, mSeq, mIf, mT, mLt, mLe, mGt, mGe, mII, cT, mVar, mC, mLen, aCons, aNil, gLen, asInt, asBl, asDat, asStr, asTup, asLst, asTrk, mRet, retR, mRetV, mSet, setR, mIxL, mIxT, mSkip, mEqS, mNeS, eqS, mMul, mAdd, mSub, mDiv, mMod, mPow, mNeg, cMul, cDiv, cMod, cPow, mTup, mLst, dats, szOk, mCall, mAbs', gAbs, mChain, tAndM, tOrM, tNotM, mIfE, mAndV, mOrV, mNotV, mApp, mAug, gNm, gTp, gCons', gNil', mAsg, mAsgL, mFor, iR1, iR2, bnd62, mDrop, mCatS, mCatT, mCatL, mSlT, mSlL, oNone, oSome, mIsi, isiD, mIsN, mNotN, isNon, mIntOf, gIntB, mMax', mMin', gMax2, gMin2, mEqD, mNeD, mIn, mNi, inF, eqF, mSlS, mIxS, mRaise1, mRaise2, mDefX, outX, okX, callX, mSetX, mExprX, mRetX, mTry, endT, dropX, mExF, mExI, mRevL, mRepL, iN, iV, iT, frzV, hlf, atI_map hw, hwo.1, hv, show ds.length + 1 ≤ 100000 by omega]⟩
theorem loop_draws (c s : Int) (ws : List Int) (hws : ∀ w ∈ ws, WOk w) (hlen : ws.length ≤ 500) : ∀ (m i : Nat) (ds : List Int) (left : Int) (x : C), i + m = ws.length → Drawn ds (ws.take i) →
    ∃ ds' left' x', Drawn ds' ws ∧ loopM (gNm 5) f__law_draws_1 ((rngD 0 ws.length).drop i) [.dat (.int c), .dat (.int s), .bor (ws.map .int), .own (ds.map .int), .dat (.int left), x] = some (.nx [.dat (.int c), .dat (.int s), .bor (ws.map .int), .own (ds'.map .int), .dat (.int left'), x'])
  | 0, i, ds, left, x, h, hd => by
    have e : i = ws.length := by omega
    subst e
    rw [List.take_length] at hd
    refine ⟨ds, left, x, hd, ?_⟩
    rw [show (rngD 0 ws.length).drop ws.length = [] by rw [List.drop_eq_nil_iff, rngD_len]; exact Nat.le_refl _]
    rfl
  | m + 1, i, ds, left, x, h, hd => by
    have hi : i < ws.length := by omega
    have hdl : ds.length = i := by rw [hd.length, List.length_take]; omega
    obtain ⟨w, hw⟩ : ∃ w, ws[i]? = some w := ⟨ws[i], List.getElem?_eq_getElem hi⟩
    have hat : atI ws ((i : Nat) : Int) = some w := atI_nat hw
    have hmem : w ∈ ws := List.mem_of_getElem? hw
    obtain ⟨d, left', h0, h1, hb⟩ := draws_turn c s left i w ws ds x (by omega) hat (hws w hmem) (by omega)
    obtain ⟨ds', l2, x2, hd2, hl2⟩ := loop_draws c s ws hws hlen m (i + 1) (ds ++ [d]) left' (.dat (.int i)) (by omega) (by rw [take_snoc hw]; exact hd.snoc h0 h1)
    refine ⟨ds', l2, x2, hd2, ?_⟩
    rw [drop_rng hi]
    unfold loopM
    have e0 : (0 : Int) + (i : Nat) = (i : Nat) := Int.zero_add _
    rw [e0]
    show (match f__law_draws_1 [.dat (.int c), .dat (.int s), .bor (ws.map .int), .own (ds.map .int), .dat (.int left), .dat (.int i)] with | some (.nx ρ') => loopM (gNm 5) f__law_draws_1 _ ρ' | some (.cnt ρ') => loopM (gNm 5) f__law_draws_1 _ ρ' | some (.brk ρ') => some (.nx ρ') | r => r) = _
    rw [hb]
    exact hl2
theorem draws_key (c s : Int) (ws : List Int) (hws : ∀ w ∈ ws, WOk w) (hlen : ws.length ≤ 500) : ∀ left : Int, ∃ ds, Drawn ds ws ∧ outR (mSeq (mFor (iR1 (mLen (mVar 2))) (gNm 5) f__law_draws_1) (mRetV 3) [.dat (.int c), .dat (.int s), .bor (ws.map .int), .own [], .dat (.int left), .un]) = some (.new (ds.map .int)) := fun left => by
    obtain ⟨ds, l2, x2, hd, hl⟩ := loop_draws c s ws hws hlen ws.length 0 [] left .un (by omega) (by rw [List.take_zero]; exact .nil)
    refine ⟨ds, hd, ?_⟩
    rw [List.drop_zero] at hl
    have hl' : loopM (gNm 5) f__law_draws_1 (rngD 0 ws.length) [.dat (.int c), .dat (.int s), .bor (ws.map .int), .own [], .dat (.int left), .un] = _ := hl
    have hf : mFor (iR1 (mLen (mVar 2))) (gNm 5) f__law_draws_1 [.dat (.int c), .dat (.int s), .bor (ws.map .int), .own [], .dat (.int left), .un] = some (.nx [.dat (.int c), .dat (.int s), .bor (ws.map .int), .own (ds.map .int), .dat (.int l2), x2]) := by
      have hb : bnd62 (ws.length : Int) = true := by unfold bnd62; exact okP_t (by omega)
      simp only [mFor, iR1, mLen, aCons, mVar, aNil, gLen, List.getElem?_cons_succ, List.getElem?_cons_zero, Option.bind_some, Option.map_some, asInt, List.length_map, hb, if_true, Int.toNat_natCast]
      exact hl'
    simp only [mSeq, hf, mRetV, List.getElem?_cons_succ, List.getElem?_cons_zero, outR]
theorem p18 (ρ : Rho) : mPow (mC (.int 10)) (mC (.int 18)) ρ = some (R.dat (D.int (10 ^ (18 : Int).toNat))) := by
  simp [mPow, mII, mC, asInt, cPow, okP_iff]
theorem draws_ok (c s : Int) (ws : List Int) (hws : ∀ w ∈ ws, WOk w) (hlen : ws.length ≤ 500) : ∃ ds, Drawn ds ws ∧ m__law_draws [.dat (.int c), .dat (.int s), .ro (ws.map .int)] = some (.new (ds.map .int)) := by
  have key := draws_key c s ws hws hlen
  have h18 := p18
  generalize (10 : Int) ^ (18 : Int).toNat = q at h18
  by_cases hc : q ≤ (if c < 0 then -c else c)
  · obtain ⟨ds, hd, h⟩ := key (if c < 0 then -c else c)
    refine ⟨ds, hd, ?_⟩
    rw [← h]
    simp only [m__law_draws, b__law_draws]
    simp [mDef, startC, argC, mSeq, mSet, mLst, aNil, dats, setR, mIf, mT, mGe, mII, mAbs', aCons, mVar, gAbs, asInt, cT, asBl, hc, szOk, okP_iff, okP_iffF, h18, mC]
  · obtain ⟨ds, hd, h⟩ := key 0
    refine ⟨ds, hd, ?_⟩
    rw [← h]
    simp only [m__law_draws, b__law_draws]
    simp [mDef, startC, argC, mSeq, mSet, mLst, aNil, dats, setR, mIf, mT, mGe, mII, mAbs', aCons, mVar, gAbs, asInt, cT, asBl, hc, szOk, okP_iff, okP_iffF, h18, mSkip, mC]
/-! ### what is due -/
def kdOk (k : Str) : Bool := decide (("packed" : Str) = k) || (decide (("spread" : Str) = k) || false)
def sgOk (k : Str) : Bool := decide (("none" : Str) = k) || (decide (("end" : Str) = k) || (decide (("tens" : Str) = k) || false))
inductive Due (k : Str) (n : Int) (s : Str) (p : Int) : D → Prop
  | kind : kdOk k = false → Due k n s p (.str "kind")
  | figures : kdOk k = true → (n < 1 ∨ 12 < n) → Due k n s p (.str "figures")
  | sign : kdOk k = true → 1 ≤ n → n ≤ 12 → sgOk s = false → Due k n s p (.str "sign")
  | point : kdOk k = true → 1 ≤ n → n ≤ 12 → sgOk s = true → (p < 0 ∨ n < p) → Due k n s p (.str "point")
  | good : kdOk k = true → 1 ≤ n → n ≤ 12 → sgOk s = true → 0 ≤ p → p ≤ n → Due k n s p .non
theorem due_of (k : Str) (n : Int) (s : Str) (p : Int) : ∃ d, Due k n s p d := by
  cases hk : kdOk k with
  | false => exact ⟨_, .kind hk⟩
  | true =>
    by_cases h1 : n < 1 ∨ 12 < n
    · exact ⟨_, .figures hk h1⟩
    · cases hs : sgOk s with
      | false => exact ⟨_, .sign hk (by omega) (by omega) hs⟩
      | true =>
        by_cases h2 : p < 0 ∨ n < p
        · exact ⟨_, .point hk (by omega) (by omega) hs h2⟩
        · exact ⟨_, .good hk (by omega) (by omega) hs (by omega) (by omega)⟩
theorem in_kd (k : Str) : inF (.str k) [.str "packed", .str "spread"] = some (kdOk k) := by simp [inF, eqF, kdOk]
theorem in_sg (k : Str) : inF (.str k) [.str "none", .str "end", .str "tens"] = some (sgOk k) := by simp [inF, eqF, sgOk]
theorem due_ok {k : Str} {n : Int} {s : Str} {p : Int} {d : D} (h : Due k n s p d) : m__law_due [.dat (.str k), .dat (.int n), .dat (.str s), .dat (.int p)] = some (.dat d) := by
  refine v_def rfl ?_
  have h1 := in_kd k
  have h2 := in_sg s
  cases h with
  | kind a => simp [b__law_due, mDef, okP_iff, okP_iffF, okP_T, okP_F, startC, argC, outR, mSeq, mIf, mT, mNi, asDat, mVar, asTup, mTup, aCons, aNil, mC, dats, szOk, h1, a, asBl, mRet, retR]
  | figures a b =>
    rcases b with b | b
    · simp [b__law_due, mDef, okP_iff, okP_iffF, okP_T, okP_F, startC, argC, outR, mSeq, mIf, mT, mNi, asDat, mVar, asTup, mTup, aCons, aNil, mC, dats, szOk, h1, a, asBl, mRet, retR, mSkip, tOrM, mLt, mGt, mII, cT, asInt, b]
    · simp [b__law_due, mDef, okP_iff, okP_iffF, okP_T, okP_F, startC, argC, outR, mSeq, mIf, mT, mNi, asDat, mVar, asTup, mTup, aCons, aNil, mC, dats, szOk, h1, a, asBl, mRet, retR, mSkip, tOrM, mLt, mGt, mII, cT, asInt, b, show ¬ n < 1 by omega]
  | sign a b c e => simp [b__law_due, mDef, okP_iff, okP_iffF, okP_T, okP_F, startC, argC, outR, mSeq, mIf, mT, mNi, asDat, mVar, asTup, mTup, aCons, aNil, mC, dats, szOk, h1, h2, a, asBl, mRet, retR, mSkip, tOrM, mLt, mGt, mII, cT, asInt, show ¬ n < 1 by omega, show ¬ 12 < n by omega, e]
  | point a b c e f =>
    rcases f with f | f
    · simp [b__law_due, mDef, okP_iff, okP_iffF, okP_T, okP_F, startC, argC, outR, mSeq, mIf, mT, mNi, asDat, mVar, asTup, mTup, aCons, aNil, mC, dats, szOk, h1, h2, a, asBl, mRet, retR, mSkip, tOrM, mLt, mGt, mII, cT, asInt, show ¬ n < 1 by omega, show ¬ 12 < n by omega, e, f]
    · simp [b__law_due, mDef, okP_iff, okP_iffF, okP_T, okP_F, startC, argC, outR, mSeq, mIf, mT, mNi, asDat, mVar, asTup, mTup, aCons, aNil, mC, dats, szOk, h1, h2, a, asBl, mRet, retR, mSkip, tOrM, mLt, mGt, mII, cT, asInt, show ¬ n < 1 by omega, show ¬ 12 < n by omega, e, f, show ¬ p < 0 by omega]
  | good a b c e f g => simp [b__law_due, mDef, okP_iff, okP_iffF, okP_T, okP_F, startC, argC, outR, mSeq, mIf, mT, mNi, asDat, mVar, asTup, mTup, aCons, aNil, mC, dats, szOk, h1, h2, a, asBl, mRet, retR, mSkip, tOrM, mLt, mGt, mII, cT, asInt, show ¬ n < 1 by omega, show ¬ 12 < n by omega, e, show ¬ p < 0 by omega, show ¬ n < p by omega]
/-- what shape tells -/
def shapeO (k : Str) (n : Int) (s : Str) (p : Int) : D → Out
  | .str z => .exc "NoShape" [("part", .str z)]
  | _ => .ok (.dat (.tup [.str k, .int n, .str s, .int p]))
theorem shape_ok {k : Str} {n : Int} {s : Str} {p : Int} {d : D} (h : Due k n s p d) : m_shape [.dat (.str k), .dat (.int n), .dat (.str s), .dat (.int p)] = some (shapeO k n s p d) := by
  have h1 := in_kd k
  have h2 := in_sg s
  cases h with
  | kind a => simp [m_shape, mDefX, b_shape, shapeO, okP_iff, okP_iffF, okP_T, okP_F, startC, argC, outX, mSeq, mIf, mT, mNi, asDat, mVar, asTup, mC, h1, a, asBl, mRaise1]
  | figures a b =>
    rcases b with b | b
    · simp [m_shape, mDefX, b_shape, shapeO, okP_iff, okP_iffF, okP_T, okP_F, startC, argC, outX, mSeq, mIf, mT, mNi, asDat, mVar, asTup, mC, h1, a, asBl, mRaise1, mSkip, tNotM, mChain, asInt, show ¬ 1 ≤ n by omega]
    · simp [m_shape, mDefX, b_shape, shapeO, okP_iff, okP_iffF, okP_T, okP_F, startC, argC, outX, mSeq, mIf, mT, mNi, asDat, mVar, asTup, mC, h1, a, asBl, mRaise1, mSkip, tNotM, mChain, asInt, show ¬ n ≤ 12 by omega]
  | sign a b c e => simp [m_shape, mDefX, b_shape, shapeO, okP_iff, okP_iffF, okP_T, okP_F, startC, argC, outX, mSeq, mIf, mT, mNi, asDat, mVar, asTup, mC, h1, h2, a, asBl, mRaise1, mSkip, tNotM, mChain, asInt, b, c, e]
  | point a b c e f =>
    rcases f with f | f
    · simp [m_shape, mDefX, b_shape, shapeO, okP_iff, okP_iffF, okP_T, okP_F, startC, argC, outX, mSeq, mIf, mT, mNi, asDat, mVar, asTup, mC, h1, h2, a, asBl, mRaise1, mSkip, tNotM, mChain, asInt, b, c, e, show ¬ 0 ≤ p by omega]
    · simp [m_shape, mDefX, b_shape, shapeO, okP_iff, okP_iffF, okP_T, okP_F, startC, argC, outX, mSeq, mIf, mT, mNi, asDat, mVar, asTup, mC, h1, h2, a, asBl, mRaise1, mSkip, tNotM, mChain, asInt, b, c, e, show ¬ p ≤ n by omega]
  | good a b c e f g => simp [m_shape, mDefX, b_shape, shapeO, okP_iff, okP_iffF, okP_T, okP_F, startC, argC, outX, mSeq, mIf, mT, mNi, asDat, mVar, asTup, mC, h1, h2, a, asBl, mRaise1, mSkip, tNotM, mChain, asInt, b, c, e, f, g, mRet, retR, mTup, aCons, aNil, dats, szOk]
/-! ### the words -/
theorem okS_lit (z : Str) (h : PyData.strOk z = true) : okS z := okS_iff.mpr h
def others : List Str := ["", "Packed", "spread ", "ends", "packed", "none", "s", "tens.", "spread", "end", "End", "tens ", " none", "NONE", " packed", "Spread"]
theorem word_ok (good : List Str) (way at' letter : Int) (hg : good ≠ []) (hgo : ∀ z ∈ good, okS z ∧ 0 < z.length ∧ z.length ≤ 100) (h2 : 0 ≤ letter) (h3 : letter < 26) :
    ∃ z, okS z ∧ m__law_word [.ro (good.map .str), .dat (.int way), .dat (.int at'), .dat (.int letter)] = some (.dat (.str z)) := by
  have hl : 0 < good.length := List.length_pos_iff.mpr hg
  obtain ⟨g, hat⟩ := atI_in (ns := good) (i := at' % (good.length : Int)) (Int.emod_nonneg _ (by omega)) (Int.emod_lt_of_pos _ (by omega))
  have hmem : g ∈ good := by
    obtain ⟨j, _, h2, _⟩ := atI_get hat
    exact List.mem_of_getElem? h2
  obtain ⟨go, gl, gl2⟩ := hgo g hmem
  by_cases hw : way = 0
  · subst hw
    obtain ⟨c, hc⟩ := atI_in (ns := ("abcdefghijklmnopqrstuvwxyz" : Str).cps.toList) (i := letter) h2 (by
      have : ("abcdefghijklmnopqrstuvwxyz" : Str).cps.toList.length = 26 := by decide +kernel
      omega)
    have hc2 : c < 0x110000 := by
      obtain ⟨j, _, h5, _⟩ := atI_get hc
      exact okS_lit "abcdefghijklmnopqrstuvwxyz" (by decide +kernel) c (List.mem_of_getElem? h5)
    have e26 : ("abcdefghijklmnopqrstuvwxyz" : Str).length = 26 := by decide +kernel
    have l1 := len_cut g none (some (at' / 7 % (g.length : Int)))
    have l2 := len_cut g (some (at' / 7 % (g.length : Int) + 1)) none
    refine ⟨(cutS g none (some (at' / 7 % (g.length : Int))) ++ ⟨#[c]⟩) ++ cutS g (some (at' / 7 % (g.length : Int) + 1)) none, okS_append (okS_append (okS_cut go _ _) (okS_one hc2)) (okS_cut go _ _), ?_⟩
    have e1 : (⟨#[c]⟩ : Str).length = 1 := rfl
    refine v_def rfl ?_
    have z0 : szOk g.length = true := okP_t (by omega)
    have z1 : szOk ((cutS g none (some (at' / 7 % (g.length : Int)))).length + 1) = true := okP_t (by omega)
    have z2 : szOk ((cutS g none (some (at' / 7 % (g.length : Int)))).length + 1 + (cutS g (some (at' / 7 % (g.length : Int) + 1)) none).length) = true := okP_t (by omega)
    have z3 : szOk 26 = true := okP_t (by omega)
    simp [b__law_word, mDef, okP_iff, okP_iffF, okP_T, okP_F, startC, argC, argN, outR, mSeq, mIf, mT, mLt, mLe, mGt, mGe, mII, cT, mVar, mC, mLen, aCons, aNil, gLen, asInt, asBl, asDat, asStr, asTup, asLst, asTrk, mRet, retR, mRetV, mSet, setR, mIxL, mIxT, mSkip, mEqS, mNeS, eqS, mMul, mAdd, mSub, mDiv, mMod, mPow, mNeg, cMul, cDiv, cMod, cPow, mTup, mLst, dats, mCall, mAbs', gAbs, mChain, tAndM, tOrM, tNotM, mIfE, mAndV, mOrV, mNotV, mApp, mAug, gNm, gTp, gCons', gNil', mAsg, mAsgL, mFor, iR1, iR2, bnd62, mDrop, mCatS, mCatT, mCatL, mSlT, mSlL, oNone, oSome, mIsi, isiD, mIsN, mNotN, isNon, mIntOf, gIntB, mMax', mMin', gMax2, gMin2, mEqD, mNeD, mIn, mNi, inF, eqF, mSlS, mIxS, mRaise1, mRaise2, mDefX, outX, okX, callX, mSetX, mExprX, mRetX, mTry, endT, dropX, mExF, mExI, mRevL, mRepL, iN, iV, iT, frzV, hl, atI_map hat, z0, z1, z2, z3, gl, e26, hc, e1, len_append, show Nat.log2 7 < 9000 by decide]
  · by_cases hw1 : way = 1
    · subst hw1
      obtain ⟨z, hz⟩ := atI_in (ns := others) (i := at' % 16) (Int.emod_nonneg _ (by decide)) (Int.emod_lt_of_pos _ (by decide))
      have zo : okS z := by
        obtain ⟨j, _, h5, _⟩ := atI_get hz
        have := List.mem_of_getElem? h5
        have all : ∀ z ∈ others, PyData.strOk z = true := by decide +kernel
        exact okS_lit z (all z this)
      have hz2 := atI_map (f := D.str) hz
      simp only [others, List.map_cons, List.map_nil] at hz2
      refine ⟨z, zo, ?_⟩
      refine v_def rfl ?_
      simp [b__law_word, mDef, okP_iff, okP_iffF, okP_T, okP_F, startC, argC, outR, mSeq, mSet, setR, mIxL, mVar, asLst, asTrk, mMod, mII, asInt, mLen, aCons, aNil, gLen, cMod, hl, atI_map hat, mIf, mT, mEqS, asDat, mC, eqS, asBl, szOk, mRet, mCatL, mLst, dats, retR, mSkip, hz2]
    · refine ⟨g, go, ?_⟩
      refine v_def rfl ?_
      simp [b__law_word, mDef, okP_iff, okP_iffF, okP_T, okP_F, startC, argC, outR, mSeq, mSet, setR, mIxL, mVar, asLst, mMod, mII, asInt, mLen, aCons, aNil, gLen, cMod, hl, atI_map hat, mIf, mT, mEqS, asDat, mC, eqS, asBl, mRetV, mSkip, hw, hw1]
theorem shp4 {k s : Str} {n p : Int} (hk : okS k) (hs : okS s) : shp (.tup [.str k, .int n, .str s, .int p]) = true :=
  shp_of (by simp [okD, okDL, okS_iff.mp hk, okS_iff.mp hs]) (by simp [dpD, dpDL])
theorem wok_small {w : Int} (h : 0 < w) (h2 : w < 1000) : WOk w := wok_of (b := 10) h (by omega) (by decide) (by decide)
/-! ### the law -/
abbrev stt (ns : List Int) (l : List C) : Rho := .bor (ns.map D.int) :: l
theorem turn (ns : List Int) (i : Int) (h0 : 0 ≤ i) (x2 x3 x4 x5 x6 x7 x8 x9 x10 : C) : ∃ y2 y3 y4 y5 y6 y7 y8 y9 y10 : C, f_law_3 (stt ns [.dat (.int i), x2, x3, x4, x5, x6, x7, x8, x9, x10]) = some (.nx (stt ns [.dat (.int i), y2, y3, y4, y5, y6, y7, y8, y9, y10])) := by
  obtain ⟨c, hc⟩ := cell_ok ns i h0
  obtain ⟨ds, hd, hds⟩ := draws_ok c 1 [8, 840, 26, 8, 12, 6, 840, 26, 6, 13, 6] (by
    intro w hw
    simp only [List.mem_cons, List.not_mem_nil, or_false] at hw
    exact wok_small (by omega) (by omega)) (by decide)
  cases hd with
  | cons a0 b0 hd =>
  cases hd with
  | cons a1 b1 hd =>
  cases hd with
  | cons a2 b2 hd =>
  cases hd with
  | cons a3 b3 hd =>
  cases hd with
  | cons a4 b4 hd =>
  cases hd with
  | cons a5 b5 hd =>
  cases hd with
  | cons a6 b6 hd =>
  cases hd with
  | cons a7 b7 hd =>
  cases hd with
  | cons a8 b8 hd =>
  cases hd with
  | cons a9 b9 hd =>
  cases hd with
  | cons a10 b10 hd =>
  cases hd
  rename_i d0 d1 d2 d3 d4 d5 d6 d7 d8 d9 d10
  simp only [List.map_cons, List.map_nil] at hds
  obtain ⟨k, hk, wk⟩ := word_ok ["packed", "spread"] d0 d1 d2 (by simp) (fun z hz => by
    have all : ∀ z ∈ (["packed", "spread"] : List Str), PyData.strOk z = true ∧ 0 < z.length ∧ z.length ≤ 100 := by decide +kernel
    exact ⟨okS_lit z (all z hz).1, (all z hz).2⟩) a2 b2
  obtain ⟨s, hs, ws⟩ := word_ok ["none", "end", "tens"] d3 d6 d7 (by simp) (fun z hz => by
    have all : ∀ z ∈ (["none", "end", "tens"] : List Str), PyData.strOk z = true ∧ 0 < z.length ∧ z.length ≤ 100 := by decide +kernel
    exact ⟨okS_lit z (all z hz).1, (all z hz).2⟩) a7 b7
  simp only [List.map_cons, List.map_nil] at wk ws
  have q39 : ∀ ρ, mPow (mC (.int 10)) (mC (.int 39)) ρ = some (.dat (.int (10 ^ (39 : Int).toNat))) := fun ρ => by simp only [mPow, mII, mC, asInt, Option.bind_some, show cPow 10 39 = true from okP_t (by decide), if_true]
  generalize (10 : Int) ^ (39 : Int).toNat = p39 at q39
  obtain ⟨n0, hn0⟩ := atI_ints (ns := [1 + d4, 13, 0, 1 + d4, -1 - d4, p39]) (i := d5) a5 (by simpa using b5)
  simp only [List.map_cons, List.map_nil] at hn0
  unfold f_law_3
  have key : ∀ n : Int, ∃ y2 y3 y4 y5 y6 y7 y8 y9 y10 : C, (mSeq (mSet 6 (mIxL (mLst (aCons (mIxL (mVar 2) (mC (.int 9))) (aCons (mAdd (mVar 5) (mC (.int 1))) (aCons (mNeg (mC (.int 1))) (aCons (mVar 5) (aCons (mC (.int 0)) (aCons (mMin' (mVar 5) (mIxL (mVar 2) (mC (.int 9)))) aNil))))))) (mIxL (mVar 2) (mC (.int 8)))))
    (mSeq (mSet 7 (mCall m__law_due (aCons (mVar 3) (aCons (mVar 5) (aCons (mVar 4) (aCons (mVar 6) aNil))))))
    (mSeq (mSet 8 (mC .non))
    (mSeq (mSet 9 (mC .non))
    (mSeq (mTry 10 (fun c => if c = "NoShape" then some true else none) t_law_1 u_law_2)
    (mIf (tOrM (mT (mNeS (mVar 9) (mVar 7))) (tAndM (mT (mIsN (mVar 7))) (mT (mNeD (mVar 8) (mTup (aCons (mVar 3) (aCons (mVar 5) (aCons (mVar 4) (aCons (mVar 6) aNil))))))))) (mRet (mC (.bl false))) mSkip))))))
      (stt ns [.dat (.int i), .own [.int d0, .int d1, .int d2, .int d3, .int d4, .int d5, .int d6, .int d7, .int d8, .int d9, .int d10], .dat (.str k), .dat (.str s), .dat (.int n), x6, x7, x8, x9, x10]) = some (.nx (stt ns [.dat (.int i), y2, y3, y4, y5, y6, y7, y8, y9, y10])) := by
    intro n
    obtain ⟨p, hp⟩ := atI_ints (ns := [d9, n + 1, -1, n, 0, if d9 < n then d9 else n]) (i := d8) a8 (by simpa using b8)
    simp only [List.map_cons, List.map_nil] at hp
    obtain ⟨du, hdu⟩ := due_of k n s p
    have dk := due_ok hdu
    have sk := shape_ok hdu
    have at8 : atI [D.int d0, D.int d1, D.int d2, D.int d3, D.int d4, D.int d5, D.int d6, D.int d7, D.int d8, D.int d9, D.int d10] 8 = some (.int d8) := atI_nat (j := 8) rfl
    have at9 : atI [D.int d0, D.int d1, D.int d2, D.int d3, D.int d4, D.int d5, D.int d6, D.int d7, D.int d8, D.int d9, D.int d10] 9 = some (.int d9) := atI_nat (j := 9) rfl
    generalize hL : [D.int d0, D.int d1, D.int d2, D.int d3, D.int d4, D.int d5, D.int d6, D.int d7, D.int d8, D.int d9, D.int d10] = L at at8 at9
    refine ⟨.own L, .dat (.str k), .dat (.str s), .dat (.int n), .dat (.int p), .dat du, (match du with | .non => .dat (.tup [.str k, .int n, .str s, .int p]) | _ => .dat .non), .dat du, (match du with | .non => dropX (dropX x10) | _ => .un), ?_⟩
    refine v_seq (ρ' := stt ns [.dat (.int i), .own L, .dat (.str k), .dat (.str s), .dat (.int n), .dat (.int p), x7, x8, x9, x10]) (by simp [mDef, okP_iff, okP_iffF, okP_T, okP_F, startC, argC, argN, outR, mSeq, mIf, mT, mLt, mLe, mGt, mGe, mII, cT, mVar, mC, mLen, aCons, aNil, gLen, asInt, asBl, asDat, asStr, asTup, asLst, asTrk, mRet, retR, mRetV, mSet, setR, mIxL, mIxT, mSkip, mEqS, mNeS, eqS, mMul, mAdd, mSub, mDiv, mMod, mPow, mNeg, cMul, cDiv, cMod, cPow, mTup, mLst, dats, szOk, mCall, mAbs', gAbs, mChain, tAndM, tOrM, tNotM, mIfE, mAndV, mOrV, mNotV, mApp, mAug, gNm, gTp, gCons', gNil', mAsg, mAsgL, mFor, iR1, iR2, bnd62, mDrop, mCatS, mCatT, mCatL, mSlT, mSlL, oNone, oSome, mIsi, isiD, mIsN, mNotN, isNon, mIntOf, gIntB, mMax', mMin', gMax2, gMin2, mEqD, mNeD, mIn, mNi, inF, eqF, mSlS, mIxS, mRaise1, mRaise2, mDefX, outX, okX, callX, mSetX, mExprX, mRetX, mTry, endT, dropX, mExF, mExI, mRevL, mRepL, iN, iV, iT, frzV, at8, at9, hp]) ?_
    refine v_seq (ρ' := stt ns [.dat (.int i), .own L, .dat (.str k), .dat (.str s), .dat (.int n), .dat (.int p), .dat du, x8, x9, x10]) (by simp [mDef, okP_iff, okP_iffF, okP_T, okP_F, startC, argC, argN, outR, mSeq, mIf, mT, mLt, mLe, mGt, mGe, mII, cT, mVar, mC, mLen, aCons, aNil, gLen, asInt, asBl, asDat, asStr, asTup, asLst, asTrk, mRet, retR, mRetV, mSet, setR, mIxL, mIxT, mSkip, mEqS, mNeS, eqS, mMul, mAdd, mSub, mDiv, mMod, mPow, mNeg, cMul, cDiv, cMod, cPow, mTup, mLst, dats, szOk, mCall, mAbs', gAbs, mChain, tAndM, tOrM, tNotM, mIfE, mAndV, mOrV, mNotV, mApp, mAug, gNm, gTp, gCons', gNil', mAsg, mAsgL, mFor, iR1, iR2, bnd62, mDrop, mCatS, mCatT, mCatL, mSlT, mSlL, oNone, oSome, mIsi, isiD, mIsN, mNotN, isNon, mIntOf, gIntB, mMax', mMin', gMax2, gMin2, mEqD, mNeD, mIn, mNi, inF, eqF, mSlS, mIxS, mRaise1, mRaise2, mDefX, outX, okX, callX, mSetX, mExprX, mRetX, mTry, endT, dropX, mExF, mExI, mRevL, mRepL, iN, iV, iT, frzV, dk]) ?_
    refine v_seq (ρ' := stt ns [.dat (.int i), .own L, .dat (.str k), .dat (.str s), .dat (.int n), .dat (.int p), .dat du, .dat .non, x9, x10]) (by simp [mDef, okP_iff, okP_iffF, okP_T, okP_F, startC, argC, argN, outR, mSeq, mIf, mT, mLt, mLe, mGt, mGe, mII, cT, mVar, mC, mLen, aCons, aNil, gLen, asInt, asBl, asDat, asStr, asTup, asLst, asTrk, mRet, retR, mRetV, mSet, setR, mIxL, mIxT, mSkip, mEqS, mNeS, eqS, mMul, mAdd, mSub, mDiv, mMod, mPow, mNeg, cMul, cDiv, cMod, cPow, mTup, mLst, dats, szOk, mCall, mAbs', gAbs, mChain, tAndM, tOrM, tNotM, mIfE, mAndV, mOrV, mNotV, mApp, mAug, gNm, gTp, gCons', gNil', mAsg, mAsgL, mFor, iR1, iR2, bnd62, mDrop, mCatS, mCatT, mCatL, mSlT, mSlL, oNone, oSome, mIsi, isiD, mIsN, mNotN, isNon, mIntOf, gIntB, mMax', mMin', gMax2, gMin2, mEqD, mNeD, mIn, mNi, inF, eqF, mSlS, mIxS, mRaise1, mRaise2, mDefX, outX, okX, callX, mSetX, mExprX, mRetX, mTry, endT, dropX, mExF, mExI, mRevL, mRepL, iN, iV, iT, frzV]) ?_
    refine v_seq (ρ' := stt ns [.dat (.int i), .own L, .dat (.str k), .dat (.str s), .dat (.int n), .dat (.int p), .dat du, .dat .non, .dat .non, x10]) (by simp [mDef, okP_iff, okP_iffF, okP_T, okP_F, startC, argC, argN, outR, mSeq, mIf, mT, mLt, mLe, mGt, mGe, mII, cT, mVar, mC, mLen, aCons, aNil, gLen, asInt, asBl, asDat, asStr, asTup, asLst, asTrk, mRet, retR, mRetV, mSet, setR, mIxL, mIxT, mSkip, mEqS, mNeS, eqS, mMul, mAdd, mSub, mDiv, mMod, mPow, mNeg, cMul, cDiv, cMod, cPow, mTup, mLst, dats, szOk, mCall, mAbs', gAbs, mChain, tAndM, tOrM, tNotM, mIfE, mAndV, mOrV, mNotV, mApp, mAug, gNm, gTp, gCons', gNil', mAsg, mAsgL, mFor, iR1, iR2, bnd62, mDrop, mCatS, mCatT, mCatL, mSlT, mSlL, oNone, oSome, mIsi, isiD, mIsN, mNotN, isNon, mIntOf, gIntB, mMax', mMin', gMax2, gMin2, mEqD, mNeD, mIn, mNi, inF, eqF, mSlS, mIxS, mRaise1, mRaise2, mDefX, outX, okX, callX, mSetX, mExprX, mRetX, mTry, endT, dropX, mExF, mExI, mRevL, mRepL, iN, iV, iT, frzV]) ?_
    have s4 := shp4 (n := n) (p := p) hk hs
    cases hdu with
    | good a b c e f g =>
      refine v_seq (ρ' := stt ns [.dat (.int i), .own L, .dat (.str k), .dat (.str s), .dat (.int n), .dat (.int p), .dat .non, .dat (.tup [.str k, .int n, .str s, .int p]), .dat .non, dropX (dropX x10)]) (by simp [t_law_1, u_law_2, mDef, okP_iff, okP_iffF, okP_T, okP_F, startC, argC, argN, outR, mSeq, mIf, mT, mLt, mLe, mGt, mGe, mII, cT, mVar, mC, mLen, aCons, aNil, gLen, asInt, asBl, asDat, asStr, asTup, asLst, asTrk, mRet, retR, mRetV, mSet, setR, mIxL, mIxT, mSkip, mEqS, mNeS, eqS, mMul, mAdd, mSub, mDiv, mMod, mPow, mNeg, cMul, cDiv, cMod, cPow, mTup, mLst, dats, szOk, mCall, mAbs', gAbs, mChain, tAndM, tOrM, tNotM, mIfE, mAndV, mOrV, mNotV, mApp, mAug, gNm, gTp, gCons', gNil', mAsg, mAsgL, mFor, iR1, iR2, bnd62, mDrop, mCatS, mCatT, mCatL, mSlT, mSlL, oNone, oSome, mIsi, isiD, mIsN, mNotN, isNon, mIntOf, gIntB, mMax', mMin', gMax2, gMin2, mEqD, mNeD, mIn, mNi, inF, eqF, mSlS, mIxS, mRaise1, mRaise2, mDefX, outX, okX, callX, mSetX, mExprX, mRetX, mTry, endT, dropX, mExF, mExI, mRevL, mRepL, iN, iV, iT, frzV, sk, shapeO]) ?_
      simp [mDef, okP_iff, okP_iffF, okP_T, okP_F, startC, argC, argN, outR, mSeq, mIf, mT, mLt, mLe, mGt, mGe, mII, cT, mVar, mC, mLen, aCons, aNil, gLen, asInt, asBl, asDat, asStr, asTup, asLst, asTrk, mRet, retR, mRetV, mSet, setR, mIxL, mIxT, mSkip, mEqS, mNeS, eqS, mMul, mAdd, mSub, mDiv, mMod, mPow, mNeg, cMul, cDiv, cMod, cPow, mTup, mLst, dats, szOk, mCall, mAbs', gAbs, mChain, tAndM, tOrM, tNotM, mIfE, mAndV, mOrV, mNotV, mApp, mAug, gNm, gTp, gCons', gNil', mAsg, mAsgL, mFor, iR1, iR2, bnd62, mDrop, mCatS, mCatT, mCatL, mSlT, mSlL, oNone, oSome, mIsi, isiD, mIsN, mNotN, isNon, mIntOf, gIntB, mMax', mMin', gMax2, gMin2, mEqD, mNeD, mIn, mNi, inF, eqF, mSlS, mIxS, mRaise1, mRaise2, mDefX, outX, okX, callX, mSetX, mExprX, mRetX, mTry, endT, dropX, mExF, mExI, mRevL, mRepL, iN, iV, iT, frzV, s4, eqD_refl]
    | kind a =>
      refine v_seq (ρ' := stt ns [.dat (.int i), .own L, .dat (.str k), .dat (.str s), .dat (.int n), .dat (.int p), .dat (.str "kind"), .dat .non, .dat (.str "kind"), .un]) (by simp [t_law_1, u_law_2, mDef, okP_iff, okP_iffF, okP_T, okP_F, startC, argC, argN, outR, mSeq, mIf, mT, mLt, mLe, mGt, mGe, mII, cT, mVar, mC, mLen, aCons, aNil, gLen, asInt, asBl, asDat, asStr, asTup, asLst, asTrk, mRet, retR, mRetV, mSet, setR, mIxL, mIxT, mSkip, mEqS, mNeS, eqS, mMul, mAdd, mSub, mDiv, mMod, mPow, mNeg, cMul, cDiv, cMod, cPow, mTup, mLst, dats, szOk, mCall, mAbs', gAbs, mChain, tAndM, tOrM, tNotM, mIfE, mAndV, mOrV, mNotV, mApp, mAug, gNm, gTp, gCons', gNil', mAsg, mAsgL, mFor, iR1, iR2, bnd62, mDrop, mCatS, mCatT, mCatL, mSlT, mSlL, oNone, oSome, mIsi, isiD, mIsN, mNotN, isNon, mIntOf, gIntB, mMax', mMin', gMax2, gMin2, mEqD, mNeD, mIn, mNi, inF, eqF, mSlS, mIxS, mRaise1, mRaise2, mDefX, outX, okX, callX, mSetX, mExprX, mRetX, mTry, endT, dropX, mExF, mExI, mRevL, mRepL, iN, iV, iT, frzV, sk, shapeO, List.lookup]) ?_
      simp [mDef, okP_iff, okP_iffF, okP_T, okP_F, startC, argC, argN, outR, mSeq, mIf, mT, mLt, mLe, mGt, mGe, mII, cT, mVar, mC, mLen, aCons, aNil, gLen, asInt, asBl, asDat, asStr, asTup, asLst, asTrk, mRet, retR, mRetV, mSet, setR, mIxL, mIxT, mSkip, mEqS, mNeS, eqS, mMul, mAdd, mSub, mDiv, mMod, mPow, mNeg, cMul, cDiv, cMod, cPow, mTup, mLst, dats, szOk, mCall, mAbs', gAbs, mChain, tAndM, tOrM, tNotM, mIfE, mAndV, mOrV, mNotV, mApp, mAug, gNm, gTp, gCons', gNil', mAsg, mAsgL, mFor, iR1, iR2, bnd62, mDrop, mCatS, mCatT, mCatL, mSlT, mSlL, oNone, oSome, mIsi, isiD, mIsN, mNotN, isNon, mIntOf, gIntB, mMax', mMin', gMax2, gMin2, mEqD, mNeD, mIn, mNi, inF, eqF, mSlS, mIxS, mRaise1, mRaise2, mDefX, outX, okX, callX, mSetX, mExprX, mRetX, mTry, endT, dropX, mExF, mExI, mRevL, mRepL, iN, iV, iT, frzV]
    | figures a b =>
      refine v_seq (ρ' := stt ns [.dat (.int i), .own L, .dat (.str k), .dat (.str s), .dat (.int n), .dat (.int p), .dat (.str "figures"), .dat .non, .dat (.str "figures"), .un]) (by simp [t_law_1, u_law_2, mDef, okP_iff, okP_iffF, okP_T, okP_F, startC, argC, argN, outR, mSeq, mIf, mT, mLt, mLe, mGt, mGe, mII, cT, mVar, mC, mLen, aCons, aNil, gLen, asInt, asBl, asDat, asStr, asTup, asLst, asTrk, mRet, retR, mRetV, mSet, setR, mIxL, mIxT, mSkip, mEqS, mNeS, eqS, mMul, mAdd, mSub, mDiv, mMod, mPow, mNeg, cMul, cDiv, cMod, cPow, mTup, mLst, dats, szOk, mCall, mAbs', gAbs, mChain, tAndM, tOrM, tNotM, mIfE, mAndV, mOrV, mNotV, mApp, mAug, gNm, gTp, gCons', gNil', mAsg, mAsgL, mFor, iR1, iR2, bnd62, mDrop, mCatS, mCatT, mCatL, mSlT, mSlL, oNone, oSome, mIsi, isiD, mIsN, mNotN, isNon, mIntOf, gIntB, mMax', mMin', gMax2, gMin2, mEqD, mNeD, mIn, mNi, inF, eqF, mSlS, mIxS, mRaise1, mRaise2, mDefX, outX, okX, callX, mSetX, mExprX, mRetX, mTry, endT, dropX, mExF, mExI, mRevL, mRepL, iN, iV, iT, frzV, sk, shapeO, List.lookup]) ?_
      simp [mDef, okP_iff, okP_iffF, okP_T, okP_F, startC, argC, argN, outR, mSeq, mIf, mT, mLt, mLe, mGt, mGe, mII, cT, mVar, mC, mLen, aCons, aNil, gLen, asInt, asBl, asDat, asStr, asTup, asLst, asTrk, mRet, retR, mRetV, mSet, setR, mIxL, mIxT, mSkip, mEqS, mNeS, eqS, mMul, mAdd, mSub, mDiv, mMod, mPow, mNeg, cMul, cDiv, cMod, cPow, mTup, mLst, dats, szOk, mCall, mAbs', gAbs, mChain, tAndM, tOrM, tNotM, mIfE, mAndV, mOrV, mNotV, mApp, mAug, gNm, gTp, gCons', gNil', mAsg, mAsgL, mFor, iR1, iR2, bnd62, mDrop, mCatS, mCatT, mCatL, mSlT, mSlL, oNone, oSome, mIsi, isiD, mIsN, mNotN, isNon, mIntOf, gIntB, mMax', mMin', gMax2, gMin2, mEqD, mNeD, mIn, mNi, inF, eqF, mSlS, mIxS, mRaise1, mRaise2, mDefX, outX, okX, callX, mSetX, mExprX, mRetX, mTry, endT, dropX, mExF, mExI, mRevL, mRepL, iN, iV, iT, frzV]
    | sign a b c e =>
      refine v_seq (ρ' := stt ns [.dat (.int i), .own L, .dat (.str k), .dat (.str s), .dat (.int n), .dat (.int p), .dat (.str "sign"), .dat .non, .dat (.str "sign"), .un]) (by simp [t_law_1, u_law_2, mDef, okP_iff, okP_iffF, okP_T, okP_F, startC, argC, argN, outR, mSeq, mIf, mT, mLt, mLe, mGt, mGe, mII, cT, mVar, mC, mLen, aCons, aNil, gLen, asInt, asBl, asDat, asStr, asTup, asLst, asTrk, mRet, retR, mRetV, mSet, setR, mIxL, mIxT, mSkip, mEqS, mNeS, eqS, mMul, mAdd, mSub, mDiv, mMod, mPow, mNeg, cMul, cDiv, cMod, cPow, mTup, mLst, dats, szOk, mCall, mAbs', gAbs, mChain, tAndM, tOrM, tNotM, mIfE, mAndV, mOrV, mNotV, mApp, mAug, gNm, gTp, gCons', gNil', mAsg, mAsgL, mFor, iR1, iR2, bnd62, mDrop, mCatS, mCatT, mCatL, mSlT, mSlL, oNone, oSome, mIsi, isiD, mIsN, mNotN, isNon, mIntOf, gIntB, mMax', mMin', gMax2, gMin2, mEqD, mNeD, mIn, mNi, inF, eqF, mSlS, mIxS, mRaise1, mRaise2, mDefX, outX, okX, callX, mSetX, mExprX, mRetX, mTry, endT, dropX, mExF, mExI, mRevL, mRepL, iN, iV, iT, frzV, sk, shapeO, List.lookup]) ?_
      simp [mDef, okP_iff, okP_iffF, okP_T, okP_F, startC, argC, argN, outR, mSeq, mIf, mT, mLt, mLe, mGt, mGe, mII, cT, mVar, mC, mLen, aCons, aNil, gLen, asInt, asBl, asDat, asStr, asTup, asLst, asTrk, mRet, retR, mRetV, mSet, setR, mIxL, mIxT, mSkip, mEqS, mNeS, eqS, mMul, mAdd, mSub, mDiv, mMod, mPow, mNeg, cMul, cDiv, cMod, cPow, mTup, mLst, dats, szOk, mCall, mAbs', gAbs, mChain, tAndM, tOrM, tNotM, mIfE, mAndV, mOrV, mNotV, mApp, mAug, gNm, gTp, gCons', gNil', mAsg, mAsgL, mFor, iR1, iR2, bnd62, mDrop, mCatS, mCatT, mCatL, mSlT, mSlL, oNone, oSome, mIsi, isiD, mIsN, mNotN, isNon, mIntOf, gIntB, mMax', mMin', gMax2, gMin2, mEqD, mNeD, mIn, mNi, inF, eqF, mSlS, mIxS, mRaise1, mRaise2, mDefX, outX, okX, callX, mSetX, mExprX, mRetX, mTry, endT, dropX, mExF, mExI, mRevL, mRepL, iN, iV, iT, frzV]
    | point a b c e f =>
      refine v_seq (ρ' := stt ns [.dat (.int i), .own L, .dat (.str k), .dat (.str s), .dat (.int n), .dat (.int p), .dat (.str "point"), .dat .non, .dat (.str "point"), .un]) (by simp [t_law_1, u_law_2, mDef, okP_iff, okP_iffF, okP_T, okP_F, startC, argC, argN, outR, mSeq, mIf, mT, mLt, mLe, mGt, mGe, mII, cT, mVar, mC, mLen, aCons, aNil, gLen, asInt, asBl, asDat, asStr, asTup, asLst, asTrk, mRet, retR, mRetV, mSet, setR, mIxL, mIxT, mSkip, mEqS, mNeS, eqS, mMul, mAdd, mSub, mDiv, mMod, mPow, mNeg, cMul, cDiv, cMod, cPow, mTup, mLst, dats, szOk, mCall, mAbs', gAbs, mChain, tAndM, tOrM, tNotM, mIfE, mAndV, mOrV, mNotV, mApp, mAug, gNm, gTp, gCons', gNil', mAsg, mAsgL, mFor, iR1, iR2, bnd62, mDrop, mCatS, mCatT, mCatL, mSlT, mSlL, oNone, oSome, mIsi, isiD, mIsN, mNotN, isNon, mIntOf, gIntB, mMax', mMin', gMax2, gMin2, mEqD, mNeD, mIn, mNi, inF, eqF, mSlS, mIxS, mRaise1, mRaise2, mDefX, outX, okX, callX, mSetX, mExprX, mRetX, mTry, endT, dropX, mExF, mExI, mRevL, mRepL, iN, iV, iT, frzV, sk, shapeO, List.lookup]) ?_
      simp [mDef, okP_iff, okP_iffF, okP_T, okP_F, startC, argC, argN, outR, mSeq, mIf, mT, mLt, mLe, mGt, mGe, mII, cT, mVar, mC, mLen, aCons, aNil, gLen, asInt, asBl, asDat, asStr, asTup, asLst, asTrk, mRet, retR, mRetV, mSet, setR, mIxL, mIxT, mSkip, mEqS, mNeS, eqS, mMul, mAdd, mSub, mDiv, mMod, mPow, mNeg, cMul, cDiv, cMod, cPow, mTup, mLst, dats, szOk, mCall, mAbs', gAbs, mChain, tAndM, tOrM, tNotM, mIfE, mAndV, mOrV, mNotV, mApp, mAug, gNm, gTp, gCons', gNil', mAsg, mAsgL, mFor, iR1, iR2, bnd62, mDrop, mCatS, mCatT, mCatL, mSlT, mSlL, oNone, oSome, mIsi, isiD, mIsN, mNotN, isNon, mIntOf, gIntB, mMax', mMin', gMax2, gMin2, mEqD, mNeD, mIn, mNi, inF, eqF, mSlS, mIxS, mRaise1, mRaise2, mDefX, outX, okX, callX, mSetX, mExprX, mRetX, mTry, endT, dropX, mExF, mExI, mRevL, mRepL, iN, iV, iT, frzV]
  have atk : ∀ (j : Nat) (v : D), [D.int d0, D.int d1, D.int d2, D.int d3, D.int d4, D.int d5, D.int d6, D.int d7, D.int d8, D.int d9, D.int d10][j]? = some v → atI [D.int d0, D.int d1, D.int d2, D.int d3, D.int d4, D.int d5, D.int d6, D.int d7, D.int d8, D.int d9, D.int d10] (j : Int) = some v := fun j v h => atI_nat h
  have g0 := atk 0 _ rfl
  have g1 := atk 1 _ rfl
  have g2 := atk 2 _ rfl
  have g3 := atk 3 _ rfl
  have g4 := atk 4 _ rfl
  have g5 := atk 5 _ rfl
  have g6 := atk 6 _ rfl
  have g7 := atk 7 _ rfl
  clear atk
  generalize hL : [D.int d0, D.int d1, D.int d2, D.int d3, D.int d4, D.int d5, D.int d6, D.int d7, D.int d8, D.int d9, D.int d10] = L at *
  obtain ⟨y2, y3, y4, y5, y6, y7, y8, y9, y10, hkey⟩ := key (if d0 % 2 = 1 then 1 + d4 else n0)
  refine ⟨y2, y3, y4, y5, y6, y7, y8, y9, y10, ?_⟩
  refine v_seq (ρ' := stt ns [.dat (.int i), .own L, x3, x4, x5, x6, x7, x8, x9, x10]) (by simp [mDef, okP_iff, okP_iffF, okP_T, okP_F, startC, argC, argN, outR, mSeq, mIf, mT, mLt, mLe, mGt, mGe, mII, cT, mVar, mC, mLen, aCons, aNil, gLen, asInt, asBl, asDat, asStr, asTup, asLst, asTrk, mRet, retR, mRetV, mSet, setR, mIxL, mIxT, mSkip, mEqS, mNeS, eqS, mMul, mAdd, mSub, mDiv, mMod, mPow, mNeg, cMul, cDiv, cMod, cPow, mTup, mLst, dats, szOk, mCall, mAbs', gAbs, mChain, tAndM, tOrM, tNotM, mIfE, mAndV, mOrV, mNotV, mApp, mAug, gNm, gTp, gCons', gNil', mAsg, mAsgL, mFor, iR1, iR2, bnd62, mDrop, mCatS, mCatT, mCatL, mSlT, mSlL, oNone, oSome, mIsi, isiD, mIsN, mNotN, isNon, mIntOf, gIntB, mMax', mMin', gMax2, gMin2, mEqD, mNeD, mIn, mNi, inF, eqF, mSlS, mIxS, mRaise1, mRaise2, mDefX, outX, okX, callX, mSetX, mExprX, mRetX, mTry, endT, dropX, mExF, mExI, mRevL, mRepL, iN, iV, iT, frzV, hc, hds]) ?_
  refine v_seq (ρ' := stt ns [.dat (.int i), .own L, .dat (.str k), x4, x5, x6, x7, x8, x9, x10]) (by simp at g0 g1 g2; simp [mDef, okP_iff, okP_iffF, okP_T, okP_F, startC, argC, argN, outR, mSeq, mIf, mT, mLt, mLe, mGt, mGe, mII, cT, mVar, mC, mLen, aCons, aNil, gLen, asInt, asBl, asDat, asStr, asTup, asLst, asTrk, mRet, retR, mRetV, mSet, setR, mIxL, mIxT, mSkip, mEqS, mNeS, eqS, mMul, mAdd, mSub, mDiv, mMod, mPow, mNeg, cMul, cDiv, cMod, cPow, mTup, mLst, dats, szOk, mCall, mAbs', gAbs, mChain, tAndM, tOrM, tNotM, mIfE, mAndV, mOrV, mNotV, mApp, mAug, gNm, gTp, gCons', gNil', mAsg, mAsgL, mFor, iR1, iR2, bnd62, mDrop, mCatS, mCatT, mCatL, mSlT, mSlL, oNone, oSome, mIsi, isiD, mIsN, mNotN, isNon, mIntOf, gIntB, mMax', mMin', gMax2, gMin2, mEqD, mNeD, mIn, mNi, inF, eqF, mSlS, mIxS, mRaise1, mRaise2, mDefX, outX, okX, callX, mSetX, mExprX, mRetX, mTry, endT, dropX, mExF, mExI, mRevL, mRepL, iN, iV, iT, frzV, g0, g1, g2, wk]) ?_
  refine v_seq (ρ' := stt ns [.dat (.int i), .own L, .dat (.str k), .dat (.str s), x5, x6, x7, x8, x9, x10]) (by simp at g3 g6 g7; simp [mDef, okP_iff, okP_iffF, okP_T, okP_F, startC, argC, argN, outR, mSeq, mIf, mT, mLt, mLe, mGt, mGe, mII, cT, mVar, mC, mLen, aCons, aNil, gLen, asInt, asBl, asDat, asStr, asTup, asLst, asTrk, mRet, retR, mRetV, mSet, setR, mIxL, mIxT, mSkip, mEqS, mNeS, eqS, mMul, mAdd, mSub, mDiv, mMod, mPow, mNeg, cMul, cDiv, cMod, cPow, mTup, mLst, dats, szOk, mCall, mAbs', gAbs, mChain, tAndM, tOrM, tNotM, mIfE, mAndV, mOrV, mNotV, mApp, mAug, gNm, gTp, gCons', gNil', mAsg, mAsgL, mFor, iR1, iR2, bnd62, mDrop, mCatS, mCatT, mCatL, mSlT, mSlL, oNone, oSome, mIsi, isiD, mIsN, mNotN, isNon, mIntOf, gIntB, mMax', mMin', gMax2, gMin2, mEqD, mNeD, mIn, mNi, inF, eqF, mSlS, mIxS, mRaise1, mRaise2, mDefX, outX, okX, callX, mSetX, mExprX, mRetX, mTry, endT, dropX, mExF, mExI, mRevL, mRepL, iN, iV, iT, frzV, g3, g6, g7, ws]) ?_
  refine v_seq (ρ' := stt ns [.dat (.int i), .own L, .dat (.str k), .dat (.str s), .dat (.int n0), x6, x7, x8, x9, x10]) (by simp at g4 g5; simp [mDef, okP_iff, okP_iffF, okP_T, okP_F, startC, argC, argN, outR, mSeq, mIf, mT, mLt, mLe, mGt, mGe, mII, cT, mVar, mC, mLen, aCons, aNil, gLen, asInt, asBl, asDat, asStr, asTup, asLst, asTrk, mRet, retR, mRetV, mSet, setR, mIxL, mIxT, mSkip, mEqS, mNeS, eqS, mMul, mAdd, mSub, mDiv, mMod, mNeg, cDiv, mTup, mLst, dats, szOk, mCall, mAbs', gAbs, mChain, tAndM, tOrM, tNotM, mIfE, mAndV, mOrV, mNotV, mApp, mAug, gNm, gTp, gCons', gNil', mAsg, mAsgL, mFor, iR1, iR2, bnd62, mDrop, mCatS, mCatT, mCatL, mSlT, mSlL, oNone, oSome, mIsi, isiD, mIsN, mNotN, isNon, mIntOf, gIntB, mMax', mMin', gMax2, gMin2, mEqD, mNeD, mIn, mNi, inF, eqF, mSlS, mIxS, mRaise1, mRaise2, mDefX, outX, okX, callX, mSetX, mExprX, mRetX, mTry, endT, dropX, mExF, mExI, mRevL, mRepL, iN, iV, iT, frzV, q39, g4, g5, hn0]) ?_
  refine v_seq (ρ' := stt ns [.dat (.int i), .own L, .dat (.str k), .dat (.str s), .dat (.int (if d0 % 2 = 1 then 1 + d4 else n0)), x6, x7, x8, x9, x10]) (by
    by_cases hq : d0 % 2 = 1
    · simp at g0 g4; simp [mDef, okP_iff, okP_iffF, okP_T, okP_F, startC, argC, argN, outR, mSeq, mIf, mT, mLt, mLe, mGt, mGe, mII, cT, mVar, mC, mLen, aCons, aNil, gLen, asInt, asBl, asDat, asStr, asTup, asLst, asTrk, mRet, retR, mRetV, mSet, setR, mIxL, mIxT, mSkip, mEqS, mNeS, eqS, mMul, mAdd, mSub, mDiv, mMod, mPow, mNeg, cMul, cDiv, cMod, cPow, mTup, mLst, dats, szOk, mCall, mAbs', gAbs, mChain, tAndM, tOrM, tNotM, mIfE, mAndV, mOrV, mNotV, mApp, mAug, gNm, gTp, gCons', gNil', mAsg, mAsgL, mFor, iR1, iR2, bnd62, mDrop, mCatS, mCatT, mCatL, mSlT, mSlL, oNone, oSome, mIsi, isiD, mIsN, mNotN, isNon, mIntOf, gIntB, mMax', mMin', gMax2, gMin2, mEqD, mNeD, mIn, mNi, inF, eqF, mSlS, mIxS, mRaise1, mRaise2, mDefX, outX, okX, callX, mSetX, mExprX, mRetX, mTry, endT, dropX, mExF, mExI, mRevL, mRepL, iN, iV, iT, frzV, g0, g4, hq]
    · simp at g0 g4; simp [mDef, okP_iff, okP_iffF, okP_T, okP_F, startC, argC, argN, outR, mSeq, mIf, mT, mLt, mLe, mGt, mGe, mII, cT, mVar, mC, mLen, aCons, aNil, gLen, asInt, asBl, asDat, asStr, asTup, asLst, asTrk, mRet, retR, mRetV, mSet, setR, mIxL, mIxT, mSkip, mEqS, mNeS, eqS, mMul, mAdd, mSub, mDiv, mMod, mPow, mNeg, cMul, cDiv, cMod, cPow, mTup, mLst, dats, szOk, mCall, mAbs', gAbs, mChain, tAndM, tOrM, tNotM, mIfE, mAndV, mOrV, mNotV, mApp, mAug, gNm, gTp, gCons', gNil', mAsg, mAsgL, mFor, iR1, iR2, bnd62, mDrop, mCatS, mCatT, mCatL, mSlT, mSlL, oNone, oSome, mIsi, isiD, mIsN, mNotN, isNon, mIntOf, gIntB, mMax', mMin', gMax2, gMin2, mEqD, mNeD, mIn, mNi, inF, eqF, mSlS, mIxS, mRaise1, mRaise2, mDefX, outX, okX, callX, mSetX, mExprX, mRetX, mTry, endT, dropX, mExF, mExI, mRevL, mRepL, iN, iV, iT, frzV, g0, g4, hq]) ?_
  exact hkey
theorem law_true (ns : List Int) (h : ns.length ≤ 63) : m_law [.ro (ns.map D.int)] = some (.dat (.bl true)) := by
  refine v_def rfl ?_
  have L : ∃ ρ', loopM (gNm 1) f_law_3 (rngD 0 8) (stt ns [.un, .un, .un, .un, .un, .un, .un, .un, .un, .un]) = some (.nx ρ') ∧ ∃ x1 x2 x3 x4 x5 x6 x7 x8 x9 x10 : C, ρ' = stt ns [x1, x2, x3, x4, x5, x6, x7, x8, x9, x10] := by
    refine loop_all (fun ρ => ∃ x1 x2 x3 x4 x5 x6 x7 x8 x9 x10 : C, ρ = stt ns [x1, x2, x3, x4, x5, x6, x7, x8, x9, x10]) ?_ _ ⟨_, _, _, _, _, _, _, _, _, _, rfl⟩
    rintro d hdm ρ ⟨x1, x2, x3, x4, x5, x6, x7, x8, x9, x10, rfl⟩
    obtain ⟨i, hi, rfl⟩ := mem_rngD hdm
    obtain ⟨y2, y3, y4, y5, y6, y7, y8, y9, y10, ht⟩ := turn ns (0 + (i : Nat)) (by omega) x2 x3 x4 x5 x6 x7 x8 x9 x10
    exact ⟨_, _, rfl, ht, _, _, _, _, _, _, _, _, _, _, rfl⟩
  obtain ⟨ρ', hl, _⟩ := L
  have st : b_law (startC 11 [.ro (ns.map D.int)]) = some (.ret (.dat (.bl true))) := by
    unfold b_law
    exact v_seq (v_for (ds := rngD 0 8) (by simp [mDef, okP_iff, okP_iffF, okP_T, okP_F, startC, argC, argN, outR, mSeq, mIf, mT, mLt, mLe, mGt, mGe, mII, cT, mVar, mC, mLen, aCons, aNil, gLen, asInt, asBl, asDat, asStr, asTup, asLst, asTrk, mRet, retR, mRetV, mSet, setR, mIxL, mIxT, mSkip, mEqS, mNeS, eqS, mMul, mAdd, mSub, mDiv, mMod, mPow, mNeg, cMul, cDiv, cMod, cPow, mTup, mLst, dats, szOk, mCall, mAbs', gAbs, mChain, tAndM, tOrM, tNotM, mIfE, mAndV, mOrV, mNotV, mApp, mAug, gNm, gTp, gCons', gNil', mAsg, mAsgL, mFor, iR1, iR2, bnd62, mDrop, mCatS, mCatT, mCatL, mSlT, mSlL, oNone, oSome, mIsi, isiD, mIsN, mNotN, isNon, mIntOf, gIntB, mMax', mMin', gMax2, gMin2, mEqD, mNeD, mIn, mNi, inF, eqF, mSlS, mIxS, mRaise1, mRaise2, mDefX, outX, okX, callX, mSetX, mExprX, mRetX, mTry, endT, dropX, mExF, mExI, mRevL, mRepL, iN, iV, iT, frzV]) hl) rfl
  rw [st]
  rfl
end Lw

namespace Lw
open PySem PySem.Spec PyProof.Rows L2 Evl Tl
theorem all_mk {l : PySem.W.OpenLaw} {w : World} {K : PySem.W.Frag} {h : Heap} {mg : Str → Option Value} {fa : Addr} (X : K.In h) (G : h.Ns mainGlobals mg) (hfa : mg "law" = some (.ref fa))
    {f0 : Addr} {od0 an0 : Option Addr} {sl0 : Array (Option Value)} {oc0 kV0 dc0 pm0 cd0 ct0 : Value} {f1 : Addr} {od1 an1 : Option Addr} {sl1 : Array (Option Value)} {oc1 kV1 dc1 pm1 cd1 ct1 : Value} {f2 : Addr} {od2 an2 : Option Addr} {sl2 : Array (Option Value)} {oc2 kV2 dc2 pm2 cd2 ct2 : Value} {f3 : Addr} {od3 an3 : Option Addr} {sl3 : Array (Option Value)} {oc3 kV3 dc3 pm3 cd3 ct3 : Value} {f4 : Addr} {od4 an4 : Option Addr} {sl4 : Array (Option Value)} {oc4 kV4 dc4 pm4 cd4 ct4 : Value} {f5 : Addr} {od5 an5 : Option Addr} {sl5 : Array (Option Value)} {oc5 kV5 dc5 pm5 cd5 ct5 : Value} {f6 : Addr} {od6 an6 : Option Addr} {sl6 : Array (Option Value)} {oc6 kV6 dc6 pm6 cd6 ct6 : Value} {A_NoShape : Addr} {A_LoftError : Addr} {A_NoFit : Addr} {nm_NoShape qn_NoShape : Str} {N_NoShape : Addr} {bs_NoShape : List Value} {sn_NoShape : List Str} {sb_NoShape : List Value} {ab_NoShape : Bool} {co_NoShape : Option Bool} {dd_NoShape : Option Addr} {m0_NoShape m1_NoShape m2_NoShape m3_NoShape m5_NoShape : Option Value} {fi_NoShape : Addr} {odi_NoShape ani_NoShape : Option Addr} {sli_NoShape : Array (Option Value)} {oci_NoShape kVi_NoShape dci_NoShape pmi_NoShape cdi_NoShape cti_NoShape : Value} {a_KINDS : Addr} {dd_KINDS : Option Addr} {n_KINDS : Nat} {sl_KINDS : Array (Option Value)} {t_KINDS_0 t_KINDS_1 : Tok} {t_MOST_FIGURES : Tok} {a_SIGNS : Addr} {dd_SIGNS : Option Addr} {n_SIGNS : Nat} {sl_SIGNS : Array (Option Value)} {t_SIGNS_0 t_SIGNS_1 t_SIGNS_2 : Tok}
    (a0 : PySem.W.nsIn K mainGlobals "shape" = some (some (.ref f0))) (l0 : K.lookup f0 = some ⟨oc0, od0, .func (PySem.W.fnOf "shape" "shape" (defArgs s_shape) (defBody s_shape) (defScope s_shape) .none kV0 dc0 pm0 an0 cd0 ct0), sl0⟩) (c0 : PySem.W.codeIn K cd0 "shape" = true) (k0 : PySem.W.keepIn K (.ref f0) = true)
    (a1 : PySem.W.nsIn K mainGlobals "_law_cell" = some (some (.ref f1))) (l1 : K.lookup f1 = some ⟨oc1, od1, .func (PySem.W.fnOf "_law_cell" "_law_cell" (defArgs s__law_cell) (defBody s__law_cell) (defScope s__law_cell) .none kV1 dc1 pm1 an1 cd1 ct1), sl1⟩) (c1 : PySem.W.codeIn K cd1 "_law_cell" = true) (k1 : PySem.W.keepIn K (.ref f1) = true)
    (a2 : PySem.W.nsIn K mainGlobals "_law_mixed" = some (some (.ref f2))) (l2 : K.lookup f2 = some ⟨oc2, od2, .func (PySem.W.fnOf "_law_mixed" "_law_mixed" (defArgs s__law_mixed) (defBody s__law_mixed) (defScope s__law_mixed) .none kV2 dc2 pm2 an2 cd2 ct2), sl2⟩) (c2 : PySem.W.codeIn K cd2 "_law_mixed" = true) (k2 : PySem.W.keepIn K (.ref f2) = true)
    (a3 : PySem.W.nsIn K mainGlobals "_law_draws" = some (some (.ref f3))) (l3 : K.lookup f3 = some ⟨oc3, od3, .func (PySem.W.fnOf "_law_draws" "_law_draws" (defArgs s__law_draws) (defBody s__law_draws) (defScope s__law_draws) .none kV3 dc3 pm3 an3 cd3 ct3), sl3⟩) (c3 : PySem.W.codeIn K cd3 "_law_draws" = true) (k3 : PySem.W.keepIn K (.ref f3) = true)
    (a4 : PySem.W.nsIn K mainGlobals "_law_word" = some (some (.ref f4))) (l4 : K.lookup f4 = some ⟨oc4, od4, .func (PySem.W.fnOf "_law_word" "_law_word" (defArgs s__law_word) (defBody s__law_word) (defScope s__law_word) .none kV4 dc4 pm4 an4 cd4 ct4), sl4⟩) (c4 : PySem.W.codeIn K cd4 "_law_word" = true) (k4 : PySem.W.keepIn K (.ref f4) = true)
    (a5 : PySem.W.nsIn K mainGlobals "_law_due" = some (some (.ref f5))) (l5 : K.lookup f5 = some ⟨oc5, od5, .func (PySem.W.fnOf "_law_due" "_law_due" (defArgs s__law_due) (defBody s__law_due) (defScope s__law_due) .none kV5 dc5 pm5 an5 cd5 ct5), sl5⟩) (c5 : PySem.W.codeIn K cd5 "_law_due" = true) (k5 : PySem.W.keepIn K (.ref f5) = true)
    (a6 : PySem.W.nsIn K mainGlobals "law" = some (some (.ref f6))) (l6 : K.lookup f6 = some ⟨oc6, od6, .func (PySem.W.fnOf "law" "law" (defArgs s_law) (defBody s_law) (defScope s_law) .none kV6 dc6 pm6 an6 cd6 ct6), sl6⟩) (c6 : PySem.W.codeIn K cd6 "law" = true) (k6 : PySem.W.keepIn K (.ref f6) = true)
    (g_NoShape : PySem.W.nsIn K mainGlobals "NoShape" = some (some (.ref A_NoShape)))
    (g_LoftError : PySem.W.nsIn K mainGlobals "LoftError" = some (some (.ref A_LoftError)))
    (g_NoFit : PySem.W.nsIn K mainGlobals "NoFit" = some (some (.ref A_NoFit)))
    (xL_NoShape : K.lookup A_NoShape = some (excClassObj nm_NoShape qn_NoShape A_NoShape N_NoShape bs_NoShape [.ref A_LoftError, .type "ValueError", .type "Exception", .type "BaseException", .type "object"] true sn_NoShape sb_NoShape ab_NoShape co_NoShape dd_NoShape m0_NoShape m1_NoShape m2_NoShape m3_NoShape m5_NoShape "ValueError.__new__"))
    (sa_NoShape : PySem.W.findIn K (.ref A_NoShape) "__setattr__" = some (some (.builtin "object.__setattr__")))
    (ga_NoShape : PySem.W.findIn K (.ref A_NoShape) "__getattribute__" = some (some (.builtin "BaseException.__getattribute__")))
    (gg_NoShape : PySem.W.findIn K (.ref A_NoShape) "__getattr__" = some none)
    (kC_NoShape : PySem.W.keepIn K (.ref A_NoShape) = true)
    (eC_NoShape : PySem.W.subIn K (.ref A_NoShape) (.type "BaseException") = some true)
    (tC_NoShape : PySem.W.typeIn K (.ref A_NoShape) = some (.type "type"))
    (hC_NoShape : PySem.W.hasDictIn K A_NoShape = true)
    (iC_NoShape : PySem.W.isClsIn K A_NoShape = true)
    (sC_NoShape : PySem.W.subIn K (.ref A_NoShape) (.ref A_NoShape) = some true)
    (wa_NoShape : PySem.W.findIn K (.ref A_NoShape) "__class__" = some (some (.builtin "object.__class__")))
    (wm_NoShape : PySem.W.mroIn K A_NoShape (.type "object") = some true)
    (no_NoShape_part : PySem.W.findIn K (.ref A_NoShape) "part" = some none)
    (ia_NoShape : PySem.W.findIn K (.ref A_NoShape) "__init__" = some (some (.ref fi_NoShape)))
    (it_NoShape : PySem.W.typeIn K (.ref fi_NoShape) = some (.type "function"))
    (il_NoShape : K.lookup fi_NoShape = some ⟨oci_NoShape, odi_NoShape, .func (PySem.W.fnOf "__init__" "NoShape.__init__" (defArgs si_NoShape) (defBody si_NoShape) (defScope si_NoShape) .none kVi_NoShape dci_NoShape pmi_NoShape ani_NoShape cdi_NoShape cti_NoShape), sli_NoShape⟩)
    (ic_NoShape : PySem.W.codeIn K cdi_NoShape "NoShape.__init__" = true)
    (ik_NoShape : PySem.W.keepIn K (.ref fi_NoShape) = true)
    (hn : PySem.W.specialIn K (.builtin "object.__class__") "__get__" = some (some (.builtin "getset_descriptor.__get__")))
    (ht : PySem.W.takesIn K (.builtin "object.__class__") = some true)
    (iC_LoftError : PySem.W.isClsIn K A_LoftError = true) (tC_LoftError : PySem.W.typeIn K (.ref A_LoftError) = some (.type "type"))
    (sk_NoShape_LoftError : PySem.W.subIn K (.ref A_NoShape) (.ref A_LoftError) = some true)
    (iC_NoFit : PySem.W.isClsIn K A_NoFit = true) (tC_NoFit : PySem.W.typeIn K (.ref A_NoFit) = some (.type "type"))
    (sk_NoShape_NoFit : PySem.W.subIn K (.ref A_NoShape) (.ref A_NoFit) = some false)
    (y_len : PySem.W.nsIn K mainGlobals "len" = some none)
    (y_abs : PySem.W.nsIn K mainGlobals "abs" = some none)
    (y_range : PySem.W.nsIn K mainGlobals "range" = some none)
    (y_min : PySem.W.nsIn K mainGlobals "min" = some none)
    (y_isinstance : PySem.W.nsIn K mainGlobals "isinstance" = some none)
    (v_KINDS : PySem.W.nsIn K mainGlobals "KINDS" = some (some (.ref a_KINDS))) (w_KINDS : K.lookup a_KINDS = some ⟨.type "tuple", dd_KINDS, .seq (List.toArray [.str "packed" t_KINDS_0, .str "spread" t_KINDS_1]) n_KINDS, sl_KINDS⟩)
    (v_MOST_FIGURES : PySem.W.nsIn K mainGlobals "MOST_FIGURES" = some (some (.int 12 t_MOST_FIGURES)))
    (v_SIGNS : PySem.W.nsIn K mainGlobals "SIGNS" = some (some (.ref a_SIGNS))) (w_SIGNS : K.lookup a_SIGNS = some ⟨.type "tuple", dd_SIGNS, .seq (List.toArray [.str "none" t_SIGNS_0, .str "end" t_SIGNS_1, .str "tens" t_SIGNS_2]) n_SIGNS, sl_SIGNS⟩) :
    ∃ fd : FuncData, (∀ (s : Shared) (v : Value), BindsTo s fd ⟨[v], []⟩ [("_law_script", v)]) ∧ ∀ base : Heap, K.In base → base.Ns mainGlobals mg → FnOk l.prog w K mg base CX0 4 fa fd ["_law_script"] (spM K m_law) := by
  have e := hfa.symm.trans (PySem.W.mg_of X G a6)
  cases e
  have z_len := PySem.W.mg_none_of X G y_len
  have z_abs := PySem.W.mg_none_of X G y_abs
  have z_range := PySem.W.mg_none_of X G y_range
  have z_min := PySem.W.mg_none_of X G y_min
  have z_isinstance := PySem.W.mg_none_of X G y_isinstance
  have c_KINDS : Gcon K mg "KINDS" (.tup [(.str "packed"), (.str "spread")]) := gcon_tup (PySem.W.mg_of X G v_KINDS) w_KINDS (by show 2 ≤ 1000; decide) (.str _ (.str _ .nil))
  have c_MOST_FIGURES : Gcon K mg "MOST_FIGURES" (.int 12) := gcon_int (PySem.W.mg_of X G v_MOST_FIGURES)
  have c_SIGNS : Gcon K mg "SIGNS" (.tup [(.str "none"), (.str "end"), (.str "tens")]) := gcon_tup (PySem.W.mg_of X G v_SIGNS) w_SIGNS (by show 3 ≤ 1000; decide) (.str _ (.str _ (.str _ .nil)))
  have n_NoShape := PySem.W.mg_of X G g_NoShape
  have n_LoftError := PySem.W.mg_of X G g_LoftError
  have n_NoFit := PySem.W.mg_of X G g_NoFit
  have T_NoShape : OexC K A_NoShape := ⟨⟨_, _, _, _, _, _, _, _, _, _, _, _, _, _, _, xL_NoShape, by first | decide +kernel | rfl | simp [PySem.HandSPX.refsVE, PySem.HandSPX.veTail]⟩, sa_NoShape, eC_NoShape, tC_NoShape, kC_NoShape⟩
  have q_NoShape : ExK K mg "NoShape" A_NoShape := ⟨n_NoShape, ⟨ga_NoShape, gg_NoShape, eC_NoShape, hC_NoShape⟩, iC_NoShape, wa_NoShape, hn, ht, wm_NoShape⟩
  have x_NoShape : PySem.W.exmOne K (.ref A_NoShape) (.ref A_NoShape) = some true := PySem.W.exm_ref eC_NoShape hC_NoShape tC_NoShape sC_NoShape
  have k_NoShape_LoftError := kit_one iC_LoftError tC_LoftError sk_NoShape_LoftError sC_NoShape
  have k_NoShape_NoFit := kit_one iC_NoFit tC_NoFit sk_NoShape_NoFit sC_NoShape
  have F0 := fun_mk (st := s_shape) l0 c0 k0
  have g0 := PySem.W.mg_of X G a0
  have b0 := F0.binds (ps := ["kind", "figures", "sign", "point"]) fun _ _ _ _ _ _ us hl => match us, hl with | [_, _, _, _], _ => rfl
  have F1 := fun_mk (st := s__law_cell) l1 c1 k1
  have g1 := PySem.W.mg_of X G a1
  have b1 := F1.binds (ps := ["_law_script", "_law_k"]) fun _ _ _ _ _ _ us hl => match us, hl with | [_, _], _ => rfl
  have F2 := fun_mk (st := s__law_mixed) l2 c2 k2
  have g2 := PySem.W.mg_of X G a2
  have b2 := F2.binds (ps := ["_law_cell_here", "_law_k", "_law_salt"]) fun _ _ _ _ _ _ us hl => match us, hl with | [_, _, _], _ => rfl
  have F3 := fun_mk (st := s__law_draws) l3 c3 k3
  have g3 := PySem.W.mg_of X G a3
  have b3 := F3.binds (ps := ["_law_cell_here", "_law_salt", "_law_widths"]) fun _ _ _ _ _ _ us hl => match us, hl with | [_, _, _], _ => rfl
  have F4 := fun_mk (st := s__law_word) l4 c4 k4
  have g4 := PySem.W.mg_of X G a4
  have b4 := F4.binds (ps := ["_law_good", "_law_way", "_law_at", "_law_letter"]) fun _ _ _ _ _ _ us hl => match us, hl with | [_, _, _, _], _ => rfl
  have F5 := fun_mk (st := s__law_due) l5 c5 k5
  have g5 := PySem.W.mg_of X G a5
  have b5 := F5.binds (ps := ["_law_kind", "_law_many", "_law_sign", "_law_point"]) fun _ _ _ _ _ _ us hl => match us, hl with | [_, _, _, _], _ => rfl
  have F6 := fun_mk (st := s_law) l6 c6 k6
  have g6 := PySem.W.mg_of X G a6
  have b6 := F6.binds (ps := ["_law_script"]) fun _ _ _ _ _ _ us hl => match us, hl with | [_], _ => rfl
  have Fi_NoShape := fun_mk (st := si_NoShape) il_NoShape ic_NoShape ik_NoShape
  have bi_NoShape := Fi_NoShape.binds (ps := ["self", "part"]) fun _ _ _ _ _ _ us hl => match us, hl with | [_, _], _ => rfl
  refine ⟨PySem.W.fnOf "law" "law" (defArgs s_law) (defBody s_law) (defScope s_law) .none kV6 dc6 pm6 an6 cd6 ct6, fun s v => .of_eq rfl, fun base _ _ => ?_⟩
  have r_NoShape : Xc1 l.prog w K mg base "NoShape" "part" := ⟨_, _, _, _, n_NoShape, T_NoShape, ia_NoShape, it_NoShape, ini_NoShape Fi_NoShape, bi_NoShape, no_NoShape_part⟩
  have h_shape : CalX l.prog w K mg base "shape" 3 m_shape := ok_shape c_KINDS c_MOST_FIGURES c_SIGNS r_NoShape F0 g0 b0
  have h__law_cell : Cal l.prog w K mg base "_law_cell" 1 m__law_cell := ok__law_cell z_len F1 g1 b1
  have h__law_mixed : Cal l.prog w K mg base "_law_mixed" 1 m__law_mixed := ok__law_mixed F2 g2 b2
  have h__law_draws : Cal l.prog w K mg base "_law_draws" 2 m__law_draws := ok__law_draws h__law_mixed z_abs z_range z_len F3 g3 b3
  have h__law_word : Cal l.prog w K mg base "_law_word" 1 m__law_word := ok__law_word z_len F4 g4 b4
  have h__law_due : Cal l.prog w K mg base "_law_due" 1 m__law_due := ok__law_due F5 g5 b5
  exact fn_law h__law_draws h__law_cell h__law_word h__law_due h_shape z_range z_min z_isinstance q_NoShape x_NoShape no_NoShape_part n_LoftError n_NoFit k_NoShape_LoftError k_NoShape_NoFit F6
end Lw

open PySem PySem.W PyProof.Rows
set_option maxRecDepth 100000 in
set_option maxHeartbeats 0 in
theorem PySem.Challenge.cw_tensloft_k01_shapes_made_holds : PySem.Challenge.rw_tensloft_k01_shapes_made.Holds := by
  w_on; o_law; k_head; (case hw => w_witness2)
  k_fill
  refine L2.walk_of (l := PySem.Challenge.rw_tensloft_k01_shapes_made) (n := 63) (k := 4) (x := "_law_script") (CX := fun _ => L2.CX0) (sp := fun w => Tl.spM _ Lw.m_law) rfl (by decide) rfl ⟨rfl, by decide, by decide⟩ (fun w h Y => PySem.W.kIn_of Y) ?F (fun _ _ a ns hl _ hS => Tl.law_end hS (Lw.law_true ns hl)) (fun _ _ _ _ _ h => h)
  case F =>
    intro w mg fa h KX G hmg
    refine' Lw.all_mk KX G hmg ?a0 ?l0 ?c0 ?k0 ?a1 ?l1 ?c1 ?k1 ?a2 ?l2 ?c2 ?k2 ?a3 ?l3 ?c3 ?k3 ?a4 ?l4 ?c4 ?k4 ?a5 ?l5 ?c5 ?k5 ?a6 ?l6 ?c6 ?k6 ?g_NoShape ?g_LoftError ?g_NoFit ?xL_NoShape ?sa_NoShape ?ga_NoShape ?gg_NoShape ?kC_NoShape ?eC_NoShape ?tC_NoShape ?hC_NoShape ?iC_NoShape ?sC_NoShape ?wa_NoShape ?wm_NoShape ?no_NoShape_part ?ia_NoShape ?it_NoShape ?il_NoShape ?ic_NoShape ?ik_NoShape ?hn ?ht ?iC_LoftError ?tC_LoftError ?sk_NoShape_LoftError ?iC_NoFit ?tC_NoFit ?sk_NoShape_NoFit ?y_len ?y_abs ?y_range ?y_min ?y_isinstance ?v_KINDS ?w_KINDS ?v_MOST_FIGURES ?v_SIGNS ?w_SIGNS
    (case a0 => k_is); (case l0 => k_is); (case c0 => k_is); (case k0 => k_is); (case a1 => k_is); (case l1 => k_is); (case c1 => k_is); (case k1 => k_is); (case a2 => k_is); (case l2 => k_is); (case c2 => k_is); (case k2 => k_is); (case a3 => k_is); (case l3 => k_is); (case c3 => k_is); (case k3 => k_is); (case a4 => k_is); (case l4 => k_is); (case c4 => k_is); (case k4 => k_is); (case a5 => k_is); (case l5 => k_is); (case c5 => k_is); (case k5 => k_is); (case a6 => k_is); (case l6 => k_is); (case c6 => k_is); (case k6 => k_is); (case g_NoShape => k_is); (case g_LoftError => k_is); (case g_NoFit => k_is); (case xL_NoShape => k_is); (case sa_NoShape => k_is); (case ga_NoShape => k_is); (case gg_NoShape => k_is); (case kC_NoShape => k_is); (case eC_NoShape => k_is); (case tC_NoShape => k_is); (case hC_NoShape => k_is); (case iC_NoShape => k_is); (case sC_NoShape => first | rfl | k_is); (case wa_NoShape => k_is); (case wm_NoShape => k_is); (case no_NoShape_part => k_is); (case ia_NoShape => k_is); (case it_NoShape => k_is); (case il_NoShape => k_is); (case ic_NoShape => k_is); (case ik_NoShape => k_is); (case hn => k_is); (case ht => k_is); (case iC_LoftError => k_is); (case tC_LoftError => k_is); (case sk_NoShape_LoftError => first | rfl | k_is); (case iC_NoFit => k_is); (case tC_NoFit => k_is); (case sk_NoShape_NoFit => first | rfl | k_is); (case y_len => k_is); (case y_abs => k_is); (case y_range => k_is); (case y_min => k_is); (case y_isinstance => k_is); (case v_KINDS => k_is); (case w_KINDS => k_is); (case v_MOST_FIGURES => k_is); (case v_SIGNS => k_is); (case w_SIGNS => k_is)
