import PyProof.Rows.All
import Wide.All
import OpenK.AllK
import Wide.FinOn
import HandS.ForMost
import HandS.Wide
import HandS.WideMore
import HandS.Evl
import HandS.Exc
import HandS.ExcOwn
import HandS.WordsExc
import HandS.NoneIn
import HandS.Style
import HandS.TupAny
import HandS.IsInst
import HandS.Zip
import HandS.Conv
import HandS.ExcInit
import HandS.ExcField
import HandS.ExcIs
import HandS.CallSlots
import KE.KExcIs
import HandS.Text
import HandS.More
import KE.GoesEnum
import KE.KDictZip
import HandS.StrMore
import PySem.Challenge.RW_tensloft_k07_written
set_option Elab.async false
set_option linter.all false
set_option maxRecDepth 100000
set_option maxHeartbeats 4000000
/-! A layer over the hand layer: programs over plain data as functions. -/
namespace Tl
open PySem PySem.Spec PyProof.Rows L2 Evl

inductive D where
  | non | bl (b : Bool) | int (i : Int) | str (x : Str) | tup (xs : List D)
instance : Inhabited D := ⟨.non⟩

mutual
inductive Den (K : PySem.W.Frag) (H : Hp) : V → D → Prop
  | non : Den K H .non .non
  | bl (b : Bool) : Den K H (.bl b) (.bl b)
  | int (i : Int) : Den K H (.int i) (.int i)
  | str (x : Str) : Den K H (.str x) (.str x)
  | tup {a : Addr} {xs : List V} {ds : List D} : SqT K H a xs → DenL K H xs ds → Den K H (.ref a) (.tup ds)
inductive DenL (K : PySem.W.Frag) (H : Hp) : List V → List D → Prop
  | nil : DenL K H [] []
  | cons {v : V} {vs : List V} {d : D} {ds : List D} : Den K H v d → DenL K H vs ds → DenL K H (v :: vs) (d :: ds)
end

/-- all tuples stay -/
def TEx (K : PySem.W.Frag) (H H' : Hp) : Prop := ∀ a xs, SqT K H a xs → SqT K H' a xs
section
variable {K : PySem.W.Frag} {H H' H1 H2 H3 : Hp}
theorem TEx.of (e : Ex H H') : TEx K H H' := fun _ _ h => ex_t e h
theorem TEx.refl : TEx K H H := fun _ _ h => h
theorem TEx.trans (a : TEx K H H1) (b : TEx K H1 H2) : TEx K H H2 := fun x y h => b x y (a x y h)
theorem TEx.mut {a : Addr} {xs ys : List V} (h : H a = some (.lst xs)) : TEx K H (upd H a (.lst ys)) := fun b zs hb => by
  rcases hb with (hb | ⟨o, hb⟩) | hb
  · have ne : b ≠ a := ne_of hb h (by intro z; cases z)
    exact .inl (.inl (by rw [upd_ne ne]; exact hb))
  · have ne : b ≠ a := ne_of hb h (by intro z; cases z)
    exact .inl (.inr ⟨o, by rw [upd_ne ne]; exact hb⟩)
  · exact .inr hb
mutual
theorem Den.imp (e : TEx K H H') : ∀ {v : V} {d : D}, Den K H v d → Den K H' v d
  | _, _, .non => .non
  | _, _, .bl b => .bl b
  | _, _, .int i => .int i
  | _, _, .str x => .str x
  | _, _, .tup h hl => .tup (e _ _ h) (DenL.imp e hl)
theorem DenL.imp (e : TEx K H H') : ∀ {vs : List V} {ds : List D}, DenL K H vs ds → DenL K H' vs ds
  | _, _, .nil => .nil
  | _, _, .cons h hl => .cons (Den.imp e h) (DenL.imp e hl)
end
theorem Den.ex (h : Den K H v d) (e : Ex H H') : Den K H' v d := h.imp (.of e)
theorem DenL.ex (h : DenL K H vs ds) (e : Ex H H') : DenL K H' vs ds := h.imp (.of e)
theorem DenL.length : ∀ {vs : List V} {ds : List D}, DenL K H vs ds → vs.length = ds.length
  | _, _, .nil => rfl
  | _, _, .cons _ h => congrArg (· + 1) h.length
theorem DenL.get : ∀ {vs : List V} {ds : List D} {i : Nat} {d : D}, DenL K H vs ds → ds[i]? = some d → ∃ v, vs[i]? = some v ∧ Den K H v d
  | _, _, _, _, .nil, e => by simp at e
  | _, _, 0, _, .cons h _, e => ⟨_, rfl, by cases Option.some.inj e; exact h⟩
  | _, _, i + 1, _, .cons _ h, e => by
    obtain ⟨v, h1, h2⟩ := DenL.get (i := i) h (by simpa using e)
    exact ⟨v, by simpa using h1, h2⟩
theorem DenL.getV : ∀ {vs : List V} {ds : List D} {i : Nat} {v : V}, DenL K H vs ds → vs[i]? = some v → ∃ d, ds[i]? = some d ∧ Den K H v d
  | _, _, _, _, .nil, e => by simp at e
  | _, _, 0, _, .cons h _, e => ⟨_, rfl, by cases Option.some.inj e; exact h⟩
  | _, _, i + 1, _, .cons _ h, e => by
    obtain ⟨v, h1, h2⟩ := DenL.getV (i := i) h (by simpa using e)
    exact ⟨v, by simpa using h1, h2⟩
theorem DenL.append : ∀ {vs ws : List V} {ds es : List D}, DenL K H vs ds → DenL K H ws es → DenL K H (vs ++ ws) (ds ++ es)
  | _, _, _, _, .nil, s => s
  | _, _, _, _, .cons h t, s => .cons h (DenL.append t s)
theorem DenL.take : ∀ {vs : List V} {ds : List D} (n : Nat), DenL K H vs ds → DenL K H (vs.take n) (ds.take n)
  | _, _, 0, _ => .nil
  | _, _, _ + 1, .nil => .nil
  | _, _, n + 1, .cons h t => .cons h (DenL.take n t)
theorem DenL.drop : ∀ {vs : List V} {ds : List D} (n : Nat), DenL K H vs ds → DenL K H (vs.drop n) (ds.drop n)
  | _, _, 0, r => r
  | _, _, _ + 1, .nil => .nil
  | _, _, n + 1, .cons _ t => DenL.drop n t
theorem DenL.reverse : ∀ {vs : List V} {ds : List D}, DenL K H vs ds → DenL K H vs.reverse ds.reverse
  | _, _, .nil => .nil
  | _, _, .cons h t => by
    rw [List.reverse_cons, List.reverse_cons]
    exact DenL.append (DenL.reverse t) (.cons h .nil)
theorem DenL.set : ∀ {vs : List V} {ds : List D} {v : V} {d : D} (i : Nat), DenL K H vs ds → Den K H v d → DenL K H (vs.set i v) (ds.set i d)
  | _, _, _, _, _, .nil, _ => .nil
  | _, _, _, _, 0, .cons _ t, h => .cons h t
  | _, _, _, _, i + 1, .cons q t, h => .cons q (DenL.set i t h)
theorem DenL.rep : ∀ {vs : List V} {ds : List D} (k : Nat), DenL K H vs ds → DenL K H (List.replicate k vs).flatten (List.replicate k ds).flatten
  | _, _, 0, _ => .nil
  | vs, ds, k + 1, h => by
    rw [List.replicate_succ, List.replicate_succ, List.flatten_cons, List.flatten_cons]
    exact DenL.append h (DenL.rep k h)
theorem DenL.ints : ∀ {vs : List V} {ns : List Int}, DenL K H vs (ns.map D.int) → vs = ns.map V.int
  | _, [], h => by cases h; rfl
  | _, _ :: _, h => by
    cases h with
    | cons h t => cases h; rw [DenL.ints t]; rfl
theorem DenL.of_ints : ∀ (ns : List Int), DenL K H (ns.map V.int) (ns.map D.int)
  | [] => .nil
  | n :: ns => .cons (.int n) (DenL.of_ints ns)
theorem DenL.bls : ∀ {vs : List V} {ns : List Bool}, DenL K H vs (ns.map D.bl) → vs = ns.map V.bl
  | _, [], h => by cases h; rfl
  | _, _ :: _, h => by
    cases h with
    | cons h t => cases h; rw [DenL.bls t]; rfl
theorem DenL.strs : ∀ {vs : List V} {ns : List Str}, DenL K H vs (ns.map D.str) → vs = ns.map V.str
  | _, [], h => by cases h; rfl
  | _, _ :: _, h => by
    cases h with
    | cons h t => cases h; rw [DenL.strs t]; rfl
end

/-! ### results, slots -/
inductive R where
  | dat (d : D) | lst (xs : List D) | new (xs : List D) | ro (xs : List D)
inductive C where
  | un | dat (d : D) | own (xs : List D) | bor (xs : List D) | exc (c : Str) (fs : List (Str × D))
abbrev Rho := List C
abbrev ME := Rho → Option R
abbrev MT := Rho → Option Bool
abbrev MA := Rho → Option (List R)

inductive FldL (K : PySem.W.Frag) (H : Hp) : List (Str × V) → List (Str × D) → Prop
  | nil : FldL K H [] []
  | cons {f : Str} {v : V} {d : D} {fs : List (Str × V)} {gs : List (Str × D)} : Den K H v d → FldL K H fs gs → FldL K H ((f, v) :: fs) ((f, d) :: gs)
theorem FldL.imp {K : PySem.W.Frag} {H H' : Hp} (e : TEx K H H') : ∀ {fs : List (Str × V)} {gs : List (Str × D)}, FldL K H fs gs → FldL K H' fs gs
  | _, _, .nil => .nil
  | _, _, .cons h t => .cons (h.imp e) (t.imp e)
theorem FldL.ex {K : PySem.W.Frag} {H H' : Hp} {fs : List (Str × V)} {gs : List (Str × D)} (h : FldL K H fs gs) (e : Ex H H') : FldL K H' fs gs := h.imp (.of e)
/-- the exception that a suite holds, as a slot has it -/
def ExcAt (X : Cx) (B H : Hp) (ov : Option (Option V)) (c : Str) (fs : List (Str × D)) : Prop :=
  ∃ (a : Addr) (oe : Obj) (pn : List (Addr × Obj)) (C dd : Addr) (gs : List (Str × V)), X.pn = (a, oe) :: pn ∧ ov = some (some (.ref a)) ∧ oe.cls = .ref C ∧ X.mg c = some (.ref C) ∧ oe.dict = some dd ∧ (∃ vs, oe.data = .fields vs) ∧ B dd = some (.xd gs) ∧ FldL X.K H gs fs
def SlotOk (X : Cx) (B H : Hp) (ov : Option (Option V)) : C → Prop
  | .un => True
  | .dat d => ∃ v, ov = some (some v) ∧ Den X.K H v d
  | .own xs => ∃ a vs, ov = some (some (.ref a)) ∧ B a = none ∧ H a = some (.lst vs) ∧ DenL X.K H vs xs
  | .bor xs => ∃ a vs, ov = some (some (.ref a)) ∧ SqL X.K B a vs ∧ DenL X.K H vs xs
  | .exc c fs => ExcAt X B H ov c fs
structure OkB (X : Cx) (H0 B : Hp) (σ : L2.St) (H : Hp) (ρ : Rho) : Prop where
  e0 : Ex H0 B
  e1 : Ex B H
  len : ρ.length = σ.length
  slot : ∀ (i : Nat) (c : C), ρ[i]? = some c → SlotOk X B H σ[i]? c
  inj : ∀ (i j : Nat) (xs ys : List D) (a : Addr), ρ[i]? = some (.own xs) → ρ[j]? = some (.own ys) → σ[i]? = some (some (.ref a)) → σ[j]? = some (some (.ref a)) → i = j
def Ok (X : Cx) (H0 : Hp) (σ : L2.St) (H : Hp) (ρ : Rho) : Prop := ∃ B, OkB X H0 B σ H ρ

section
variable {X : Cx} {H0 H H1 H2 B : Hp} {σ : L2.St} {ρ : Rho}
theorem SlotOk.ex {ov : Option (Option V)} : ∀ {c : C}, SlotOk X B H ov c → Ex H H1 → SlotOk X B H1 ov c
  | .un, _, _ => trivial
  | .dat _, ⟨v, h, d⟩, e => ⟨v, h, d.ex e⟩
  | .own _, ⟨a, vs, h, f, l, d⟩, e => ⟨a, vs, h, f, e _ _ l, d.ex e⟩
  | .bor _, ⟨a, vs, h, l, d⟩, e => ⟨a, vs, h, l, d.ex e⟩
  | .exc _ _, ⟨a, oe, pn, C, dd, gs, h1, h2, h3, h4, h5, h6, h7, h8⟩, e => ⟨a, oe, pn, C, dd, gs, h1, h2, h3, h4, h5, h6, h7, h8.ex e⟩
theorem Ok.ex (h : Ok X H0 σ H ρ) (e : Ex H H1) : Ok X H0 σ H1 ρ := by
  obtain ⟨B, h⟩ := h
  exact ⟨B, h.e0, h.e1.trans e, h.len, fun i c hi => (h.slot i c hi).ex e, h.inj⟩
theorem Ok.base (h : Ok X H0 σ H ρ) : Ex H0 H := by
  obtain ⟨B, h⟩ := h
  exact h.e0.trans h.e1
theorem get_set_eq {α : Type} {l : List α} {i : Nat} {x y : α} (h : (l.set i x)[i]? = some y) : y = x := by
  rw [List.getElem?_set] at h
  simp only [if_true] at h
  split at h
  · exact (Option.some.inj h).symm
  · cases h
theorem lt_of_get {α : Type} {l : List α} {i : Nat} {y : α} (h : l[i]? = some y) : i < l.length := (List.getElem?_eq_some_iff.mp h).1
theorem set_get {α : Type} {l : List α} {i : Nat} {x : α} (h : i < l.length) : (l.set i x)[i]? = some x := by
  rw [List.getElem?_set_self h]
/-- a slot gets plain data -/
theorem Ok.set {i : Nat} {v : V} {d : D} (h : Ok X H0 σ H ρ) (hv : Den X.K H v d) : Ok X H0 (σ.set i (some v)) H (ρ.set i (.dat d)) := by
  obtain ⟨B, h⟩ := h
  refine ⟨B, h.e0, h.e1, by rw [List.length_set, List.length_set]; exact h.len, fun j c hj => ?_, fun j k xs ys a hj hk sj sk => ?_⟩
  · by_cases e : i = j
    · subst e
      have hl := lt_of_get hj
      rw [List.length_set, h.len] at hl
      rw [get_set_eq hj]
      exact ⟨v, set_get hl, hv⟩
    · rw [List.getElem?_set_ne e] at hj ⊢
      exact h.slot j c hj
  · have nj : i ≠ j := fun e => by subst e; exact absurd (get_set_eq hj) (by intro z; cases z)
    have nk : i ≠ k := fun e => by subst e; exact absurd (get_set_eq hk) (by intro z; cases z)
    rw [List.getElem?_set_ne nj] at hj sj
    rw [List.getElem?_set_ne nk] at hk sk
    exact h.inj j k xs ys a hj hk sj sk
/-- a slot gets a new list -/
theorem Ok.setL {i : Nat} {a : Addr} {vs : List V} {xs : List D} (h : Ok X H0 σ H1 ρ) (e : Ex H1 H) (ha : H1 a = none) (hl : H a = some (.lst vs)) (hv : DenL X.K H vs xs) : Ok X H0 (σ.set i (some (.ref a))) H (ρ.set i (.own xs)) := by
  obtain ⟨B, h⟩ := h
  have old : ∀ (j : Nat) (zs : List D) (b : Addr), ρ[j]? = some (.own zs) → σ[j]? = some (some (.ref b)) → b ≠ a := fun j zs b hj sj => by
    obtain ⟨a', vs', s', _, l', _⟩ := h.slot j _ hj
    rw [s'] at sj
    cases sj
    exact ne_of_none l' ha
  refine ⟨B, h.e0, h.e1.trans e, by rw [List.length_set, List.length_set]; exact h.len, fun j c hj => ?_, fun j k xs ys b hj hk sj sk => ?_⟩
  · by_cases q : i = j
    · subst q
      have hl' := lt_of_get hj
      rw [List.length_set, h.len] at hl'
      rw [get_set_eq hj]
      exact ⟨a, vs, set_get hl', fresh_back h.e1 ha, hl, hv⟩
    · rw [List.getElem?_set_ne q] at hj ⊢
      exact (h.slot j c hj).ex e
  · by_cases qj : i = j
    · by_cases qk : i = k
      · exact qj.symm.trans qk
      · subst qj
        have hl' := lt_of_get hj
        rw [List.length_set, h.len] at hl'
        rw [set_get hl'] at sj
        cases sj
        rw [List.getElem?_set_ne qk] at hk sk
        exact absurd rfl (old k _ _ hk sk)
    · by_cases qk : i = k
      · subst qk
        have hl' := lt_of_get hk
        rw [List.length_set, h.len] at hl'
        rw [set_get hl'] at sk
        cases sk
        rw [List.getElem?_set_ne qj] at hj sj
        exact absurd rfl (old j _ _ hj sj)
      · rw [List.getElem?_set_ne qj] at hj sj
        rw [List.getElem?_set_ne qk] at hk sk
        exact h.inj j k _ _ b hj hk sj sk
/-- an own list is changed -/
theorem Ok.mut {i : Nat} {a : Addr} {us vs : List V} {xs ys : List D} (h : Ok X H0 σ H ρ) (hi : ρ[i]? = some (.own xs)) (si : σ[i]? = some (some (.ref a))) (hu : H a = some (.lst us)) (hv : DenL X.K H vs ys) : Ok X H0 σ (upd H a (.lst vs)) (ρ.set i (.own ys)) := by
  obtain ⟨B, h⟩ := h
  obtain ⟨a', vs', s', f', l', d'⟩ := h.slot i _ hi
  rw [s'] at si
  cases si
  have t : TEx X.K H (upd H a (.lst vs)) := TEx.mut hu
  refine ⟨B, h.e0, fun b o hb => ?_, by rw [List.length_set]; exact h.len, fun j c hj => ?_, fun j k zs ws b hj hk sj sk => ?_⟩
  · rw [upd_ne (ne_of_none hb f')]
    exact h.e1 b o hb
  · by_cases q : i = j
    · subst q
      rw [get_set_eq hj]
      exact ⟨a, vs, s', f', upd_same, hv.imp t⟩
    · rw [List.getElem?_set_ne q] at hj
      have z := h.slot j c hj
      cases c with
      | un => trivial
      | dat d =>
        obtain ⟨v, z1, z2⟩ := z
        exact ⟨v, z1, z2.imp t⟩
      | own zs =>
        obtain ⟨b, ws, z1, z2, z3, z4⟩ := z
        have ne : b ≠ a := fun e => by
          subst e
          exact q (h.inj i j _ _ _ hi hj s' z1)
        exact ⟨b, ws, z1, z2, by rw [upd_ne ne]; exact z3, z4.imp t⟩
      | bor zs =>
        obtain ⟨b, ws, z1, z2, z4⟩ := z
        exact ⟨b, ws, z1, z2, z4.imp t⟩
      | exc c fs =>
        obtain ⟨a, oe, pn, C, dd, gs, h1, h2, h3, h4, h5, h6, h7, h8⟩ := z
        exact ⟨a, oe, pn, C, dd, gs, h1, h2, h3, h4, h5, h6, h7, h8.imp t⟩
  · by_cases qj : i = j
    · by_cases qk : i = k
      · exact qj.symm.trans qk
      · subst qj
        rw [List.getElem?_set_ne qk] at hk
        exact h.inj i k _ _ b hi hk sj sk
    · by_cases qk : i = k
      · subst qk
        rw [List.getElem?_set_ne qj] at hj
        exact h.inj j i _ _ b hj hi sj sk
      · rw [List.getElem?_set_ne qj] at hj
        rw [List.getElem?_set_ne qk] at hk
        exact h.inj j k _ _ b hj hk sj sk
/-- an own list is let go: it is only read from here on -/
theorem Ok.frz {i : Nat} {xs : List D} (h : Ok X H0 σ H ρ) (hi : ρ[i]? = some (.own xs)) : Ok X H0 σ H (ρ.set i (.bor xs)) := by
  obtain ⟨B, h⟩ := h
  obtain ⟨a, vs, s', f', l', d'⟩ := h.slot i _ hi
  have eB : Ex B (upd B a (.lst vs)) := Ex.new f'
  refine ⟨upd B a (.lst vs), h.e0.trans eB, fun b o hb => ?_, by rw [List.length_set]; exact h.len, fun j c hj => ?_, fun j k zs ws b hj hk sj sk => ?_⟩
  · by_cases e : b = a
    · subst e
      rw [upd_same] at hb
      cases hb
      exact l'
    · rw [upd_ne e] at hb
      exact h.e1 b o hb
  · by_cases q : i = j
    · subst q
      rw [get_set_eq hj]
      exact ⟨a, vs, s', sq_of upd_same, d'⟩
    · rw [List.getElem?_set_ne q] at hj
      have z := h.slot j c hj
      cases c with
      | un => trivial
      | dat d => exact z
      | own zs =>
        obtain ⟨b, ws, z1, z2, z3, z4⟩ := z
        have ne : b ≠ a := fun e => by
          subst e
          exact q (h.inj i j _ _ _ hi hj s' z1)
        exact ⟨b, ws, z1, by rw [upd_ne ne]; exact z2, z3, z4⟩
      | bor zs =>
        obtain ⟨b, ws, z1, z2, z4⟩ := z
        exact ⟨b, ws, z1, ex_l eB z2, z4⟩
      | exc c fs =>
        obtain ⟨a, oe, pn, C, dd, gs, h1, h2, h3, h4, h5, h6, h7, h8⟩ := z
        exact ⟨a, oe, pn, C, dd, gs, h1, h2, h3, h4, h5, h6, eB _ _ h7, h8⟩
  · have nj : i ≠ j := fun e => by subst e; exact absurd (get_set_eq hj) (by intro z; cases z)
    have nk : i ≠ k := fun e => by subst e; exact absurd (get_set_eq hk) (by intro z; cases z)
    rw [List.getElem?_set_ne nj] at hj
    rw [List.getElem?_set_ne nk] at hk
    exact h.inj j k zs ws b hj hk sj sk
theorem Ok.un {i : Nat} {o : Option V} (h : Ok X H0 σ H ρ) : Ok X H0 (σ.set i o) H (ρ.set i .un) := by
  obtain ⟨B, h⟩ := h
  refine ⟨B, h.e0, h.e1, by rw [List.length_set, List.length_set]; exact h.len, fun j c hj => ?_, fun j k xs ys a hj hk sj sk => ?_⟩
  · by_cases e : i = j
    · subst e
      rw [get_set_eq hj]
      trivial
    · rw [List.getElem?_set_ne e] at hj ⊢
      exact h.slot j c hj
  · have nj : i ≠ j := fun e => by subst e; exact absurd (get_set_eq hj) (by intro z; cases z)
    have nk : i ≠ k := fun e => by subst e; exact absurd (get_set_eq hk) (by intro z; cases z)
    rw [List.getElem?_set_ne nj] at hj sj
    rw [List.getElem?_set_ne nk] at hk sk
    exact h.inj j k xs ys a hj hk sj sk
end

/-! ### expressions -/
def Got (K : PySem.W.Frag) (H1 : Hp) (v : V) (H2 : Hp) : R → Prop
  | .dat d => Den K H2 v d
  | .lst xs => ∃ a vs, v = .ref a ∧ H2 a = some (.lst vs) ∧ DenL K H2 vs xs
  | .new xs => ∃ a vs, v = .ref a ∧ H1 a = none ∧ H2 a = some (.lst vs) ∧ DenL K H2 vs xs
  | .ro xs => ∃ a vs, v = .ref a ∧ SqL K H2 a vs ∧ DenL K H2 vs xs
def EvR (K : PySem.W.Frag) (te : TE) (σ : L2.St) (H : Hp) (r : R) : Prop := ∀ H1, Ex H H1 → ∀ Q : VK, (∀ v H2, Ex H1 H2 → Got K H1 v H2 r → Q v H2) → te σ H1 Q
/-- arguments: each readable at the end -/
def ArgOk (K : PySem.W.Frag) (H : Hp) (v : V) : R → Prop
  | .dat d => Den K H v d
  | .lst xs => ∃ a vs, v = .ref a ∧ H a = some (.lst vs) ∧ DenL K H vs xs
  | .new xs => ∃ a vs, v = .ref a ∧ H a = some (.lst vs) ∧ DenL K H vs xs
  | .ro xs => ∃ a vs, v = .ref a ∧ SqL K H a vs ∧ DenL K H vs xs
inductive ArgL (K : PySem.W.Frag) (H : Hp) : List V → List R → Prop
  | nil : ArgL K H [] []
  | cons {v : V} {vs : List V} {r : R} {rs : List R} : ArgOk K H v r → ArgL K H vs rs → ArgL K H (v :: vs) (r :: rs)
def EvRs (K : PySem.W.Frag) (ta : TA) (σ : L2.St) (H : Hp) (rs : List R) : Prop := ∀ H1, Ex H H1 → ∀ Q : List V → Hp → Prop, (∀ vs H2, Ex H1 H2 → ArgL K H2 vs rs → Q vs H2) → ta σ H1 Q
/-- as a def takes it -/
def argN : R → R
  | .dat d => .dat d
  | .lst xs => .ro xs
  | .new xs => .ro xs
  | .ro xs => .ro xs
section
variable {K : PySem.W.Frag} {H H1 H2 H3 : Hp}
theorem ArgOk.ex {v : V} : ∀ {r : R}, ArgOk K H v r → Ex H H1 → ArgOk K H1 v r
  | .dat _, h, e => Den.ex h e
  | .lst _, ⟨a, vs, h, l, d⟩, e => ⟨a, vs, h, e _ _ l, d.ex e⟩
  | .new _, ⟨a, vs, h, l, d⟩, e => ⟨a, vs, h, e _ _ l, d.ex e⟩
  | .ro _, ⟨a, vs, h, l, d⟩, e => ⟨a, vs, h, ex_l e l, d.ex e⟩
theorem ArgL.ex : ∀ {vs : List V} {rs : List R}, ArgL K H vs rs → Ex H H1 → ArgL K H1 vs rs
  | _, _, .nil, _ => .nil
  | _, _, .cons h t, e => .cons (h.ex e) (ArgL.ex t e)
theorem Got.arg {v : V} : ∀ {r : R}, Got K H1 v H2 r → ArgOk K H2 v r
  | .dat _, h => h
  | .lst _, h => h
  | .ro _, h => h
  | .new _, ⟨a, vs, h, _, l, d⟩ => ⟨a, vs, h, l, d⟩
theorem Got.back {v : V} (e : Ex H1 H2) : ∀ {r : R}, Got K H2 v H3 r → Got K H1 v H3 r
  | .dat _, h => h
  | .lst _, h => h
  | .ro _, h => h
  | .new _, ⟨a, vs, h, n, l, d⟩ => ⟨a, vs, h, fresh_back e n, l, d⟩
theorem ArgOk.norm {v : V} : ∀ {r : R}, ArgOk K H v r → ArgOk K H v (argN r)
  | .dat _, h => h
  | .lst _, ⟨a, vs, h, l, d⟩ => ⟨a, vs, h, sq_of l, d⟩
  | .new _, ⟨a, vs, h, l, d⟩ => ⟨a, vs, h, sq_of l, d⟩
  | .ro _, h => h
theorem ArgL.norm : ∀ {vs : List V} {rs : List R}, ArgL K H vs rs → ArgL K H vs (rs.map argN)
  | _, _, .nil => .nil
  | _, _, .cons h t => .cons h.norm (ArgL.norm t)
theorem ArgL.length : ∀ {vs : List V} {rs : List R}, ArgL K H vs rs → vs.length = rs.length
  | _, _, .nil => rfl
  | _, _, .cons _ h => congrArg (· + 1) h.length
end

/-! ### what the mirrors read off results -/
def asInt : Option R → Option Int
  | some (.dat (.int i)) => some i
  | _ => none
def asStr : Option R → Option Str
  | some (.dat (.str i)) => some i
  | _ => none
def asBl : Option R → Option Bool
  | some (.dat (.bl i)) => some i
  | _ => none
def asTup : Option R → Option (List D)
  | some (.dat (.tup i)) => some i
  | _ => none
def asDat : Option R → Option D
  | some (.dat i) => some i
  | _ => none
def asLst : Option R → Option (List D)
  | some (.lst i) => some i
  | some (.new i) => some i
  | some (.ro i) => some i
  | _ => none
def asTrk : Option R → Option (List D)
  | some (.lst i) => some i
  | some (.new i) => some i
  | _ => none
theorem asInt_some {o : Option R} {i : Int} (h : asInt o = some i) : o = some (.dat (.int i)) := by
  unfold asInt at h
  split at h
  · cases h; rfl
  · cases h
theorem asStr_some {o : Option R} {i : Str} (h : asStr o = some i) : o = some (.dat (.str i)) := by
  unfold asStr at h
  split at h
  · cases h; rfl
  · cases h
theorem asBl_some {o : Option R} {i : Bool} (h : asBl o = some i) : o = some (.dat (.bl i)) := by
  unfold asBl at h
  split at h
  · cases h; rfl
  · cases h
theorem asTup_some {o : Option R} {i : List D} (h : asTup o = some i) : o = some (.dat (.tup i)) := by
  unfold asTup at h
  split at h
  · cases h; rfl
  · cases h
theorem asDat_some {o : Option R} {i : D} (h : asDat o = some i) : o = some (.dat i) := by
  unfold asDat at h
  split at h
  · cases h; rfl
  · cases h
section
variable {K : PySem.W.Frag} {te : TE} {σ : L2.St} {H : Hp} {o : Option R} {xs : List D}
/-- a list to be read -/
theorem ev_lst (h : asLst o = some xs) (hr : ∀ r, o = some r → EvR K te σ H r) : EvR K te σ H (.ro xs) := by
  unfold asLst at h
  split at h
  · cases h
    exact fun H1 e Q q => hr _ rfl H1 e Q fun v H2 e2 ⟨a, vs, h1, h2, h3⟩ => q v H2 e2 ⟨a, vs, h1, sq_of h2, h3⟩
  · cases h
    exact fun H1 e Q q => hr _ rfl H1 e Q fun v H2 e2 ⟨a, vs, h1, _, h2, h3⟩ => q v H2 e2 ⟨a, vs, h1, sq_of h2, h3⟩
  · cases h
    exact fun H1 e Q q => hr _ rfl H1 e Q q
  · cases h
theorem ev_trk (h : asTrk o = some xs) (hr : ∀ r, o = some r → EvR K te σ H r) : EvR K te σ H (.lst xs) := by
  unfold asTrk at h
  split at h
  · cases h
    exact fun H1 e Q q => hr _ rfl H1 e Q q
  · cases h
    exact fun H1 e Q q => hr _ rfl H1 e Q fun v H2 e2 ⟨a, vs, h1, _, h2, h3⟩ => q v H2 e2 ⟨a, vs, h1, h2, h3⟩
  · cases h
end

/-- e gives m -/
def JE (X : Cx) (e : Expr) (m : ME) : Prop := ∃ te, PE X e te ∧ ∀ H0 σ H ρ r, Ok X H0 σ H ρ → m ρ = some r → EvR X.K te σ H r
def JT (X : Cx) (e : Expr) (m : MT) : Prop := ∃ tt, PT X e tt ∧ ∀ H0 σ H ρ b, Ok X H0 σ H ρ → m ρ = some b → EvT tt σ H b
def JW (X : Cx) (e : Expr) (m : MT) : Prop := ∃ tt, PW X e tt ∧ ∀ H0 σ H ρ b, Ok X H0 σ H ρ → m ρ = some b → EvT tt σ H b
def JA (X : Cx) (es : List Expr) (m : MA) : Prop := ∃ ta, PA X es ta ∧ ∀ H0 σ H ρ rs, Ok X H0 σ H ρ → m ρ = some rs → EvRs X.K ta σ H rs

/-- a test that the kernel never runs -/
noncomputable def okP (p : Prop) : Bool := @decide p (Classical.propDecidable p)
theorem okP_of {p : Prop} (h : okP p = true) : p := @of_decide_eq_true p (Classical.propDecidable p) h
theorem okP_t {p : Prop} (h : p) : okP p = true := @decide_eq_true p (Classical.propDecidable p) h
theorem okP_f {p : Prop} (h : ¬ p) : okP p = false := @decide_eq_false p (Classical.propDecidable p) h
theorem okP_iff {p : Prop} : (okP p = true) = p := propext ⟨okP_of, okP_t⟩
theorem okP_iffF {p : Prop} : (okP p = false) = ¬ p := propext ⟨fun h q => Bool.noConfusion ((okP_t q).symm.trans h), okP_f⟩
theorem okP_eq {p : Prop} [Decidable p] : decide p = okP p := by
  by_cases h : p
  · rw [decide_eq_true h, okP_t h]
  · rw [decide_eq_false h, okP_f h]
noncomputable section
/-! ### the mirrors of expressions -/
def mVar (i : Nat) : ME := fun ρ => match ρ[i]? with
  | some (.dat d) => some (.dat d)
  | some (.own xs) => some (.lst xs)
  | some (.bor xs) => some (.ro xs)
  | _ => none
def mC (d : D) : ME := fun _ => some (.dat d)
def mII (c : Int → Int → Bool) (g : Int → Int → D) (f1 f2 : ME) : ME := fun ρ =>
  (asInt (f1 ρ)).bind fun a => (asInt (f2 ρ)).bind fun b => if c a b = true then some (.dat (g a b)) else none
def cT (_ _ : Int) : Bool := true
def cMul (i j : Int) : Bool := okP ((-(2 ^ 64) < i ∧ i < 2 ^ 64) ∨ (-(2 ^ 64) < j ∧ j < 2 ^ 64))
def cDiv (_ j : Int) : Bool := okP (0 < j ∧ j.natAbs.log2 < 9000)
def cMod (_ j : Int) : Bool := okP (0 < j)
def cPow (i j : Int) : Bool := okP (0 ≤ j ∧ j ≤ 1000000 ∧ i.natAbs < 2 ^ 64)
def mAdd (f1 f2 : ME) : ME := fun ρ => mII cT (fun a b => .int (a + b)) f1 f2 ρ
def mSub (f1 f2 : ME) : ME := fun ρ => mII cT (fun a b => .int (a - b)) f1 f2 ρ
def mMul (f1 f2 : ME) : ME := fun ρ => mII cMul (fun a b => .int (a * b)) f1 f2 ρ
def mDiv (f1 f2 : ME) : ME := fun ρ => mII cDiv (fun a b => .int (a / b)) f1 f2 ρ
def mMod (f1 f2 : ME) : ME := fun ρ => mII cMod (fun a b => .int (a % b)) f1 f2 ρ
def mPow (f1 f2 : ME) : ME := fun ρ => mII cPow (fun a b => .int (a ^ b.toNat)) f1 f2 ρ
def mLt (f1 f2 : ME) : ME := fun ρ => mII cT (fun a b => .bl (okP (a < b))) f1 f2 ρ
def mLe (f1 f2 : ME) : ME := fun ρ => mII cT (fun a b => .bl (okP (a ≤ b))) f1 f2 ρ
def mGt (f1 f2 : ME) : ME := fun ρ => mII cT (fun a b => .bl (okP (b < a))) f1 f2 ρ
def mGe (f1 f2 : ME) : ME := fun ρ => mII cT (fun a b => .bl (okP (b ≤ a))) f1 f2 ρ
def mNeg (f : ME) : ME := fun ρ => (asInt (f ρ)).bind fun a => some (.dat (.int (-a)))
def mT (m : ME) : MT := fun ρ => asBl (m ρ)
def eqS : D → D → Option Bool
  | .non, .non => some true
  | .non, .int _ => some false
  | .int _, .non => some false
  | .non, .bl _ => some false
  | .bl _, .non => some false
  | .non, .str _ => some false
  | .str _, .non => some false
  | .int a, .int b => some (okP (a = b))
  | .bl a, .bl b => some (decide (a = b))
  | .str a, .str b => some (decide (a = b))
  | .int _, .str _ => some false
  | .str _, .int _ => some false
  | .bl _, .str _ => some false
  | .str _, .bl _ => some false
  | _, _ => none
def mEqS (f1 f2 : ME) : ME := fun ρ => (asDat (f1 ρ)).bind fun a => (asDat (f2 ρ)).bind fun b => (eqS a b).map fun k => .dat (.bl k)
def mNeS (f1 f2 : ME) : ME := fun ρ => (asDat (f1 ρ)).bind fun a => (asDat (f2 ρ)).bind fun b => (eqS a b).map fun k => .dat (.bl (!k))
/-- a chain a op b op' c of ints -/
def mChain (p q : Int → Int → Prop) (f1 f2 f3 : ME) : ME := fun ρ => (asInt (f1 ρ)).bind fun a => (asInt (f2 ρ)).bind fun b => (asInt (f3 ρ)).bind fun c => some (.dat (.bl (okP (p a b) && okP (q b c))))
def tAndM (t u : MT) : MT := fun ρ => (t ρ).bind fun a => if a = true then u ρ else some false
def tOrM (t u : MT) : MT := fun ρ => (t ρ).bind fun a => if a = true then some true else u ρ
def tNotM (t : MT) : MT := fun ρ => (t ρ).map fun a => !a
def mIfE (t : MT) (f g : ME) : ME := fun ρ => (t ρ).bind fun a => if a = true then f ρ else g ρ
def mAndV (f g : ME) : ME := fun ρ => (asBl (f ρ)).bind fun a => if a = true then (asBl (g ρ)).map fun b => .dat (.bl b) else some (.dat (.bl false))
def mOrV (f g : ME) : ME := fun ρ => (asBl (f ρ)).bind fun a => if a = true then some (.dat (.bl true)) else (asBl (g ρ)).map fun b => .dat (.bl b)
def mNotV (f : ME) : ME := fun ρ => (asBl (f ρ)).map fun a => .dat (.bl (!a))
def aNil : MA := fun _ => some []
def aCons (f : ME) (r : MA) : MA := fun ρ => (f ρ).bind fun x => (r ρ).map fun xs => x :: xs
def dats : List R → Option (List D)
  | [] => some []
  | .dat d :: r => (dats r).map fun ds => d :: ds
  | _ => none
def szOk (n : Nat) : Bool := okP (n ≤ 100000)
def mTup (a : MA) : ME := fun ρ => ((a ρ).bind dats).bind fun ds => if szOk ds.length = true then some (.dat (.tup ds)) else none
def mLst (a : MA) : ME := fun ρ => ((a ρ).bind dats).bind fun ds => if szOk ds.length = true then some (.new ds) else none
def mIxL (f1 f2 : ME) : ME := fun ρ => (asLst (f1 ρ)).bind fun xs => (asInt (f2 ρ)).bind fun i => (atI xs i).map .dat
def mIxT (f1 f2 : ME) : ME := fun ρ => (asTup (f1 ρ)).bind fun xs => (asInt (f2 ρ)).bind fun i => (atI xs i).map .dat
def mIxS (f1 f2 : ME) : ME := fun ρ => (asStr (f1 ρ)).bind fun z => (asInt (f2 ρ)).bind fun i => if szOk z.length = true then (atI z.cps.toList i).map fun c => .dat (.str ⟨#[c]⟩) else none
def mLenL (f : ME) : ME := fun ρ => (asLst (f ρ)).map fun xs => .dat (.int (xs.length : Int))
def mLenT (f : ME) : ME := fun ρ => (asTup (f ρ)).map fun xs => .dat (.int (xs.length : Int))
def mLenS (f : ME) : ME := fun ρ => (asStr (f ρ)).bind fun xs => if szOk xs.length = true then some (.dat (.int (xs.length : Int))) else none
def mCall (m : List R → Option R) (a : MA) : ME := fun ρ => (a ρ).bind fun rs => m (rs.map argN)
def mAbs (f : ME) : ME := fun ρ => (asInt (f ρ)).map fun i => .dat (.int (if i < 0 then -i else i))
def mMax2 (f g : ME) : ME := fun ρ => (asInt (f ρ)).bind fun i => (asInt (g ρ)).map fun j => .dat (.int (if j > i then j else i))
def mMin2 (f g : ME) : ME := fun ρ => (asInt (f ρ)).bind fun i => (asInt (g ρ)).map fun j => .dat (.int (if j < i then j else i))
def mIntB (f : ME) : ME := fun ρ => (asBl (f ρ)).map fun k => .dat (.int (if k then 1 else 0))
def mCatS (f g : ME) : ME := fun ρ => (asStr (f ρ)).bind fun i => (asStr (g ρ)).bind fun j => if szOk (i.length + j.length) = true then some (.dat (.str (i ++ j))) else none
def mCatT (f g : ME) : ME := fun ρ => (asTup (f ρ)).bind fun i => (asTup (g ρ)).bind fun j => if szOk (i.length + j.length) = true then some (.dat (.tup (i ++ j))) else none
def mCatL (f g : ME) : ME := fun ρ => (asTrk (f ρ)).bind fun i => (asTrk (g ρ)).bind fun j => if szOk (i.length + j.length) = true then some (.new (i ++ j)) else none
def mRepL (f g : ME) : ME := fun ρ => (asTrk (f ρ)).bind fun i => (asInt (g ρ)).bind fun k => if (okP (-(2 ^ 63) ≤ k ∧ k < 2 ^ 63) && szOk (i.length * k.toNat)) = true then some (.new (List.replicate k.toNat i).flatten) else none
def mRevL (f : ME) : ME := fun ρ => (asLst (f ρ)).map fun xs => .new xs.reverse
def cutD {α : Type} (xs : List α) (lo hi : Option Int) : List α := (xs.drop (HT.sIx xs.length 0 lo)).take (HT.sIx xs.length xs.length hi - HT.sIx xs.length 0 lo)
abbrev MO := Rho → Option (Option Int)
def oNone : MO := fun _ => some none
def oSome (f : ME) : MO := fun ρ => (asInt (f ρ)).map some
def mSlT (f : ME) (lo hi : MO) : ME := fun ρ => (asTup (f ρ)).bind fun xs => (lo ρ).bind fun l => (hi ρ).map fun u => .dat (.tup (cutD xs l u))
def mSlL (f : ME) (lo hi : MO) : ME := fun ρ => (asLst (f ρ)).bind fun xs => (lo ρ).bind fun l => (hi ρ).map fun u => .new (cutD xs l u)
def mInT (f : ME) (xs : List Str) : ME := fun ρ => (asStr (f ρ)).map fun z => .dat (.bl (xs.any fun y => decide (y = z)))
end
end Tl

namespace Tl
open PySem PySem.Spec PyProof.Rows L2 Evl
section
variable {X : Cx} {a b c : Expr} {pos : Pos} {f1 f2 f3 : ME} {es : List Expr}
theorem x_var (i : Nat) {x : Str} {pos : Pos} (hN : X.N[i]? = some x := by rfl) (hv : Vis X.env.scope x := by first | exact Or.inl rfl | exact Or.inr (Or.inl rfl) | exact Or.inr (Or.inr rfl)) (hd : (x == ("__debug__" : Str)) = false := by decide)
    (hcd : (x == ("__classdict__" : Str)) = false := by decide) : JE X (.Name x pos) (mVar i) := by
  refine ⟨_, pe_var hN hv hd hcd, fun H0 σ H ρ r ok h => ?_⟩
  obtain ⟨B, ok⟩ := ok
  unfold mVar at h
  split at h
  · rename_i d hd
    cases h
    obtain ⟨v, s, q⟩ := ok.slot i _ hd
    exact fun H1 e Q k => ⟨v, s, k v H1 (Ex.refl H1) (q.ex e)⟩
  · rename_i xs hd
    cases h
    obtain ⟨a, vs, s, _, l, q⟩ := ok.slot i _ hd
    exact fun H1 e Q k => ⟨_, s, k _ H1 (Ex.refl H1) ⟨a, vs, rfl, e _ _ l, q.ex e⟩⟩
  · rename_i xs hd
    cases h
    obtain ⟨a, vs, s, l, q⟩ := ok.slot i _ hd
    exact fun H1 e Q k => ⟨_, s, k _ H1 (Ex.refl H1) ⟨a, vs, rfl, ex_l (ok.e1.trans e) l, q.ex e⟩⟩
  · cases h
/-- a value that hangs on nothing -/
theorem x_const {v : V} {d : D} (h : PE X a (tC v)) (hd : ∀ H, Den X.K H v d) : JE X a (mC d) :=
  ⟨_, h, fun H0 σ H ρ r ok h => by cases h; exact fun H1 e Q k => k v H1 (Ex.refl H1) (hd H1)⟩
theorem x_int {i j pos} : JE X (.Constant (.int i) j pos) (mC (.int i)) := x_const pe_int fun _ => .int i
theorem x_bl {i j pos} : JE X (.Constant (.bool i) j pos) (mC (.bl i)) := x_const pe_bl fun _ => .bl i
theorem x_non {j pos} : JE X (.Constant .none j pos) (mC .non) := x_const pe_non fun _ => .non
theorem x_str {i j pos} : JE X (.Constant (.str i) j pos) (mC (.str i)) := x_const pe_str fun _ => .str i
/-- a module's constant -/
theorem x_glob {x : Str} {v : V} {d : D} {u : Value} (hg : Gl X x) (hm : X.mg x = some u) (r : RelV v u) (hd : ∀ H, Den X.K H v d) (hdb : (x == ("__debug__" : Str)) = false := by decide) : JE X (.Name x pos) (mC d) := x_const (pe_glob hg hm r hdb) hd
theorem EvR.int {K : PySem.W.Frag} {te : TE} {σ : L2.St} {H : Hp} {i : Int} (h : EvR K te σ H (.dat (.int i))) : Ev te σ H (.int i) := fun H1 e Q q => h H1 e Q fun v H2 e2 g => by
  have g : Den K H2 v (.int i) := g
  cases g
  exact q H2 e2
theorem EvR.str {K : PySem.W.Frag} {te : TE} {σ : L2.St} {H : Hp} {i : Str} (h : EvR K te σ H (.dat (.str i))) : Ev te σ H (.str i) := fun H1 e Q q => h H1 e Q fun v H2 e2 g => by
  have g : Den K H2 v (.str i) := g
  cases g
  exact q H2 e2
theorem EvR.bl {K : PySem.W.Frag} {te : TE} {σ : L2.St} {H : Hp} {i : Bool} (h : EvR K te σ H (.dat (.bl i))) : Ev te σ H (.bl i) := fun H1 e Q q => h H1 e Q fun v H2 e2 g => by
  have g : Den K H2 v (.bl i) := g
  cases g
  exact q H2 e2
theorem EvR.of {K : PySem.W.Frag} {te : TE} {σ : L2.St} {H : Hp} {v : V} {d : D} (h : Ev te σ H v) (hd : ∀ H, Den K H v d) : EvR K te σ H (.dat d) := fun H1 e Q q => h H1 e Q fun H2 e2 => q v H2 e2 (hd H2)
theorem EvR.tup {K : PySem.W.Frag} {te : TE} {σ : L2.St} {H : Hp} {ds : List D} (h : EvR K te σ H (.dat (.tup ds))) :
    ∀ H1, Ex H H1 → ∀ Q : VK, (∀ a vs H2, Ex H1 H2 → SqT K H2 a vs → DenL K H2 vs ds → Q (.ref a) H2) → te σ H1 Q := fun H1 e Q q => h H1 e Q fun v H2 e2 g => by
  have g : Den K H2 v (.tup ds) := g
  cases g with
  | tup h1 h2 => exact q _ _ H2 e2 h1 h2
theorem op0 {f : Value → Value → Sem Value} {g : Int → Int → V} (h : OpR X f (rI0 g)) : OpR X f (rI (fun _ _ => True) g) := fun pins s σ H x y v u Q I rx ry ⟨i, j, e1, e2, _, q⟩ => h pins s σ H x y v u Q I rx ry ⟨i, j, e1, e2, q⟩
theorem ev_II {ta tb : TE} {σ : L2.St} {H : Hp} {ρ : Rho} {r : R} {H0 : Hp} {C : Int → Int → Prop} {c : Int → Int → Bool} {g : Int → Int → V} {gd : Int → Int → D} (hc : ∀ i j, c i j = true → C i j) (hg : ∀ i j H, Den X.K H (g i j) (gd i j))
    (va : ∀ H0 σ H ρ r, Ok X H0 σ H ρ → f1 ρ = some r → EvR X.K ta σ H r) (vb : ∀ H0 σ H ρ r, Ok X H0 σ H ρ → f2 ρ = some r → EvR X.K tb σ H r) (ok : Ok X H0 σ H ρ) (h : mII c gd f1 f2 ρ = some r) : EvR X.K (tOp (rI C g) ta tb) σ H r := by
  unfold mII at h
  obtain ⟨i, hi, h⟩ := Option.bind_eq_some_iff.mp h
  obtain ⟨j, hj, h⟩ := Option.bind_eq_some_iff.mp h
  split at h
  · rename_i hcc
    cases h
    exact EvR.of (ev_op (va _ _ _ _ _ ok (asInt_some hi)).int (vb _ _ _ _ _ ok (asInt_some hj)).int (rv_I (hc _ _ hcc))) (hg i j)
  · cases h
theorem x_op {op : Operator} {C : Int → Int → Prop} {c : Int → Int → Bool} {g : Int → Int → V} {gd : Int → Int → D} (ho : OpR X (binaryOp op) (rI C g)) (hc : ∀ i j, c i j = true → C i j) (hg : ∀ i j H, Den X.K H (g i j) (gd i j)) (ha : JE X a f1) (hb : JE X b f2) :
    JE X (.BinOp a op b pos) (mII c gd f1 f2) := by
  obtain ⟨ta, pa, va⟩ := ha
  obtain ⟨tb, pb, vb⟩ := hb
  exact ⟨_, pe_op ho pa pb, fun H0 σ H ρ r ok h => ev_II hc hg va vb ok h⟩
theorem x_add (ha : JE X a f1) (hb : JE X b f2) : JE X (.BinOp a .Add b pos) (mAdd f1 f2) := x_op (op0 op_add) (fun _ _ _ => trivial) (fun _ _ _ => .int _) ha hb
theorem x_sub (ha : JE X a f1) (hb : JE X b f2) : JE X (.BinOp a .Sub b pos) (mSub f1 f2) := x_op (op0 op_sub) (fun _ _ _ => trivial) (fun _ _ _ => .int _) ha hb
theorem x_mul (ha : JE X a f1) (hb : JE X b f2) : JE X (.BinOp a .Mult b pos) (mMul f1 f2) := x_op op_mul (fun i j h => show CMul i j by unfold CMul; exact okP_of h) (fun _ _ _ => .int _) ha hb
theorem x_div (ha : JE X a f1) (hb : JE X b f2) : JE X (.BinOp a .FloorDiv b pos) (mDiv f1 f2) := x_op op_fdivW (fun i j h => show CDivW i j by unfold CDivW; exact okP_of h) (fun _ _ _ => .int _) ha hb
theorem x_mod (ha : JE X a f1) (hb : JE X b f2) : JE X (.BinOp a .Mod b pos) (mMod f1 f2) := x_op op_mod (fun _ _ h => okP_of h) (fun _ _ _ => .int _) ha hb
theorem x_pow (ha : JE X a f1) (hb : JE X b f2) : JE X (.BinOp a .Pow b pos) (mPow f1 f2) := x_op op_pow (fun i j h => show CPow i j by unfold CPow; exact okP_of h) (fun _ _ _ => .int _) ha hb
theorem x_neg (ha : JE X a f1) : JE X (.UnaryOp .USub a pos) (mNeg f1) := by
  obtain ⟨ta, pa, va⟩ := ha
  refine ⟨_, pe_un un_neg pa, fun H0 σ H ρ r ok h => ?_⟩
  unfold mNeg at h
  obtain ⟨i, hi, h⟩ := Option.bind_eq_some_iff.mp h
  cases h
  exact EvR.of (ev_un (va _ _ _ _ _ ok (asInt_some hi)).int ru_neg) fun _ => .int _
/-! comparisons of ints -/
theorem x_cmpI {op : CmpOp} {p : Int → Int → Prop} [∀ i j, Decidable (p i j)] (ho : OpR X (compareOp op) (rI0 fun i j => .bl (decide (p i j)))) (ha : JE X a f1) (hb : JE X b f2) (hm : behindInMarks op b = false) : JE X (.Compare a [op] [b] pos) (mII cT (fun i j => .bl (okP (p i j))) f1 f2) := by
  obtain ⟨ta, pa, va⟩ := ha
  obtain ⟨tb, pb, vb⟩ := hb
  exact ⟨_, pe_cmpR (op0 ho) pa pb hm, fun H0 σ H ρ r ok h => ev_II (fun _ _ _ => trivial) (fun _ _ _ => by rw [okP_eq]; exact .bl _) va vb ok h⟩
theorem ev_test {te : TE} {σ : L2.St} {H : Hp} {o : Option R} {k : Bool} (h : asBl o = some k) (hv : ∀ r, o = some r → EvR X.K te σ H r) : EvT (tTest te) σ H k := et_test (hv _ (asBl_some h)).bl
theorem t_cmpI {op : CmpOp} {p : Int → Int → Prop} [∀ i j, Decidable (p i j)] (ho : OpR X (compareOp op) (rI0 fun i j => .bl (decide (p i j)))) (ha : JE X a f1) (hb : JE X b f2) (hm : behindInMarks op b = false) : JT X (.Compare a [op] [b] pos) (mT (mII cT (fun i j => .bl (okP (p i j))) f1 f2)) := by
  obtain ⟨ta, pa, va⟩ := ha
  obtain ⟨tb, pb, vb⟩ := hb
  exact ⟨_, pt_cmpR (op0 ho) pa pb hm, fun H0 σ H ρ k ok h => ev_test h fun r hr => ev_II (fun _ _ _ => trivial) (fun _ _ _ => by rw [okP_eq]; exact .bl _) va vb ok hr⟩
theorem x_lt (ha : JE X a f1) (hb : JE X b f2) : JE X (.Compare a [.Lt] [b] pos) (mLt f1 f2) := x_cmpI (p := fun i j => i < j) op_lt ha hb (nomark _)
theorem x_le (ha : JE X a f1) (hb : JE X b f2) : JE X (.Compare a [.LtE] [b] pos) (mLe f1 f2) := x_cmpI (p := fun i j => i ≤ j) op_le ha hb (nomark _)
theorem x_gt (ha : JE X a f1) (hb : JE X b f2) : JE X (.Compare a [.Gt] [b] pos) (mGt f1 f2) := x_cmpI (p := fun i j => j < i) op_gt ha hb (nomark _)
theorem x_ge (ha : JE X a f1) (hb : JE X b f2) : JE X (.Compare a [.GtE] [b] pos) (mGe f1 f2) := x_cmpI (p := fun i j => j ≤ i) op_ge ha hb (nomark _)
theorem t_lt (ha : JE X a f1) (hb : JE X b f2) : JT X (.Compare a [.Lt] [b] pos) (mT (mLt f1 f2)) := t_cmpI (p := fun i j => i < j) op_lt ha hb (nomark _)
theorem t_le (ha : JE X a f1) (hb : JE X b f2) : JT X (.Compare a [.LtE] [b] pos) (mT (mLe f1 f2)) := t_cmpI (p := fun i j => i ≤ j) op_le ha hb (nomark _)
theorem t_gt (ha : JE X a f1) (hb : JE X b f2) : JT X (.Compare a [.Gt] [b] pos) (mT (mGt f1 f2)) := t_cmpI (p := fun i j => j < i) op_gt ha hb (nomark _)
theorem t_ge (ha : JE X a f1) (hb : JE X b f2) : JT X (.Compare a [.GtE] [b] pos) (mT (mGe f1 f2)) := t_cmpI (p := fun i j => j ≤ i) op_ge ha hb (nomark _)
/-! == of scalars -/
theorem eqS_of {K : PySem.W.Frag} {H H' : Hp} {v w : V} {d e : D} {k : Bool} (hv : Den K H v d) (hw : Den K H' w e) (h : eqS d e = some k) : scal v w = true ∧ decide (v = w) = k := by
  cases hv <;> cases hw <;> simp only [eqS, Option.some.injEq, reduceCtorEq] at h <;> subst h <;> refine ⟨rfl, ?_⟩ <;> first | (rw [← okP_eq]; simp) | simp
theorem ev_eqS {ta tb : TE} {σ : L2.St} {H : Hp} {ρ : Rho} {r : R} {H0 : Hp} (va : ∀ H0 σ H ρ r, Ok X H0 σ H ρ → f1 ρ = some r → EvR X.K ta σ H r) (vb : ∀ H0 σ H ρ r, Ok X H0 σ H ρ → f2 ρ = some r → EvR X.K tb σ H r) (ok : Ok X H0 σ H ρ)
    (h : mEqS f1 f2 ρ = some r) : EvR X.K (tOp rEq ta tb) σ H r := by
  unfold mEqS at h
  obtain ⟨d, hd, h⟩ := Option.bind_eq_some_iff.mp h
  obtain ⟨e, he, h⟩ := Option.bind_eq_some_iff.mp h
  obtain ⟨k, hk, h⟩ := Option.map_eq_some_iff.mp h
  subst h
  intro H1 e1 Q q
  refine va _ _ _ _ _ ok (asDat_some hd) H1 e1 _ fun v H2 e2 gv => ?_
  refine vb _ _ _ _ _ ok (asDat_some he) H2 (e1.trans e2) _ fun w H3 e3 gw => ?_
  obtain ⟨h1, h2⟩ := eqS_of gv gw hk
  refine ⟨h1, ?_⟩
  rw [h2]
  exact q _ H3 (e2.trans e3) (.bl k)
theorem ev_neS {ta tb : TE} {σ : L2.St} {H : Hp} {ρ : Rho} {r : R} {H0 : Hp} (va : ∀ H0 σ H ρ r, Ok X H0 σ H ρ → f1 ρ = some r → EvR X.K ta σ H r) (vb : ∀ H0 σ H ρ r, Ok X H0 σ H ρ → f2 ρ = some r → EvR X.K tb σ H r) (ok : Ok X H0 σ H ρ)
    (h : mNeS f1 f2 ρ = some r) : EvR X.K (tOp rNe ta tb) σ H r := by
  unfold mNeS at h
  obtain ⟨d, hd, h⟩ := Option.bind_eq_some_iff.mp h
  obtain ⟨e, he, h⟩ := Option.bind_eq_some_iff.mp h
  obtain ⟨k, hk, h⟩ := Option.map_eq_some_iff.mp h
  subst h
  intro H1 e1 Q q
  refine va _ _ _ _ _ ok (asDat_some hd) H1 e1 _ fun v H2 e2 gv => ?_
  refine vb _ _ _ _ _ ok (asDat_some he) H2 (e1.trans e2) _ fun w H3 e3 gw => ?_
  obtain ⟨h1, h2⟩ := eqS_of gv gw hk
  refine ⟨h1, ?_⟩
  rw [h2]
  exact q _ H3 (e2.trans e3) (.bl _)
theorem x_eqS (ha : JE X a f1) (hb : JE X b f2) : JE X (.Compare a [.Eq] [b] pos) (mEqS f1 f2) := by
  obtain ⟨ta, pa, va⟩ := ha
  obtain ⟨tb, pb, vb⟩ := hb
  exact ⟨_, pe_cmpR op_eq pa pb (nomark _), fun H0 σ H ρ r ok h => ev_eqS va vb ok h⟩
theorem t_eqS (ha : JE X a f1) (hb : JE X b f2) : JT X (.Compare a [.Eq] [b] pos) (mT (mEqS f1 f2)) := by
  obtain ⟨ta, pa, va⟩ := ha
  obtain ⟨tb, pb, vb⟩ := hb
  exact ⟨_, pt_cmpR op_eq pa pb (nomark _), fun H0 σ H ρ r ok h => ev_test h fun r hr => ev_eqS va vb ok hr⟩
theorem x_neS (ha : JE X a f1) (hb : JE X b f2) : JE X (.Compare a [.NotEq] [b] pos) (mNeS f1 f2) := by
  obtain ⟨ta, pa, va⟩ := ha
  obtain ⟨tb, pb, vb⟩ := hb
  exact ⟨_, pe_cmpR op_ne pa pb (nomark _), fun H0 σ H ρ r ok h => ev_neS va vb ok h⟩
theorem t_neS (ha : JE X a f1) (hb : JE X b f2) : JT X (.Compare a [.NotEq] [b] pos) (mT (mNeS f1 f2)) := by
  obtain ⟨ta, pa, va⟩ := ha
  obtain ⟨tb, pb, vb⟩ := hb
  exact ⟨_, pt_cmpR op_ne pa pb (nomark _), fun H0 σ H ρ r ok h => ev_test h fun r hr => ev_neS va vb ok hr⟩
/-! a op b op' c -/
theorem ev_chain {ta tb tc : TE} {σ : L2.St} {H : Hp} {ρ : Rho} {r : R} {H0 : Hp} {p q : Int → Int → Prop} [∀ i j, Decidable (p i j)] [∀ i j, Decidable (q i j)] (va : ∀ H0 σ H ρ r, Ok X H0 σ H ρ → f1 ρ = some r → EvR X.K ta σ H r) (vb : ∀ H0 σ H ρ r, Ok X H0 σ H ρ → f2 ρ = some r → EvR X.K tb σ H r)
    (vc : ∀ H0 σ H ρ r, Ok X H0 σ H ρ → f3 ρ = some r → EvR X.K tc σ H r) (ok : Ok X H0 σ H ρ)
    (h : mChain p q f1 f2 f3 ρ = some r) : EvR X.K (tChain (rI0 fun i j => .bl (decide (p i j))) (rI0 fun i j => .bl (decide (q i j))) ta tb tc) σ H r := by
  unfold mChain at h
  obtain ⟨i, hi, h⟩ := Option.bind_eq_some_iff.mp h
  obtain ⟨j, hj, h⟩ := Option.bind_eq_some_iff.mp h
  obtain ⟨k, hk, h⟩ := Option.bind_eq_some_iff.mp h
  cases h
  intro H1 e1 Q z
  refine (va _ _ _ _ _ ok (asInt_some hi)).int H1 e1 _ fun H2 e2 => ?_
  refine (vb _ _ _ _ _ ok (asInt_some hj)).int H2 (e1.trans e2) _ fun H3 e3 => ?_
  refine ⟨i, j, rfl, rfl, decide (p i j), rfl, ?_⟩
  rw [← okP_eq, ← okP_eq] at z
  cases hp : decide (p i j) with
  | false =>
    rw [hp] at z
    exact z _ H3 (e2.trans e3) (.bl _)
  | true =>
    rw [hp] at z
    show tc σ H3 _
    refine (vc _ _ _ _ _ ok (asInt_some hk)).int H3 ((e1.trans e2).trans e3) _ fun H4 e4 => ?_
    exact ⟨j, k, rfl, rfl, z _ H4 ((e2.trans e3).trans e4) (.bl _)⟩
theorem t_chain {op op' : CmpOp} {p q : Int → Int → Prop} [∀ i j, Decidable (p i j)] [∀ i j, Decidable (q i j)] (ho : OpR X (compareOp op) (rI0 fun i j => .bl (decide (p i j)))) (ho' : OpR X (compareOp op') (rI0 fun i j => .bl (decide (q i j)))) (ha : JE X a f1) (hb : JE X b f2) (hc : JE X c f3)
    (hm : lastMarks [op, op'] [b, c] = false := by with_unfolding_all rfl) : JT X (.Compare a [op, op'] [b, c] pos) (mT (mChain p q f1 f2 f3)) := by
  obtain ⟨ta, pa, va⟩ := ha
  obtain ⟨tb, pb, vb⟩ := hb
  obtain ⟨tc, pc, vc⟩ := hc
  exact ⟨_, pt_chain ho ho' pa pb pc hm, fun H0 σ H ρ r ok h => ev_test h fun r hr => ev_chain va vb vc ok hr⟩
theorem x_chain {op op' : CmpOp} {p q : Int → Int → Prop} [∀ i j, Decidable (p i j)] [∀ i j, Decidable (q i j)] (ho : OpR X (compareOp op) (rI0 fun i j => .bl (decide (p i j)))) (ho' : OpR X (compareOp op') (rI0 fun i j => .bl (decide (q i j)))) (ha : JE X a f1) (hb : JE X b f2) (hc : JE X c f3)
    (hm : lastMarks [op, op'] [b, c] = false := by with_unfolding_all rfl) : JE X (.Compare a [op, op'] [b, c] pos) (mChain p q f1 f2 f3) := by
  obtain ⟨ta, pa, va⟩ := ha
  obtain ⟨tb, pb, vb⟩ := hb
  obtain ⟨tc, pc, vc⟩ := hc
  exact ⟨_, pe_chain ho ho' pa pb pc hm, fun H0 σ H ρ r ok h => ev_chain va vb vc ok h⟩
/-! tests -/
variable {t u : MT} {rest : List Expr}
theorem w_pt (h : JW X a t) : JT X a t := by
  obtain ⟨tt, p, v⟩ := h
  exact ⟨tt, p.pt, v⟩
theorem w_and1 (ha : JT X a t) : JW X (.BoolOp .And [a] pos) t := by
  obtain ⟨tt, p, v⟩ := ha
  exact ⟨tt, pw_and1 p, v⟩
theorem w_or1 (ha : JT X a t) : JW X (.BoolOp .Or [a] pos) t := by
  obtain ⟨tt, p, v⟩ := ha
  exact ⟨tt, pw_or1 p, v⟩
theorem w_and (ha : JT X a t) (hb : JW X (.BoolOp .And (b :: rest) pos) u) : JW X (.BoolOp .And (a :: b :: rest) pos) (tAndM t u) := by
  obtain ⟨ta, pa, va⟩ := ha
  obtain ⟨tb, pb, vb⟩ := hb
  refine ⟨_, pw_and pa pb, fun H0 σ H ρ k ok h => ?_⟩
  unfold tAndM at h
  obtain ⟨i, hi, h⟩ := Option.bind_eq_some_iff.mp h
  intro H1 e1 Q q
  refine va _ _ _ _ _ ok hi H1 e1 _ fun H2 e2 => ?_
  cases i with
  | true => exact vb _ _ _ _ _ ok h H2 (e1.trans e2) _ fun H3 e3 => q H3 (e2.trans e3)
  | false => cases h; exact q H2 e2
theorem w_or (ha : JT X a t) (hb : JW X (.BoolOp .Or (b :: rest) pos) u) : JW X (.BoolOp .Or (a :: b :: rest) pos) (tOrM t u) := by
  obtain ⟨ta, pa, va⟩ := ha
  obtain ⟨tb, pb, vb⟩ := hb
  refine ⟨_, pw_or pa pb, fun H0 σ H ρ k ok h => ?_⟩
  unfold tOrM at h
  obtain ⟨i, hi, h⟩ := Option.bind_eq_some_iff.mp h
  intro H1 e1 Q q
  refine va _ _ _ _ _ ok hi H1 e1 _ fun H2 e2 => ?_
  cases i with
  | false => exact vb _ _ _ _ _ ok h H2 (e1.trans e2) _ fun H3 e3 => q H3 (e2.trans e3)
  | true => cases h; exact q H2 e2
theorem t_and (ha : JT X a t) (hb : JW X (.BoolOp .And (b :: rest) pos) u) : JT X (.BoolOp .And (a :: b :: rest) pos) (tAndM t u) := w_pt (w_and ha hb)
theorem t_or (ha : JT X a t) (hb : JW X (.BoolOp .Or (b :: rest) pos) u) : JT X (.BoolOp .Or (a :: b :: rest) pos) (tOrM t u) := w_pt (w_or ha hb)
theorem t_not (ha : JT X a t) : JT X (.UnaryOp .Not a pos) (tNotM t) := by
  obtain ⟨ta, pa, va⟩ := ha
  refine ⟨_, pt_not pa, fun H0 σ H ρ k ok h => ?_⟩
  unfold tNotM at h
  obtain ⟨i, hi, h⟩ := Option.map_eq_some_iff.mp h
  subst h
  exact et_not (va _ _ _ _ _ ok hi)
/-- a bool as a test -/
theorem t_val (ha : JE X a f1) (he : ∀ whole, isTrue a X.env whole = (do let v ← whole; standAt a.pos; holding [v] (truthy v)) := by intro _; rfl) : JT X a (mT f1) := by
  obtain ⟨ta, pa, va⟩ := ha
  exact ⟨_, pt_val pa he, fun H0 σ H ρ k ok h => et_B (va _ _ _ _ _ ok (asBl_some h)).bl⟩
theorem x_ifE (hc : JT X c t) (ha : JE X a f1) (hb : JE X b f2) : JE X (.IfExp c a b pos) (mIfE t f1 f2) := by
  obtain ⟨tc, pc, vc⟩ := hc
  obtain ⟨ta, pa, va⟩ := ha
  obtain ⟨tb, pb, vb⟩ := hb
  refine ⟨_, pe_ifExp pc pa pb, fun H0 σ H ρ r ok h => ?_⟩
  unfold mIfE at h
  obtain ⟨i, hi, h⟩ := Option.bind_eq_some_iff.mp h
  intro H1 e1 Q q
  refine vc _ _ _ _ _ ok hi H1 e1 _ fun H2 e2 => ?_
  cases i with
  | true => exact va _ _ _ _ _ ok h H2 (e1.trans e2) _ fun v H3 e3 g => q v H3 (e2.trans e3) (g.back e2)
  | false => exact vb _ _ _ _ _ ok h H2 (e1.trans e2) _ fun v H3 e3 g => q v H3 (e2.trans e3) (g.back e2)
theorem x_one {op} (ha : JE X a f1) : JE X (.BoolOp op [a] pos) f1 := by
  obtain ⟨ta, pa, va⟩ := ha
  exact ⟨_, pe_one pa, va⟩
theorem x_andV (ha : JE X a f1) (hb : JE X (.BoolOp .And (b :: rest) pos) f2) : JE X (.BoolOp .And (a :: b :: rest) pos) (mAndV f1 f2) := by
  obtain ⟨ta, pa, va⟩ := ha
  obtain ⟨tb, pb, vb⟩ := hb
  refine ⟨_, pe_and pa pb, fun H0 σ H ρ r ok h => ?_⟩
  unfold mAndV at h
  obtain ⟨i, hi, h⟩ := Option.bind_eq_some_iff.mp h
  intro H1 e1 Q q
  refine (va _ _ _ _ _ ok (asBl_some hi)).bl H1 e1 _ fun H2 e2 => ⟨i, rfl, ?_⟩
  cases i with
  | true =>
    obtain ⟨j, hj, h⟩ := Option.map_eq_some_iff.mp h
    subst h
    exact (vb _ _ _ _ _ ok (asBl_some hj)).bl H2 (e1.trans e2) _ fun H3 e3 => q _ H3 (e2.trans e3) (.bl j)
  | false => cases h; exact q _ H2 e2 (.bl false)
theorem x_orV (ha : JE X a f1) (hb : JE X (.BoolOp .Or (b :: rest) pos) f2) : JE X (.BoolOp .Or (a :: b :: rest) pos) (mOrV f1 f2) := by
  obtain ⟨ta, pa, va⟩ := ha
  obtain ⟨tb, pb, vb⟩ := hb
  refine ⟨_, pe_or pa pb, fun H0 σ H ρ r ok h => ?_⟩
  unfold mOrV at h
  obtain ⟨i, hi, h⟩ := Option.bind_eq_some_iff.mp h
  intro H1 e1 Q q
  refine (va _ _ _ _ _ ok (asBl_some hi)).bl H1 e1 _ fun H2 e2 => ⟨i, rfl, ?_⟩
  cases i with
  | false =>
    obtain ⟨j, hj, h⟩ := Option.map_eq_some_iff.mp h
    subst h
    exact (vb _ _ _ _ _ ok (asBl_some hj)).bl H2 (e1.trans e2) _ fun H3 e3 => q _ H3 (e2.trans e3) (.bl j)
  | true => cases h; exact q _ H2 e2 (.bl true)
theorem x_notV (ha : JE X a f1) : JE X (.UnaryOp .Not a pos) (mNotV f1) := by
  obtain ⟨ta, pa, va⟩ := ha
  refine ⟨_, pe_not pa, fun H0 σ H ρ r ok h => ?_⟩
  unfold mNotV at h
  obtain ⟨i, hi, h⟩ := Option.map_eq_some_iff.mp h
  subst h
  intro H1 e1 Q q
  exact (va _ _ _ _ _ ok (asBl_some hi)).bl H1 e1 _ fun H2 e2 => ⟨i, rfl, q _ H2 e2 (.bl _)⟩
/-! arguments, displays -/
variable {ma : MA}
theorem a_nil : JA X [] aNil := ⟨_, pa_nil, fun H0 σ H ρ rs ok h => by cases h; exact fun H1 e Q q => q [] H1 (Ex.refl H1) .nil⟩
theorem a_cons (ha : JE X a f1) (hr : JA X es ma) (hs : starEach (a :: es) X.env = (false, eval a X.env) :: starEach es X.env := by rfl) : JA X (a :: es) (aCons f1 ma) := by
  obtain ⟨ta, pa, va⟩ := ha
  obtain ⟨tb, pb, vb⟩ := hr
  refine ⟨_, pa_cons pa pb hs, fun H0 σ H ρ rs ok h => ?_⟩
  unfold aCons at h
  obtain ⟨i, hi, h⟩ := Option.bind_eq_some_iff.mp h
  obtain ⟨j, hj, h⟩ := Option.map_eq_some_iff.mp h
  subst h
  intro H1 e1 Q q
  refine va _ _ _ _ _ ok hi H1 e1 _ fun v H2 e2 g => ?_
  exact vb _ _ _ _ _ ok hj H2 (e1.trans e2) _ fun vs H3 e3 gs => q _ H3 (e2.trans e3) (.cons (g.arg.ex e3) gs)
theorem dats_of {K : PySem.W.Frag} {H : Hp} : ∀ {rs : List R} {vs : List V} {ds : List D}, dats rs = some ds → ArgL K H vs rs → DenL K H vs ds
  | [], _, _, h, .nil => by cases h; exact .nil
  | .dat d :: r, _, _, h, .cons h1 h2 => by
    obtain ⟨j, hj, h⟩ := Option.map_eq_some_iff.mp h
    subst h
    exact .cons h1 (dats_of hj h2)
  | .lst _ :: _, _, _, h, _ => by cases h
  | .new _ :: _, _, _, h, _ => by cases h
  | .ro _ :: _, _, _, h, _ => by cases h
theorem szOk_of {n : Nat} (h : szOk n = true) : n ≤ sizeLine := sz_of (okP_of h)
theorem x_tup {x1} (h : JA X es ma) : JE X (.Tuple es x1 pos) (mTup ma) := by
  obtain ⟨ta, pa, va⟩ := h
  refine ⟨_, pe_tup pa, fun H0 σ H ρ r ok h => ?_⟩
  unfold mTup at h
  obtain ⟨i, hi, h⟩ := Option.bind_eq_some_iff.mp h
  obtain ⟨j, hj, hi⟩ := Option.bind_eq_some_iff.mp hi
  split at h
  · rename_i hz
    cases h
    intro H1 e1 Q q
    refine va _ _ _ _ _ ok hj H1 e1 _ fun vs H2 e2 g => ?_
    have gd := dats_of hi g
    refine ⟨by rw [gd.length]; exact szOk_of hz, fun p np => q _ _ (e2.trans (Ex.new np)) (.tup (st_of upd_same) (gd.ex (Ex.new np)))⟩
  · cases h
theorem x_lst (h : JA X es ma) : JE X (.List es pos) (mLst ma) := by
  obtain ⟨ta, pa, va⟩ := h
  refine ⟨_, pe_lst pa, fun H0 σ H ρ r ok h => ?_⟩
  unfold mLst at h
  obtain ⟨i, hi, h⟩ := Option.bind_eq_some_iff.mp h
  obtain ⟨j, hj, hi⟩ := Option.bind_eq_some_iff.mp hi
  split at h
  · rename_i hz
    cases h
    intro H1 e1 Q q
    refine va _ _ _ _ _ ok hj H1 e1 _ fun vs H2 e2 g => ?_
    have gd := dats_of hi g
    refine ⟨by rw [gd.length]; exact szOk_of hz, fun p np => q _ _ (e2.trans (Ex.new np)) ⟨p, vs, rfl, fresh_back e2 np, upd_same, gd.ex (Ex.new np)⟩⟩
  · cases h
/-! subscripts -/
theorem atI_den {K : PySem.W.Frag} {H : Hp} {vs : List V} {ds : List D} {i : Int} {d : D} (h : DenL K H vs ds) (ha : atI ds i = some d) : ∃ v, atI vs i = some v ∧ Den K H v d := by
  unfold atI at ha ⊢
  rw [h.length]
  obtain ⟨j, hj, ha⟩ := Option.bind_eq_some_iff.mp ha
  obtain ⟨v, h1, h2⟩ := h.get ha
  exact ⟨v, by rw [hj]; exact h1, h2⟩
theorem x_ixL (ha : JE X a f1) (hb : JE X b f2) (hs : PlainIx b := by exact fun _ _ => rfl) : JE X (.Subscript a b pos) (mIxL f1 f2) := by
  obtain ⟨ta, pa, va⟩ := ha
  obtain ⟨tb, pb, vb⟩ := hb
  refine ⟨_, pe_ix ix_list pa pb hs, fun H0 σ H ρ r ok h => ?_⟩
  unfold mIxL at h
  obtain ⟨xs, hx, h⟩ := Option.bind_eq_some_iff.mp h
  obtain ⟨i, hi, h⟩ := Option.bind_eq_some_iff.mp h
  obtain ⟨d, hd, h⟩ := Option.map_eq_some_iff.mp h
  subst h
  intro H1 e1 Q q
  refine ev_lst hx (fun r hr => va _ _ _ _ _ ok hr) H1 e1 _ fun v H2 e2 ⟨p, vs, hv, hl, hdn⟩ => ?_
  subst hv
  refine (vb _ _ _ _ _ ok (asInt_some hi)).int H2 (e1.trans e2) _ fun H3 e3 => ?_
  obtain ⟨w, h1, h2⟩ := atI_den (hdn.ex e3) hd
  exact ⟨p, vs, i, w, rfl, rfl, ex_l e3 hl, h1, q w H3 (e2.trans e3) h2⟩
theorem x_ixT (ha : JE X a f1) (hb : JE X b f2) (hs : PlainIx b := by exact fun _ _ => rfl) : JE X (.Subscript a b pos) (mIxT f1 f2) := by
  obtain ⟨ta, pa, va⟩ := ha
  obtain ⟨tb, pb, vb⟩ := hb
  refine ⟨_, pe_ix ix_tup pa pb hs, fun H0 σ H ρ r ok h => ?_⟩
  unfold mIxT at h
  obtain ⟨xs, hx, h⟩ := Option.bind_eq_some_iff.mp h
  obtain ⟨i, hi, h⟩ := Option.bind_eq_some_iff.mp h
  obtain ⟨d, hd, h⟩ := Option.map_eq_some_iff.mp h
  subst h
  intro H1 e1 Q q
  refine (va _ _ _ _ _ ok (asTup_some hx)).tup H1 e1 _ fun p vs H2 e2 hl hdn => ?_
  refine (vb _ _ _ _ _ ok (asInt_some hi)).int H2 (e1.trans e2) _ fun H3 e3 => ?_
  obtain ⟨w, h1, h2⟩ := atI_den (hdn.ex e3) hd
  exact ⟨p, vs, i, w, rfl, rfl, ex_t e3 hl, h1, q w H3 (e2.trans e3) h2⟩
theorem x_ixS (ha : JE X a f1) (hb : JE X b f2) (hs : PlainIx b := by exact fun _ _ => rfl) : JE X (.Subscript a b pos) (mIxS f1 f2) := by
  obtain ⟨ta, pa, va⟩ := ha
  obtain ⟨tb, pb, vb⟩ := hb
  refine ⟨_, pe_ix ix_str pa pb hs, fun H0 σ H ρ r ok h => ?_⟩
  unfold mIxS at h
  obtain ⟨xs, hx, h⟩ := Option.bind_eq_some_iff.mp h
  obtain ⟨i, hi, h⟩ := Option.bind_eq_some_iff.mp h
  split at h
  · rename_i hz
    obtain ⟨d, hd, h⟩ := Option.map_eq_some_iff.mp h
    subst h
    exact EvR.of (ev_op (va _ _ _ _ _ ok (asStr_some hx)).str (vb _ _ _ _ _ ok (asInt_some hi)).int (rv_ixS (okP_of hz) hd)) fun _ => .str _
  · cases h
/-! slices -/
variable {lo hi : Option Expr} {ml mh : MO}
def JO (X : Cx) (e : Option Expr) (m : MO) : Prop := ∃ to, PO X e to ∧ ∀ H0 σ H ρ o, Ok X H0 σ H ρ → m ρ = some o → EvO to σ H o
theorem o_none : JO X none oNone := ⟨_, po_none, fun H0 σ H ρ o ok h => by cases h; exact eo_none⟩
theorem o_some (ha : JE X a f1) : JO X (some a) (oSome f1) := by
  obtain ⟨ta, pa, va⟩ := ha
  refine ⟨_, po_some pa, fun H0 σ H ρ o ok h => ?_⟩
  unfold oSome at h
  obtain ⟨i, hi, h⟩ := Option.map_eq_some_iff.mp h
  subst h
  exact eo_some (va _ _ _ _ _ ok (asInt_some hi)).int
theorem cut_den {K : PySem.W.Frag} {H : Hp} {vs : List V} {ds : List D} (h : DenL K H vs ds) (l u : Option Int) : DenL K H (cutV vs l u) (cutD ds l u) := by
  unfold cutV cutD
  rw [h.length]
  exact (h.drop _).take _
theorem x_slL (ha : JE X a f1) (hl : JO X lo ml) (hh : JO X hi mh) {p2 : Pos} : JE X (.Subscript a (.Slice lo hi none p2) pos) (mSlL f1 ml mh) := by
  obtain ⟨ta, pa, va⟩ := ha
  obtain ⟨tl, pl, vl⟩ := hl
  obtain ⟨th, ph, vh⟩ := hh
  refine ⟨_, pe_slice sl_list pa pl ph, fun H0 σ H ρ r ok h => ?_⟩
  unfold mSlL at h
  obtain ⟨xs, hx, h⟩ := Option.bind_eq_some_iff.mp h
  obtain ⟨l, hl, h⟩ := Option.bind_eq_some_iff.mp h
  obtain ⟨u, hu, h⟩ := Option.map_eq_some_iff.mp h
  subst h
  intro H1 e1 Q q
  refine ev_lst hx (fun r hr => va _ _ _ _ _ ok hr) H1 e1 _ fun v H2 e2 ⟨p, vs, hv, hl', hdn⟩ => ?_
  subst hv
  refine vl _ _ _ _ _ ok hl H2 (e1.trans e2) _ fun H3 e3 => ?_
  refine vh _ _ _ _ _ ok hu H3 ((e1.trans e2).trans e3) _ fun H4 e4 => ?_
  exact ⟨p, vs, rfl, ex_l (e3.trans e4) hl', fun z nz => q _ _ (((e2.trans e3).trans e4).trans (Ex.new nz)) ⟨z, _, rfl, fresh_back ((e2.trans e3).trans e4) nz, upd_same, cut_den ((hdn.ex (e3.trans e4)).ex (Ex.new nz)) _ _⟩⟩
theorem x_revL {k : Nat} {p1 p2 p3 : Pos} (ha : JE X a f1) : JE X (.Subscript a (.Slice none none (some (.UnaryOp .USub (.Constant (.int 1) k p1) p2)) p3) pos) (mRevL f1) := by
  obtain ⟨ta, pa, va⟩ := ha
  refine ⟨_, pe_revL pa, fun H0 σ H ρ r ok h => ?_⟩
  unfold mRevL at h
  obtain ⟨xs, hx, h⟩ := Option.map_eq_some_iff.mp h
  subst h
  intro H1 e1 Q q
  refine ev_lst hx (fun r hr => va _ _ _ _ _ ok hr) H1 e1 _ fun v H2 e2 ⟨p, vs, hv, hl', hdn⟩ => ?_
  subst hv
  exact ⟨p, vs, rfl, hl', fun z nz => q _ _ (e2.trans (Ex.new nz)) ⟨z, _, rfl, fresh_back e2 nz, upd_same, (hdn.ex (Ex.new nz)).reverse⟩⟩
end
end Tl

namespace Tl
open PySem PySem.Spec PyProof.Rows L2 Evl
noncomputable section
/-! ### calls -/
def RetP (K : PySem.W.Frag) (H : Hp) (Q : VK) (r : R) : Prop := ∀ v H', Ex H H' → Got K H v H' r → Q v H'
abbrev Mir := List R → Option R
/-- the promise of a def that is the function m -/
def spM (K : PySem.W.Frag) (m : Mir) : Sp := fun vs H Q _ => ∃ rs r, ArgL K H vs rs ∧ m rs = some r ∧ RetP K H Q r
section
variable {X : Cx} {a b c : Expr} {pos : Pos} {f1 f2 f3 : ME} {es : List Expr} {ma : MA}
theorem x_callW {CX : CXT} {x : Str} {p : Pos} {k : Nat} {f : Addr} {fd : FuncData} {ps : List Str} {m : Mir} {E : XK} {sp : Sp} (F : FnOk X.prog X.w X.K X.mg X.base CX k f fd ps sp) (hsp : ∀ vs H Q, spM X.K m vs H Q E → sp vs H Q E) (hr : Room k X.A) (hg : Gl X x) (hm : X.mg x = some (.ref f)) (hk : PySem.W.keepIn X.K (.ref f) = true) (hb : Binds X.K fd ps []) (hx : Passes CX X E)
    (ha : JA X (a :: es) ma) (hdb : (x == ("__debug__" : Str)) = false := by decide)
    (he : starEach (a :: es) X.env = (false, eval a X.env) :: starEach es X.env := by rfl) (hpl : (backTo pos (starEach es X.env)).any (·.1) = false := by rfl) : JE X (.Call (.Name x p) (a :: es) [] pos) (mCall m ma) := by
  obtain ⟨ta, pa, va⟩ := ha
  refine ⟨_, pe_call F hr hg hm hk hb .nil hx pa hdb he hpl, fun H0 σ H ρ r ok h => ?_⟩
  unfold mCall at h
  obtain ⟨rs, hrs, h⟩ := Option.bind_eq_some_iff.mp h
  intro H1 e1 Q q
  refine va _ _ _ _ _ ok hrs H1 e1 _ fun vs H2 e2 g => ?_
  refine hsp _ _ _ ?_
  rw [List.append_nil]
  exact ⟨rs.map argN, r, g.norm, h, fun v H' e' gv => q v H' (e2.trans e') (gv.back e2)⟩
theorem x_call {x : Str} {p : Pos} {k : Nat} {f : Addr} {fd : FuncData} {ps : List Str} {m : Mir} (F : FnOk X.prog X.w X.K X.mg X.base CX0 k f fd ps (spM X.K m)) (hr : Room k X.A) (hm : X.mg x = some (.ref f)) (hk : PySem.W.keepIn X.K (.ref f) = true) (hb : Binds X.K fd ps [])
    (ha : JA X (a :: es) ma) (hg : Gl X x := by rfl) (hdb : (x == ("__debug__" : Str)) = false := by decide)
    (he : starEach (a :: es) X.env = (false, eval a X.env) :: starEach es X.env := by rfl) (hpl : (backTo pos (starEach es X.env)).any (·.1) = false := by rfl) : JE X (.Call (.Name x p) (a :: es) [] pos) (mCall m ma) :=
  x_callW F (fun _ _ _ h => h) hr hg hm hk hb pass0 ha hdb he hpl
/-! ### built-ins -/
theorem x_blt {x : Str} {p : Pos} {id : String} {r : List V → Hp → VK → Prop} {g : List R → Option R} (hc : CallR X (.builtin id) r) (hg : Gl X x) (hm : X.mg x = none) (hv : bootBuiltins x = some (.builtin id))
    (hr : ∀ rs vs H q Q, g rs = some q → ArgL X.K H vs rs → (∀ v H2, Ex H H2 → Got X.K H v H2 q → Q v H2) → r vs H Q) (ha : JA X (a :: es) ma) (hn : x ≠ "__name__" := by decide) (hdb : (x == ("__debug__" : Str)) = false := by decide)
    (he : starEach (a :: es) X.env = (false, eval a X.env) :: starEach es X.env := by rfl) (hpl : (backTo pos (starEach es X.env)).any (·.1) = false := by rfl) : JE X (.Call (.Name x p) (a :: es) [] pos) (fun ρ => (ma ρ).bind g) := by
  obtain ⟨ta, pa, va⟩ := ha
  refine ⟨_, pe_callB hc hg hm hv pa hn hdb he hpl, fun H0 σ H ρ q ok h => ?_⟩
  obtain ⟨rs, hrs, h⟩ := Option.bind_eq_some_iff.mp h
  intro H1 e1 Q k
  refine va _ _ _ _ _ ok hrs H1 e1 _ fun vs H2 e2 gs => ?_
  exact hr rs vs H2 q Q h gs fun v H3 e3 gv => k v H3 (e2.trans e3) (gv.back e2)
theorem x_bltT {x : Str} {p : Pos} {id : String} {r : List V → Hp → VK → Prop} {g : List R → Option R} (hc : CallR X (.type id) r) (hg : Gl X x) (hm : X.mg x = none) (hv : bootBuiltins x = some (.type id))
    (hr : ∀ rs vs H q Q, g rs = some q → ArgL X.K H vs rs → (∀ v H2, Ex H H2 → Got X.K H v H2 q → Q v H2) → r vs H Q) (ha : JA X (a :: es) ma) (hn : x ≠ "__name__" := by decide) (hdb : (x == ("__debug__" : Str)) = false := by decide)
    (he : starEach (a :: es) X.env = (false, eval a X.env) :: starEach es X.env := by rfl) (hpl : (backTo pos (starEach es X.env)).any (·.1) = false := by rfl) : JE X (.Call (.Name x p) (a :: es) [] pos) (fun ρ => (ma ρ).bind g) := by
  obtain ⟨ta, pa, va⟩ := ha
  refine ⟨_, pe_callTy hc hg hm hv pa hn hdb he hpl, fun H0 σ H ρ q ok h => ?_⟩
  obtain ⟨rs, hrs, h⟩ := Option.bind_eq_some_iff.mp h
  intro H1 e1 Q k
  refine va _ _ _ _ _ ok hrs H1 e1 _ fun vs H2 e2 gs => ?_
  exact hr rs vs H2 q Q h gs fun v H3 e3 gv => k v H3 (e2.trans e3) (gv.back e2)
def gLen : List R → Option R
  | [.dat (.str x)] => if szOk x.length = true then some (.dat (.int x.length)) else none
  | [.dat (.tup x)] => some (.dat (.int x.length))
  | [.lst x] => some (.dat (.int x.length))
  | [.new x] => some (.dat (.int x.length))
  | [.ro x] => some (.dat (.int x.length))
  | _ => none
def mLen (f : ME) : ME := fun ρ => (aCons f aNil ρ).bind gLen
theorem x_len {p : Pos} (hm : X.mg "len" = none) (ha : JE X a f1) (hg : Gl X "len" := by rfl) (hs : starEach (a :: []) X.env = (false, eval a X.env) :: starEach [] X.env := by rfl) : JE X (.Call (.Name "len" p) [a] [] pos) (mLen f1) := by
  refine x_blt call_len hg hm PySem.boot_len (g := gLen) (fun rs vs H q Q h g k => ?_) (a_cons ha a_nil hs) (he := hs)
  unfold gLen at h
  split at h
  · split at h
    · rename_i x hz
      cases h
      cases g with
      | cons g1 g2 =>
        cases g2
        have g1 : Den X.K H _ (.str x) := g1
        cases g1
        exact ⟨_, x.length, rfl, ⟨szOk_of hz, rfl⟩, k _ H (Ex.refl H) (.int _)⟩
    · cases h
  · rename_i x
    cases h
    cases g with
    | cons g1 g2 =>
      cases g2
      have g1 : Den X.K H _ (.tup x) := g1
      cases g1 with
      | tup h1 h2 => exact ⟨_, x.length, rfl, .inr ⟨_, h1, h2.length.symm⟩, k _ H (Ex.refl H) (.int _)⟩
  · rename_i x
    cases h
    cases g with
    | cons g1 g2 =>
      cases g2
      obtain ⟨p, vs, rfl, h1, h2⟩ := g1
      exact ⟨_, x.length, rfl, .inl ⟨_, sq_of h1, h2.length.symm⟩, k _ H (Ex.refl H) (.int _)⟩
  · rename_i x
    cases h
    cases g with
    | cons g1 g2 =>
      cases g2
      obtain ⟨p, vs, rfl, h1, h2⟩ := g1
      exact ⟨_, x.length, rfl, .inl ⟨_, sq_of h1, h2.length.symm⟩, k _ H (Ex.refl H) (.int _)⟩
  · rename_i x
    cases h
    cases g with
    | cons g1 g2 =>
      cases g2
      obtain ⟨p, vs, rfl, h1, h2⟩ := g1
      exact ⟨_, x.length, rfl, .inl ⟨_, h1, h2.length.symm⟩, k _ H (Ex.refl H) (.int _)⟩
  · cases h
def gAbs : List R → Option R
  | [.dat (.int i)] => some (.dat (.int (if i < 0 then -i else i)))
  | _ => none
def mAbs' (f : ME) : ME := fun ρ => (aCons f aNil ρ).bind gAbs
theorem x_abs {p : Pos} (hm : X.mg "abs" = none) (ha : JE X a f1) (hg : Gl X "abs" := by rfl) (hs : starEach (a :: []) X.env = (false, eval a X.env) :: starEach [] X.env := by rfl) : JE X (.Call (.Name "abs" p) [a] [] pos) (mAbs' f1) := by
  refine x_blt call_abs hg hm (by decide +kernel) (g := gAbs) (fun rs vs H q Q h g k => ?_) (a_cons ha a_nil hs) (he := hs)
  unfold gAbs at h
  split at h
  · rename_i i
    cases h
    cases g with
    | cons g1 g2 =>
      cases g2
      have g1 : Den X.K H _ (.int i) := g1
      cases g1
      exact ⟨i, rfl, k _ H (Ex.refl H) (.int _)⟩
  · cases h
def gMax2 : List R → Option R
  | [.dat (.int i), .dat (.int j)] => some (.dat (.int (if j > i then j else i)))
  | _ => none
def gMin2 : List R → Option R
  | [.dat (.int i), .dat (.int j)] => some (.dat (.int (if j < i then j else i)))
  | _ => none
def mMax' (f g : ME) : ME := fun ρ => (aCons f (aCons g aNil) ρ).bind gMax2
def mMin' (f g : ME) : ME := fun ρ => (aCons f (aCons g aNil) ρ).bind gMin2
theorem x_max {p : Pos} (hc : X.calm = true) (hm : X.mg "max" = none) (ha : JE X a f1) (hb : JE X b f2) (hg : Gl X "max" := by rfl) (hs : starEach (a :: [b]) X.env = (false, eval a X.env) :: starEach [b] X.env := by rfl) (hs2 : starEach (b :: []) X.env = (false, eval b X.env) :: starEach [] X.env := by rfl)
    (hpl : (backTo pos (starEach [b] X.env)).any (·.1) = false := by rfl) : JE X (.Call (.Name "max" p) [a, b] [] pos) (mMax' f1 f2) := by
  refine x_blt (call_max2 hc) hg hm (by decide +kernel) (g := gMax2) (fun rs vs H q Q h g k => ?_) (a_cons ha (a_cons hb a_nil hs2) hs) (he := hs) (hpl := hpl)
  unfold gMax2 at h
  split at h
  · rename_i i j
    cases h
    cases g with
    | cons g1 g2 =>
      cases g2 with
      | cons g2 g3 =>
        cases g3
        have g1 : Den X.K H _ (.int i) := g1
        have g2 : Den X.K H _ (.int j) := g2
        cases g1
        cases g2
        exact ⟨i, j, rfl, k _ H (Ex.refl H) (.int _)⟩
  · cases h
theorem x_min {p : Pos} (hc : X.calm = true) (hm : X.mg "min" = none) (ha : JE X a f1) (hb : JE X b f2) (hg : Gl X "min" := by rfl) (hs : starEach (a :: [b]) X.env = (false, eval a X.env) :: starEach [b] X.env := by rfl) (hs2 : starEach (b :: []) X.env = (false, eval b X.env) :: starEach [] X.env := by rfl)
    (hpl : (backTo pos (starEach [b] X.env)).any (·.1) = false := by rfl) : JE X (.Call (.Name "min" p) [a, b] [] pos) (mMin' f1 f2) := by
  refine x_blt (call_min2 hc) hg hm (by decide +kernel) (g := gMin2) (fun rs vs H q Q h g k => ?_) (a_cons ha (a_cons hb a_nil hs2) hs) (he := hs) (hpl := hpl)
  unfold gMin2 at h
  split at h
  · rename_i i j
    cases h
    cases g with
    | cons g1 g2 =>
      cases g2 with
      | cons g2 g3 =>
        cases g3
        have g1 : Den X.K H _ (.int i) := g1
        have g2 : Den X.K H _ (.int j) := g2
        cases g1
        cases g2
        exact ⟨i, j, rfl, k _ H (Ex.refl H) (.int _)⟩
  · cases h
/-! ### + of tuples, lists, texts; * of lists -/
theorem x_catS (ha : JE X a f1) (hb : JE X b f2) : JE X (.BinOp a .Add b pos) (mCatS f1 f2) := by
  obtain ⟨ta, pa, va⟩ := ha
  obtain ⟨tb, pb, vb⟩ := hb
  refine ⟨_, pe_op op_add_str pa pb, fun H0 σ H ρ r ok h => ?_⟩
  unfold mCatS at h
  obtain ⟨i, hi, h⟩ := Option.bind_eq_some_iff.mp h
  obtain ⟨j, hj, h⟩ := Option.bind_eq_some_iff.mp h
  split at h
  · rename_i hz
    cases h
    exact EvR.of (ev_op (va _ _ _ _ _ ok (asStr_some hi)).str (vb _ _ _ _ _ ok (asStr_some hj)).str (rv_val fun H1 _ Q q => ⟨i, j, rfl, rfl, szOk_of hz, q⟩)) fun _ => .str _
  · cases h
theorem x_catT (ha : JE X a f1) (hb : JE X b f2) : JE X (.BinOp a .Add b pos) (mCatT f1 f2) := by
  obtain ⟨ta, pa, va⟩ := ha
  obtain ⟨tb, pb, vb⟩ := hb
  refine ⟨_, pe_op op_catA pa pb, fun H0 σ H ρ r ok h => ?_⟩
  unfold mCatT at h
  obtain ⟨i, hi, h⟩ := Option.bind_eq_some_iff.mp h
  obtain ⟨j, hj, h⟩ := Option.bind_eq_some_iff.mp h
  split at h
  · rename_i hz
    cases h
    intro H1 e1 Q q
    refine (va _ _ _ _ _ ok (asTup_some hi)).tup H1 e1 _ fun p vs H2 e2 hl hdn => ?_
    refine (vb _ _ _ _ _ ok (asTup_some hj)).tup H2 (e1.trans e2) _ fun p2 ws H3 e3 hl2 hdn2 => ?_
    have hd := (hdn.ex e3).append hdn2
    refine ⟨p, p2, vs, ws, rfl, rfl, ex_t e3 hl, hl2, by rw [hdn.length, hdn2.length]; exact szOk_of hz, ?_⟩
    refine ⟨fun z => ?_, fun _ z => ?_, fun _ _ p np => q _ _ ((e2.trans e3).trans (Ex.new np)) (.tup (st_of upd_same) (hd.ex (Ex.new np)))⟩
    · subst z
      exact q _ _ (e2.trans e3) (.tup hl2 hd)
    · subst z
      rw [List.append_nil] at hd
      exact q _ _ (e2.trans e3) (.tup (ex_t e3 hl) hd)
  · cases h
theorem x_catL (ha : JE X a f1) (hb : JE X b f2) : JE X (.BinOp a .Add b pos) (mCatL f1 f2) := by
  obtain ⟨ta, pa, va⟩ := ha
  obtain ⟨tb, pb, vb⟩ := hb
  refine ⟨_, pe_op op_cat pa pb, fun H0 σ H ρ r ok h => ?_⟩
  unfold mCatL at h
  obtain ⟨i, hi, h⟩ := Option.bind_eq_some_iff.mp h
  obtain ⟨j, hj, h⟩ := Option.bind_eq_some_iff.mp h
  split at h
  · rename_i hz
    cases h
    intro H1 e1 Q q
    refine ev_trk hi (fun r hr => va _ _ _ _ _ ok hr) H1 e1 _ fun v H2 e2 ⟨p, vs, hv, hl, hdn⟩ => ?_
    subst hv
    refine ev_trk hj (fun r hr => vb _ _ _ _ _ ok hr) H2 (e1.trans e2) _ fun v H3 e3 ⟨p2, ws, hv, hl2, hdn2⟩ => ?_
    subst hv
    have hd := (hdn.ex e3).append hdn2
    exact ⟨p, p2, vs, ws, rfl, rfl, e3 _ _ hl, hl2, by rw [hdn.length, hdn2.length]; exact szOk_of hz, fun z nz => q _ _ ((e2.trans e3).trans (Ex.new nz)) ⟨z, _, rfl, fresh_back (e2.trans e3) nz, upd_same, hd.ex (Ex.new nz)⟩⟩
  · cases h
theorem x_repL (ha : JE X a f1) (hb : JE X b f2) : JE X (.BinOp a .Mult b pos) (mRepL f1 f2) := by
  obtain ⟨ta, pa, va⟩ := ha
  obtain ⟨tb, pb, vb⟩ := hb
  refine ⟨_, pe_op op_rep pa pb, fun H0 σ H ρ r ok h => ?_⟩
  unfold mRepL at h
  obtain ⟨i, hi, h⟩ := Option.bind_eq_some_iff.mp h
  obtain ⟨j, hj, h⟩ := Option.bind_eq_some_iff.mp h
  split at h
  · rename_i hz
    rw [Bool.and_eq_true] at hz
    obtain ⟨hz1, hz2⟩ := hz
    have hz1 := okP_of hz1
    cases h
    intro H1 e1 Q q
    refine ev_trk hi (fun r hr => va _ _ _ _ _ ok hr) H1 e1 _ fun v H2 e2 ⟨p, vs, hv, hl, hdn⟩ => ?_
    subst hv
    refine (vb _ _ _ _ _ ok (asInt_some hj)).int H2 (e1.trans e2) _ fun H3 e3 => ?_
    exact ⟨p, j, vs, rfl, rfl, e3 _ _ hl, hz1.1, hz1.2, by rw [hdn.length]; exact szOk_of hz2, fun z nz => q _ _ ((e2.trans e3).trans (Ex.new nz)) ⟨z, _, rfl, fresh_back (e2.trans e3) nz, upd_same, ((hdn.ex e3).rep _).ex (Ex.new nz)⟩⟩
  · cases h
theorem x_slT {lo hi : Option Expr} {ml mh : MO} (ha : JE X a f1) (hl : JO X lo ml) (hh : JO X hi mh) {p2 : Pos} : JE X (.Subscript a (.Slice lo hi none p2) pos) (mSlT f1 ml mh) := by
  obtain ⟨ta, pa, va⟩ := ha
  obtain ⟨tl, pl, vl⟩ := hl
  obtain ⟨th, ph, vh⟩ := hh
  refine ⟨_, pe_slice sl_tupA pa pl ph, fun H0 σ H ρ r ok h => ?_⟩
  unfold mSlT at h
  obtain ⟨xs, hx, h⟩ := Option.bind_eq_some_iff.mp h
  obtain ⟨l, hl, h⟩ := Option.bind_eq_some_iff.mp h
  obtain ⟨u, hu, h⟩ := Option.map_eq_some_iff.mp h
  subst h
  intro H1 e1 Q q
  refine (va _ _ _ _ _ ok (asTup_some hx)).tup H1 e1 _ fun p vs H2 e2 hl' hdn => ?_
  refine vl _ _ _ _ _ ok hl H2 (e1.trans e2) _ fun H3 e3 => ?_
  refine vh _ _ _ _ _ ok hu H3 ((e1.trans e2).trans e3) _ fun H4 e4 => ?_
  have hc := cut_den (hdn.ex (e3.trans e4)) l u
  refine ⟨p, vs, rfl, ex_t (e3.trans e4) hl', fun z => q _ _ ((e2.trans e3).trans e4) ?_, fun _ z nz => q _ _ (((e2.trans e3).trans e4).trans (Ex.new nz)) (.tup (st_of upd_same) (hc.ex (Ex.new nz)))⟩
  have e : cutV vs l u = vs := by
    unfold cutV
    rw [z.1, z.2, Nat.sub_zero, List.drop_zero, List.take_length]
  rw [e] at hc
  exact .tup (ex_t (e3.trans e4) hl') hc
end
end
end Tl

namespace Tl
open PySem PySem.Spec PyProof.Rows L2 Evl
noncomputable section
/-! ### statements -/
inductive F where
  | nx (ρ : Rho) | ret (r : R) | brk (ρ : Rho) | cnt (ρ : Rho) | exc (c : Str) (fs : List (Str × D)) (ρ : Rho) | exc0 (c : Str) (ρ : Rho)
abbrev MS := Rho → Option F
def Post (X : Cx) (H0 : Hp) (D : Ends) (W : WX) : F → Prop
  | .nx ρ => ∀ σ H, Ok X H0 σ H ρ → D.nx σ H
  | .brk ρ => ∀ σ H, Ok X H0 σ H ρ → D.bk σ H
  | .cnt ρ => ∀ σ H, Ok X H0 σ H ρ → D.ct σ H
  | .ret r => ∀ v H, Ex H0 H → Got X.K H0 v H r → D.rt v H
  | .exc c fs ρ => ∀ C d σ H gs, X.mg c = some (.ref C) → Ok X H0 σ H ρ → H0 d = none → H d = some (.xd gs) → FldL X.K H gs fs → W (.ref C) (some d) σ H
  | .exc0 c ρ => ∀ C σ H, X.mg c = some (.ref C) → Ok X H0 σ H ρ → W (.ref C) none σ H
def JS (X : Cx) (W : WX) (st : Stmt) (m : MS) : Prop := ∃ ts, PS X st ts ∧ ∀ H0 D σ H ρ fl, Ok X H0 σ H ρ → m ρ = some fl → Post X H0 D W fl → ts D σ H
def JB (X : Cx) (W : WX) (st : List Stmt) (m : MS) : Prop := ∃ ts, PSs X st ts ∧ ∀ H0 D σ H ρ fl, Ok X H0 σ H ρ → m ρ = some fl → Post X H0 D W fl → ts D σ H
def mSkip : MS := fun ρ => some (.nx ρ)
def mSeq (s t : MS) : MS := fun ρ => match s ρ with
  | some (.nx ρ') => t ρ'
  | r => r
def setR (i : Nat) (ρ : Rho) : Option R → Option Rho
  | some (.dat d) => some (ρ.set i (.dat d))
  | some (.new xs) => some (ρ.set i (.own xs))
  | _ => none
def mSet (i : Nat) (f : ME) : MS := fun ρ => (setR i ρ (f ρ)).map .nx
def retR : Option R → Option F
  | some (.dat d) => some (.ret (.dat d))
  | some (.new xs) => some (.ret (.new xs))
  | _ => none
def mRet (f : ME) : MS := fun ρ => retR (f ρ)
def mRetV (i : Nat) : MS := fun ρ => match ρ[i]? with
  | some (.dat d) => some (.ret (.dat d))
  | some (.own xs) => some (.ret (.new xs))
  | _ => none
def mIf (t : MT) (s u : MS) : MS := fun ρ => (t ρ).bind fun b => if b = true then s ρ else u ρ
def mDrop (f : ME) : MS := fun ρ => (f ρ).map fun _ => .nx ρ
def mApp (i : Nat) (f : ME) : MS := fun ρ => match ρ[i]? with
  | some (.own xs) => (asDat (f ρ)).bind fun d => if szOk (xs.length + 1) = true then some (.nx (ρ.set i (.own (xs ++ [d])))) else none
  | _ => none
def mExt (i : Nat) (f : ME) : MS := fun ρ => match ρ[i]? with
  | some (.own xs) => (match f ρ with
    | some (.new ys) => if szOk (xs.length + ys.length) = true then some (.nx (ρ.set i (.own (xs ++ ys)))) else none
    | _ => none)
  | _ => none
def mSetI (i : Nat) (fi fv : ME) : MS := fun ρ => match ρ[i]? with
  | some (.own xs) => (asDat (fv ρ)).bind fun d => (asInt (fi ρ)).bind fun k => (ixN xs.length k).map fun j => .nx (ρ.set i (.own (xs.set j d)))
  | _ => none
def mAug (c : Int → Int → Bool) (g : Int → Int → Int) (i : Nat) (f : ME) : MS := fun ρ => (asInt (mVar i ρ)).bind fun a => (asInt (f ρ)).bind fun b => if c a b = true then some (.nx (ρ.set i (.dat (.int (g a b))))) else none
abbrev MG := D → Rho → Option Rho
def gNm (i : Nat) : MG := fun d ρ => some (ρ.set i (.dat d))
abbrev MGs := List D → Rho → Option Rho
def gNil' : MGs := fun ds ρ => match ds with
  | [] => some ρ
  | _ => none
def gCons' (g : MG) (r : MGs) : MGs := fun ds ρ => match ds with
  | d :: ds => (g d ρ).bind fun ρ' => r ds ρ'
  | _ => none
def gTp (r : MGs) : MG := fun d ρ => match d with
  | .tup ds => r ds ρ
  | _ => none
def mAsg (g : MG) (f : ME) : MS := fun ρ => (asDat (f ρ)).bind fun d => (g d ρ).map .nx
def mAsgL (g : MGs) (f : ME) : MS := fun ρ => (asLst (f ρ)).bind fun d => (g d ρ).map .nx
def loopM (g : MG) (body : MS) : List D → Rho → Option F
  | [], ρ => some (.nx ρ)
  | x :: xs, ρ => (g x ρ).bind fun ρ1 => match body ρ1 with
    | some (.nx ρ') => loopM g body xs ρ'
    | some (.cnt ρ') => loopM g body xs ρ'
    | some (.brk ρ') => some (.nx ρ')
    | r => r
abbrev MI := Rho → Option (List D × Rho)
def mFor (mi : MI) (g : MG) (body : MS) : MS := fun ρ => (mi ρ).bind fun p => loopM g body p.1 p.2

section
variable {X : Cx} {W : WX} {a b c e : Expr} {pos : Pos} {f1 f2 f3 : ME} {es : List Expr} {ma : MA} {m1 m2 : MS} {st : Stmt} {sts : List Stmt} {t : MT}
theorem Post.up {H0 H0' : Hp} {D : Ends} {fl : F} (e : Ex H0 H0') (h : Post X H0 D W fl) : Post X H0' D W fl := by
  have w : ∀ {σ : L2.St} {H : Hp} {ρ : Rho}, Ok X H0' σ H ρ → Ok X H0 σ H ρ := fun {σ H ρ} ⟨B, o⟩ => ⟨B, e.trans o.e0, o.e1, o.len, o.slot, o.inj⟩
  cases fl with
  | nx ρ => exact fun σ H o => h σ H (w o)
  | brk ρ => exact fun σ H o => h σ H (w o)
  | cnt ρ => exact fun σ H o => h σ H (w o)
  | ret r => exact fun v H e' g => h v H (e.trans e') (g.back e)
  | exc c fs ρ => exact fun C d σ H gs hm o n => h C d σ H gs hm (w o) (fresh_back e n)
  | exc0 c ρ => exact fun C σ H hm o => h C σ H hm (w o)
theorem b_nil : JB X W [] mSkip := ⟨_, pss_nil, fun H0 D σ H ρ fl ok h p => by cases h; exact p σ H ok⟩
theorem b_one (h : JS X W st m1) : JB X W [st] m1 := by
  obtain ⟨ts, p, v⟩ := h
  exact ⟨ts, pss_one p, v⟩
theorem b_cons (h1 : JS X W st m1) (h2 : JB X W sts m2) : JB X W (st :: sts) (mSeq m1 m2) := by
  obtain ⟨ts, p, v⟩ := h1
  obtain ⟨tr, pr, vr⟩ := h2
  refine ⟨_, pss_cons p pr, fun H0 D σ H ρ fl ok h q => ?_⟩
  unfold mSeq at h
  show ts { D with nx := tr D } σ H
  cases hm : m1 ρ with
  | none => rw [hm] at h; cases h
  | some fl1 =>
    refine v H0 _ σ H ρ fl1 ok hm ?_
    rw [hm] at h
    cases fl1 with
    | nx ρ' => exact fun σ' H' ok' => vr H0 D σ' H' ρ' fl ok' h q
    | brk ρ' => cases h; exact q
    | cnt ρ' => cases h; exact q
    | ret r => cases h; exact q
    | exc c fs ρ' => cases h; exact q
    | exc0 c ρ' => cases h; exact q
theorem s_pass : JS X W (.Pass pos) mSkip := ⟨_, ps_pass, fun H0 D σ H ρ fl ok h p => by cases h; exact p σ H ok⟩
theorem setR_ok {H0 H H2 : Hp} {σ : L2.St} {ρ ρ' : Rho} {i : Nat} {r : R} {v : V} (ok : Ok X H0 σ H ρ) (h : setR i ρ (some r) = some ρ') (e : Ex H H2) (g : Got X.K H v H2 r) : Ok X H0 (σ.set i (some v)) H2 ρ' := by
  cases r with
  | dat d => cases h; exact (ok.ex e).set g
  | new xs =>
    cases h
    obtain ⟨p, vs, hv, hn, hl, hd⟩ := g
    subst hv
    exact ok.setL e hn hl hd
  | lst xs => cases h
  | ro xs => cases h
theorem s_set (i : Nat) {x : Str} {pos' : Pos} (hN : X.N.Nodup) (he : JE X e f1) (hi : X.N[i]? = some x := by rfl) (hx : Loc X.env.scope x := by first | exact Or.inl rfl | exact Or.inr rfl) (hs : swapsWith e (some (.Name x pos')) pos.line X.env = pure false := by rfl)
    (hf : X.fn x = true ∨ X.env.scope.names.lookup x = some .local := by first | exact .inl rfl | exact .inr rfl | assumption) : JS X W (.Assign [.Name x pos'] e pos) (mSet i f1) := by
  obtain ⟨te, p, v⟩ := he
  refine ⟨_, ps_set hN hi hx p hs hf, fun H0 D σ H ρ fl ok h q => ?_⟩
  unfold mSet at h
  obtain ⟨ρ', h1, h2⟩ := Option.map_eq_some_iff.mp h
  subst h2
  cases hr : f1 ρ with
  | none => rw [hr] at h1; cases h1
  | some r =>
    rw [hr] at h1
    exact v _ _ _ _ _ ok hr H (Ex.refl H) _ fun w H2 e2 g => q _ _ (setR_ok ok h1 e2 g)
theorem s_ret (he : JE X e f1) : JS X W (.Return (some e) pos) (mRet f1) := by
  obtain ⟨te, p, v⟩ := he
  refine ⟨_, ps_ret p, fun H0 D σ H ρ fl ok h q => ?_⟩
  unfold mRet at h
  cases hr : f1 ρ with
  | none => rw [hr] at h; cases h
  | some r =>
    rw [hr] at h
    refine v _ _ _ _ _ ok hr H (Ex.refl H) _ fun w H2 e2 g => ?_
    cases r with
    | dat d => cases h; exact q w H2 (ok.base.trans e2) (g.back ok.base)
    | new xs => cases h; exact q w H2 (ok.base.trans e2) (g.back ok.base)
    | lst xs => cases h
    | ro xs => cases h
theorem s_retV (i : Nat) {x : Str} {pos' : Pos} (hN : X.N[i]? = some x := by rfl) (hv : Vis X.env.scope x := by first | exact Or.inl rfl | exact Or.inr (Or.inl rfl) | exact Or.inr (Or.inr rfl)) (hd : (x == ("__debug__" : Str)) = false := by decide)
    (hcd : (x == ("__classdict__" : Str)) = false := by decide) : JS X W (.Return (some (.Name x pos')) pos) (mRetV i) := by
  refine ⟨_, ps_ret (pe_var hN hv hd hcd), fun H0 D σ H ρ fl ok h q => ?_⟩
  have ba := ok.base
  obtain ⟨B, ok⟩ := ok
  unfold mRetV at h
  split at h
  · rename_i d hd
    cases h
    obtain ⟨v, s, g⟩ := ok.slot i _ hd
    exact ⟨v, s, q v H ba g⟩
  · rename_i xs hd
    cases h
    obtain ⟨a, vs, s, n, l, g⟩ := ok.slot i _ hd
    exact ⟨_, s, q _ H ba ⟨a, vs, rfl, fresh_back ok.e0 n, l, g⟩⟩
  · cases h
theorem s_if {sa sb : List Stmt} (hc : JT X c t) (ha : JB X W sa m1) (hb : JB X W sb m2) : JS X W (.If c sa sb pos) (mIf t m1 m2) := by
  obtain ⟨tc, pc, vc⟩ := hc
  obtain ⟨ta, pa, va⟩ := ha
  obtain ⟨tb, pb, vb⟩ := hb
  refine ⟨_, ps_if pc pa pb, fun H0 D σ H ρ fl ok h q => ?_⟩
  unfold mIf at h
  obtain ⟨k, hk, h⟩ := Option.bind_eq_some_iff.mp h
  refine vc _ _ _ _ _ ok hk H (Ex.refl H) _ fun H2 e2 => ?_
  cases k with
  | true => exact va _ D σ H2 ρ fl (ok.ex e2) h q
  | false => exact vb _ D σ H2 ρ fl (ok.ex e2) h q
theorem s_expr (he : JE X e f1) (hs : swapsWith e none pos.line X.env = pure false := by rfl) : JS X W (.Expr e pos) (mDrop f1) := by
  obtain ⟨te, p, v⟩ := he
  refine ⟨_, ps_expr p hs, fun H0 D σ H ρ fl ok h q => ?_⟩
  unfold mDrop at h
  obtain ⟨r, hr, h⟩ := Option.map_eq_some_iff.mp h
  subst h
  exact v _ _ _ _ _ ok hr H (Ex.refl H) _ fun w H2 e2 g => q σ H2 (ok.ex e2)
theorem Ok.own {H0 H : Hp} {σ : L2.St} {ρ : Rho} {i : Nat} {xs : List D} (ok : Ok X H0 σ H ρ) (h : ρ[i]? = some (.own xs)) : ∃ a vs, σ[i]? = some (some (.ref a)) ∧ H a = some (.lst vs) ∧ DenL X.K H vs xs := by
  obtain ⟨B, ok⟩ := ok
  obtain ⟨a, vs, s, n, l, g⟩ := ok.slot i _ h
  exact ⟨a, vs, s, l, g⟩
theorem s_app (i : Nat) {x : Str} {p1 p2 p3 : Pos} (he : JE X e f1) (hN : X.N[i]? = some x := by rfl) (hv : Vis X.env.scope x := by first | exact Or.inl rfl | exact Or.inr (Or.inl rfl) | exact Or.inr (Or.inr rfl)) (hd : (x == ("__debug__" : Str)) = false := by decide)
    (hcd : (x == ("__classdict__" : Str)) = false := by decide) (hst : starEach (e :: []) X.env = (false, eval e X.env) :: starEach [] X.env := by rfl)
    (hs : swapsWith (.Call (.Attribute (.Name x p1) "append" p2) [e] [] p3) none pos.line X.env = pure false := by rfl)
    (hpe : ∀ to ta, PE X (.Name x p1) to → PA X [e] ta → PE X (.Call (.Attribute (.Name x p1) "append" p2) [e] [] p3) (tBM X.K "list" rAppend to ta) := by exact fun _ _ h1 h2 => pe_bm PySem.F.plainAttrs_list PySem.F.slot_list_append PySem.F.type_list_append mt_append h1 h2) : JS X W (.Expr (.Call (.Attribute (.Name x p1) "append" p2) [e] [] p3) pos) (mApp i f1) := by
  obtain ⟨te, p, v⟩ := he
  refine ⟨_, ps_expr (hpe _ _ (pe_var hN hv hd hcd) (pa_cons p pa_nil hst)) hs, fun H0 D σ H ρ fl ok h q => ?_⟩
  unfold mApp at h
  split at h
  · rename_i xs hx
    obtain ⟨d, hd', h⟩ := Option.bind_eq_some_iff.mp h
    split at h
    · rename_i hz
      cases h
      obtain ⟨l, vs, s, hl', g⟩ := ok.own hx
      refine ⟨_, s, .inl ⟨rfl, _, sq_of hl'⟩, ?_⟩
      refine v _ _ _ _ _ ok (asDat_some hd') H (Ex.refl H) _ fun w H2 e2 gw => ?_
      refine ⟨l, vs, w, rfl, rfl, e2 _ _ hl', ?_, q _ _ ((ok.ex e2).mut hx s (e2 _ _ hl') ((g.ex e2).append (.cons gw .nil)))⟩
      have z : xs.length + 1 ≤ 100000 := okP_of hz
      rw [g.length]
      exact sz_lt (by omega)
    · cases h
  · cases h
theorem s_ext (i : Nat) {x : Str} {p1 p2 p3 : Pos} (he : JE X e f1) (hN : X.N[i]? = some x := by rfl) (hv : Vis X.env.scope x := by first | exact Or.inl rfl | exact Or.inr (Or.inl rfl) | exact Or.inr (Or.inr rfl)) (hd : (x == ("__debug__" : Str)) = false := by decide)
    (hcd : (x == ("__classdict__" : Str)) = false := by decide) (hst : starEach (e :: []) X.env = (false, eval e X.env) :: starEach [] X.env := by rfl)
    (hs : swapsWith (.Call (.Attribute (.Name x p1) "extend" p2) [e] [] p3) none pos.line X.env = pure false := by rfl)
    (hpe : ∀ to ta, PE X (.Name x p1) to → PA X [e] ta → PE X (.Call (.Attribute (.Name x p1) "extend" p2) [e] [] p3) (tBM X.K "list" rExtend to ta) := by exact fun _ _ h1 h2 => pe_bm PySem.F.plainAttrs_list PySem.F.slot_list_extend PySem.F.type_list_extend mt_extend h1 h2) : JS X W (.Expr (.Call (.Attribute (.Name x p1) "extend" p2) [e] [] p3) pos) (mExt i f1) := by
  obtain ⟨te, p, v⟩ := he
  refine ⟨_, ps_expr (hpe _ _ (pe_var hN hv hd hcd) (pa_cons p pa_nil hst)) hs, fun H0 D σ H ρ fl ok h q => ?_⟩
  unfold mExt at h
  split at h
  · rename_i xs hx
    split at h
    · rename_i ys hy
      split at h
      · rename_i hz
        cases h
        obtain ⟨l, vs, s, hl', g⟩ := ok.own hx
        refine ⟨_, s, .inl ⟨rfl, _, sq_of hl'⟩, ?_⟩
        refine v _ _ _ _ _ ok hy H (Ex.refl H) _ fun w H2 e2 ⟨b, ws, hw, nb, hb2, gw⟩ => ?_
        subst hw
        refine ⟨l, b, vs, ws, rfl, rfl, e2 _ _ hl', hb2, ?_, q _ _ ((ok.ex e2).mut hx s (e2 _ _ hl') ((g.ex e2).append gw))⟩
        rw [g.length, gw.length]
        exact szOk_of hz
      · cases h
    · cases h
  · cases h
theorem s_setI (i : Nat) {x : Str} {p1 p2 : Pos} {fi fv : ME} {ei ev : Expr} (hi : JE X ei fi) (he : JE X ev fv) (hN : X.N[i]? = some x := by rfl) (hv : Vis X.env.scope x := by first | exact Or.inl rfl | exact Or.inr (Or.inl rfl) | exact Or.inr (Or.inr rfl)) (hd : (x == ("__debug__" : Str)) = false := by decide)
    (hcd : (x == ("__classdict__" : Str)) = false := by decide) (hpg : ∀ to ti, PE X (.Name x p1) to → PE X ei ti → PG X (.Subscript (.Name x p1) ei p2) (gSub to ti rSetL) := by exact fun to ti h1 h2 => pg_sub h1 h2 set_list)
    (hs : swapsWithSole [.Subscript (.Name x p1) ei p2] ev pos.line X.env = pure false := by rfl) (hw : swappedStores [.Subscript (.Name x p1) ei p2] ev X.env = pure none := by rfl) : JS X W (.Assign [.Subscript (.Name x p1) ei p2] ev pos) (mSetI i fi fv) := by
  obtain ⟨ti, pi, vi⟩ := hi
  obtain ⟨te, p, v⟩ := he
  refine ⟨_, ps_asg p (hpg _ _ (pe_var hN hv hd hcd) pi) hs hw, fun H0 D σ H ρ fl ok h q => ?_⟩
  unfold mSetI at h
  split at h
  · rename_i xs hx
    obtain ⟨d, hd', h⟩ := Option.bind_eq_some_iff.mp h
    obtain ⟨k, hk, h⟩ := Option.bind_eq_some_iff.mp h
    obtain ⟨j, hj, h⟩ := Option.map_eq_some_iff.mp h
    subst h
    obtain ⟨l, vs, s, hl', g⟩ := ok.own hx
    refine v _ _ _ _ _ ok (asDat_some hd') H (Ex.refl H) _ fun w H2 e2 gw => ?_
    refine ⟨_, s, ?_⟩
    refine (vi _ _ _ _ _ ok (asInt_some hk)).int H2 e2 _ fun H3 e3 => ?_
    exact ⟨l, vs, k, j, rfl, rfl, e3 _ _ (e2 _ _ hl'), by rw [g.length]; exact hj, q _ _ (((ok.ex e2).ex e3).mut hx s (e3 _ _ (e2 _ _ hl')) (((g.ex e2).ex e3).set j (Den.ex gw e3)))⟩
  · cases h
theorem s_aug (i : Nat) {x : Str} {op : Operator} {pos' : Pos} {C : Int → Int → Prop} {c : Int → Int → Bool} {g : Int → Int → Int} (ho : OpR X (inplaceOp op) (rI C fun a b => .int (g a b))) (hc : ∀ i j, c i j = true → C i j) (hN : X.N.Nodup) (he : JE X e f1) (hi : X.N[i]? = some x := by rfl)
    (hx : Loc X.env.scope x := by first | exact Or.inl rfl | exact Or.inr rfl) (hf : X.fn x = true ∨ X.env.scope.names.lookup x = some .local := by first | exact .inl rfl | exact .inr rfl | assumption) :
    JS X W (.AugAssign (.Name x pos') op e pos) (mAug c g i f1) := by
  obtain ⟨te, p, v⟩ := he
  refine ⟨_, ps_aug hN hi hx p ho hf, fun H0 D σ H ρ fl ok h q => ?_⟩
  unfold mAug at h
  obtain ⟨a, ha, h⟩ := Option.bind_eq_some_iff.mp h
  obtain ⟨b, hb, h⟩ := Option.bind_eq_some_iff.mp h
  split at h
  · rename_i hcc
    cases h
    have hs : σ[i]? = some (some (.int a)) := by
      have ha := asInt_some ha
      obtain ⟨B, ok⟩ := ok
      unfold mVar at ha
      split at ha
      · rename_i d hd
        cases ha
        obtain ⟨v, s, g⟩ := ok.slot i _ hd
        cases g
        exact s
      · cases ha
      · cases ha
      · cases ha
    refine ⟨_, hs, ?_⟩
    refine (v _ _ _ _ _ ok (asInt_some hb)).int H (Ex.refl H) _ fun H2 e2 => ?_
    exact ⟨a, b, rfl, rfl, hc _ _ hcc, q _ _ ((ok.ex e2).set (.int _))⟩
  · cases h
/-! targets -/
def JG (X : Cx) (tg : Expr) (g : MG) : Prop := ∃ t, PG X tg t ∧ ∀ H0 σ H ρ v d ρ', Ok X H0 σ H ρ → Den X.K H v d → g d ρ = some ρ' → ∀ Q : L2.St → Hp → Prop, (∀ σ', Ok X H0 σ' H ρ' → Q σ' H) → t v σ H Q
def JGs (X : Cx) (tgs : List Expr) (g : MGs) : Prop := ∃ t, PGs X tgs t ∧ ∀ H0 σ H ρ vs ds ρ', Ok X H0 σ H ρ → DenL X.K H vs ds → g ds ρ = some ρ' → ∀ Q : L2.St → Hp → Prop, (∀ σ', Ok X H0 σ' H ρ' → Q σ' H) → t vs σ H Q
theorem g_nm (i : Nat) {x : Str} (hN : X.N.Nodup) (hi : X.N[i]? = some x := by rfl) (hx : Loc X.env.scope x := by first | exact Or.inl rfl | exact Or.inr rfl) (hf : X.fn x = true ∨ X.env.scope.names.lookup x = some .local := by first | exact .inl rfl | exact .inr rfl | assumption) :
    JG X (.Name x pos) (gNm i) := ⟨_, pg_name hN hi hx hf, fun H0 σ H ρ v d ρ' ok hd h Q q => by cases h; exact q _ (ok.set hd)⟩
theorem gs_nil : JGs X [] gNil' := ⟨_, pgs_nil, fun H0 σ H ρ vs ds ρ' ok hd h Q q => by
  cases hd with
  | nil => cases h; exact ⟨rfl, q _ ok⟩
  | cons _ _ => cases h⟩
theorem gs_cons {g : MG} {gs : MGs} (h1 : JG X e g) (h2 : JGs X es gs) (hpg : ∀ t u, PG X e t → PGs X es u → PGs X (e :: es) (gCons t u) := by exact fun t u h1 h2 => pgs_cons h1 h2) : JGs X (e :: es) (gCons' g gs) := by
  obtain ⟨t, p, v⟩ := h1
  obtain ⟨u, pu, vu⟩ := h2
  refine ⟨_, hpg _ _ p pu, fun H0 σ H ρ vs ds ρ' ok hd h Q q => ?_⟩
  cases hd with
  | nil => cases h
  | cons hd1 hd2 =>
    obtain ⟨ρ1, h1, h2⟩ := Option.bind_eq_some_iff.mp (show (g _ ρ).bind (fun ρ' => gs _ ρ') = some ρ' from h)
    refine ⟨_, _, rfl, ?_⟩
    exact v _ _ _ _ _ _ _ ok hd1 h1 _ fun σ1 ok1 => vu _ _ _ _ _ _ _ ok1 hd2 h2 Q q
theorem g_tp {gs : MGs} {k : Nat} {n : Nat} (hc : X.calm = true) (h : JGs X es gs) (hpg : ∀ t, PGs X es t → PG X (.Tuple es k pos) (gTup X.K n t) := by exact fun t h => pg_tup rfl h) (hl : ∀ ds ρ ρ', gs ds ρ = some ρ' → ds.length = n) : JG X (.Tuple es k pos) (gTp gs) := by
  obtain ⟨t, p, v⟩ := h
  refine ⟨_, hpg _ p, fun H0 σ H ρ w d ρ' ok hd h Q q => ?_⟩
  cases hd with
  | non => cases h
  | bl _ => cases h
  | int _ => cases h
  | str _ => cases h
  | tup h1 h2 => exact ⟨_, _, rfl, h1, by rw [h2.length]; exact hl _ _ _ h, v _ _ _ _ _ _ _ ok h2 h Q q⟩
theorem gs_len0 : ∀ ds ρ ρ', gNil' ds ρ = some ρ' → ds.length = 0 := fun ds ρ ρ' h => by
  cases ds with
  | nil => rfl
  | cons _ _ => cases h
theorem gs_lenS {g : MG} {gs : MGs} {n : Nat} (hl : ∀ ds ρ ρ', gs ds ρ = some ρ' → ds.length = n) : ∀ ds ρ ρ', gCons' g gs ds ρ = some ρ' → ds.length = n + 1 := fun ds ρ ρ' h => by
  cases ds with
  | nil => cases h
  | cons d ds =>
    obtain ⟨ρ1, h1, h2⟩ := Option.bind_eq_some_iff.mp (show (g _ ρ).bind (fun ρ' => gs _ ρ') = some ρ' from h)
    exact congrArg (· + 1) (hl _ _ _ h2)
theorem s_asg {tg : Expr} {g : MG} (he : JE X e f1) (hg : JG X tg g) (h1 : List.map (fun x => x.snd) (assignEach [tg] X.env) = [assign tg X.env] := by rfl) (hs : swapsWithSole [tg] e pos.line X.env = pure false := by rfl) (hw : swappedStores [tg] e X.env = pure none := by rfl) : JS X W (.Assign [tg] e pos) (mAsg g f1) := by
  obtain ⟨te, p, v⟩ := he
  obtain ⟨t, pg, vg⟩ := hg
  refine ⟨_, ps_asg p pg hs hw h1, fun H0 D σ H ρ fl ok h q => ?_⟩
  unfold mAsg at h
  obtain ⟨d, hd, h⟩ := Option.bind_eq_some_iff.mp h
  obtain ⟨ρ', hr, h⟩ := Option.map_eq_some_iff.mp h
  subst h
  exact v _ _ _ _ _ ok (asDat_some hd) H (Ex.refl H) _ fun w H2 e2 gw => vg _ _ _ _ _ _ _ (ok.ex e2) gw hr _ fun σ' ok' => q σ' H2 ok'
theorem s_asgL {gs : MGs} {k : Nat} {n : Nat} {p2 : Pos} (hc : X.calm = true) (he : JE X e f1) (hg : JGs X es gs) (hpg : ∀ t, PGs X es t → PG X (.Tuple es k p2) (gUnl X.K n t) := by exact fun t h => pg_unl rfl h) (hl : ∀ ds ρ ρ', gs ds ρ = some ρ' → ds.length = n)
    (hs : swapsWithSole [.Tuple es k p2] e pos.line X.env = pure false := by rfl) (hw : swappedStores [.Tuple es k p2] e X.env = pure none := by rfl) : JS X W (.Assign [.Tuple es k p2] e pos) (mAsgL gs f1) := by
  obtain ⟨te, p, v⟩ := he
  obtain ⟨t, pg, vg⟩ := hg
  refine ⟨_, ps_asg p (hpg _ pg) hs hw, fun H0 D σ H ρ fl ok h q => ?_⟩
  unfold mAsgL at h
  obtain ⟨d, hd, h⟩ := Option.bind_eq_some_iff.mp h
  obtain ⟨ρ', hr, h⟩ := Option.map_eq_some_iff.mp h
  subst h
  refine ev_lst hd (fun r hr => v _ _ _ _ _ ok hr) H (Ex.refl H) _ fun w H2 e2 ⟨p, vs, hv, hl', hdn⟩ => ?_
  subst hv
  exact ⟨_, _, rfl, hl', by rw [hdn.length]; exact hl _ _ _ hr, vg _ _ _ _ _ _ _ (ok.ex e2) hdn hr _ fun σ' ok' => q σ' H2 ok'⟩
end
end
end Tl

namespace Tl
open PySem PySem.Spec PyProof.Rows L2 Evl
noncomputable section
/-! ### all that no slot owns, kept -/
def Owned (σ : L2.St) (ρ : Rho) (b : Addr) : Prop := ∃ (i : Nat) (xs : List D), ρ[i]? = some (.own xs) ∧ σ[i]? = some (some (.ref b))
open Classical in
def hidO (σ : L2.St) (ρ : Rho) (H : Hp) : Hp := fun b => if Owned σ ρ b then none else H b
section
variable {X : Cx} {H0 H B : Hp} {σ : L2.St} {ρ : Rho}
theorem hidO_no {b : Addr} (h : ¬ Owned σ ρ b) : hidO σ ρ H b = H b := if_neg h
theorem hidO_yes {b : Addr} (h : Owned σ ρ b) : hidO σ ρ H b = none := if_pos h
theorem hidO_ex : Ex (hidO σ ρ H) H := fun b o h => by
  by_cases q : Owned σ ρ b
  · rw [hidO_yes q] at h; cases h
  · rw [hidO_no q] at h; exact h
theorem OkB.owned {b : Addr} (ok : OkB X H0 B σ H ρ) (h : Owned σ ρ b) : B b = none ∧ ∃ vs, H b = some (.lst vs) := by
  obtain ⟨i, xs, hi, si⟩ := h
  obtain ⟨a, vs, s, n, l, _⟩ := ok.slot i _ hi
  rw [s] at si
  cases si
  exact ⟨n, vs, l⟩
theorem OkB.hid (ok : OkB X H0 B σ H ρ) : Ex B (hidO σ ρ H) := fun b o h => by
  have q : ¬ Owned σ ρ b := fun q => by rw [(ok.owned q).1] at h; cases h
  rw [hidO_no q]
  exact ok.e1 b o h
theorem OkB.tex (ok : OkB X H0 B σ H ρ) : TEx X.K H (hidO σ ρ H) := fun a xs h => by
  rcases h with (h | ⟨o, h⟩) | h
  · have q : ¬ Owned σ ρ a := fun q => by
      obtain ⟨_, vs, z⟩ := ok.owned q
      rw [z] at h; cases h
    exact .inl (.inl (by rw [hidO_no q]; exact h))
  · have q : ¬ Owned σ ρ a := fun q => by
      obtain ⟨_, vs, z⟩ := ok.owned q
      rw [z] at h; cases h
    exact .inl (.inr ⟨o, by rw [hidO_no q]; exact h⟩)
  · exact .inr h
theorem OkB.pin (ok : OkB X H0 B σ H ρ) : Ok X (hidO σ ρ H) σ H ρ := by
  refine ⟨hidO σ ρ H, Ex.refl _, hidO_ex, ok.len, fun i c hi => ?_, ok.inj⟩
  have z := ok.slot i c hi
  cases c with
  | un => trivial
  | dat d => exact z
  | own xs =>
    obtain ⟨a, vs, s, n, l, g⟩ := z
    exact ⟨a, vs, s, hidO_yes ⟨i, xs, hi, s⟩, l, g⟩
  | bor xs =>
    obtain ⟨a, vs, s, l, g⟩ := z
    exact ⟨a, vs, s, ex_l ok.hid l, g⟩
  | exc c fs =>
    obtain ⟨a, oe, pn, C, dd, gs, h1, h2, h3, h4, h5, h6, h7, h8⟩ := z
    exact ⟨a, oe, pn, C, dd, gs, h1, h2, h3, h4, h5, h6, ok.hid _ _ h7, h8⟩
theorem OkB.fresh {a : Addr} {H1 : Hp} (ok : OkB X H0 B σ H1 ρ) (h : H1 a = none) : ¬ Owned σ ρ a := fun q => by
  obtain ⟨_, vs, z⟩ := ok.owned q
  rw [z] at h; cases h
end

/-! ### what a loop walks -/
/-- J walks ds, whatever is done while H0 stands -/
structure ItD (K : PySem.W.Frag) (H0 : Hp) (J : It) (ds : List D) : Prop where
  go : ∀ i H, Ex H0 H → i < ds.length → J.go i H
  yld : ∀ i H x H', Ex H0 H → i < ds.length → J.yld i H x H' → Ex H H' ∧ ∃ d, ds[i]? = some d ∧ Den K H' x d
  stop : ∀ i H, Ex H0 H → ds.length ≤ i → J.stop i H
def JI (X : Cx) (tg it : Expr) (m : MI) : Prop := ∃ wi, PI X tg it wi ∧ ∀ H0 σ H ρ ds ρ', Ok X H0 σ H ρ → m ρ = some (ds, ρ') → ∀ R' : It → Hp → Prop,
  (∀ J H1 H0', Ex H0 H0' → Ok X H0' σ H1 ρ' → Ex H H1 → ItD X.K H0' J ds → R' J H1) → wi σ H R'
section
variable {X : Cx} {W : WX} {a b c e : Expr} {pos : Pos} {f1 f2 f3 : ME} {es : List Expr} {ma : MA} {m1 m2 : MS} {st : Stmt} {sts : List Stmt} {t : MT} {tg it : Expr} {mi : MI} {g : MG} {mb : MS} {body : List Stmt}
/-- the invariant of a loop: the rest of it ends well -/
def Pv (X : Cx) (H0 : Hp) (D : Ends) (W : WX) (g : MG) (mb : MS) (ds : List Tl.D) (i : Nat) (σ : L2.St) (H : Hp) : Prop := ∃ ρ, Ok X H0 σ H ρ ∧ ∃ fl, loopM g mb (ds.drop i) ρ = some fl ∧ Post X H0 D W fl
theorem s_for (hi : JI X tg it mi) (hg : JG X tg g) (hb : JB X W body mb)
    (hfor : ∀ wi tg' tb, PI X tg it wi → PG X tg tg' → PSs X body tb → PS X (.For tg it body [] pos) (tFor wi tg' tb) := by exact fun _ _ _ h1 h2 h3 => ps_for PassesOwn.never rfl h1 h2 h3) : JS X W (.For tg it body [] pos) (mFor mi g mb) := by
  obtain ⟨wi, pi, vi⟩ := hi
  obtain ⟨tg', pg, vg⟩ := hg
  obtain ⟨tb, pb, vb⟩ := hb
  refine ⟨_, hfor _ _ _ pi pg pb, fun H0 D σ H ρ fl ok h q => ?_⟩
  unfold mFor at h
  obtain ⟨⟨ds, ρ'⟩, hm, h⟩ := Option.bind_eq_some_iff.mp h
  refine vi H0 σ H ρ ds ρ' ok hm _ fun J H1 H0' e0 ok1 _ T => ?_
  have q' := Post.up (X := X) (W := W) e0 q
  refine ⟨fun i m σ H => m = ds.length - i ∧ i ≤ ds.length ∧ Pv X H0' D W g mb ds i σ H, ⟨ds.length, by simp, Nat.zero_le _, ρ', ok1, fl, by rw [List.drop_zero]; exact h, q'⟩, ?_⟩
  rintro i m σ1 H2 ⟨rfl, hi, ρ1, okr, fl1, hl, q1⟩
  by_cases hlt : i < ds.length
  · refine .inr ⟨T.go i H2 okr.base hlt, Pv X H0' D W g mb ds (i + 1), fun σ' H' p' => ⟨ds.length - (i + 1), by omega, rfl, hlt, p'⟩, fun x H' y => ?_⟩
    obtain ⟨e2, d, hd, hdn⟩ := T.yld i H2 x H' okr.base hlt y
    have hdrop : ds.drop i = d :: ds.drop (i + 1) := by
      rw [List.drop_eq_getElem_cons hlt]
      congr 1
      rw [List.getElem?_eq_getElem hlt] at hd
      exact Option.some.inj hd
    rw [hdrop] at hl
    unfold loopM at hl
    obtain ⟨ρ2, hg2, hl⟩ := Option.bind_eq_some_iff.mp hl
    refine vg _ _ _ _ _ _ _ (okr.ex e2) hdn hg2 _ fun σ2 ok2 => ?_
    cases hbd : mb ρ2 with
    | none => rw [hbd] at hl; cases hl
    | some fl2 =>
      rw [hbd] at hl
      refine vb H0' _ σ2 H' ρ2 fl2 ok2 hbd ?_
      cases fl2 with
      | nx ρ3 => exact fun σ3 H3 ok3 => ⟨ρ3, ok3, fl1, hl, q1⟩
      | cnt ρ3 => exact fun σ3 H3 ok3 => ⟨ρ3, ok3, fl1, hl, q1⟩
      | brk ρ3 => cases hl; exact q1
      | ret r => cases hl; exact q1
      | exc c fs ρ3 => cases hl; exact q1
      | exc0 c ρ3 => cases hl; exact q1
  · have e : i = ds.length := by omega
    subst e
    rw [List.drop_length] at hl
    cases hl
    exact .inl ⟨T.stop _ H2 okr.base (Nat.le_refl _), q1 σ1 H2 okr⟩
/-! ranges -/
def rngD (lo : Int) (n : Nat) : List D := (List.range n).map fun i => .int (lo + (i : Nat))
theorem rngD_get {lo : Int} {n i : Nat} (h : i < n) : (rngD lo n)[i]? = some (.int (lo + (i : Nat))) := by
  unfold rngD
  rw [List.getElem?_map, List.getElem?_range h]
  rfl
theorem rngD_len {lo : Int} {n : Nat} : (rngD lo n).length = n := by
  unfold rngD
  rw [List.length_map, List.length_range]
theorem itd_range {K : PySem.W.Frag} {H0 : Hp} {lo : Int} {n : Nat} : ItD K H0 (Itr lo n) (rngD lo n) where
  go := fun i H _ h => by rw [rngD_len] at h; exact h
  yld := fun i H x H' _ h ⟨e1, e2⟩ => by
    rw [rngD_len] at h
    subst e1 e2
    exact ⟨Ex.refl _, _, rngD_get h, .int _⟩
  stop := fun i H _ h => by rw [rngD_len] at h; exact h
def bnd62 (j : Int) : Bool := okP (-(2 ^ 62) ≤ j ∧ j < 2 ^ 62)
def iR1 (f : ME) : MI := fun ρ => (asInt (f ρ)).bind fun n => if bnd62 n = true then some (rngD 0 n.toNat, ρ) else none
def iR2 (f h : ME) : MI := fun ρ => (asInt (f ρ)).bind fun lo => (asInt (h ρ)).bind fun n => if (bnd62 lo && bnd62 n) = true then some (rngD lo (n - lo).toNat, ρ) else none
theorem i_r1 {p : Pos} (hm : X.mg "range" = none) (ha : JE X a f1) (hg : Gl X "range" := by rfl) (hs : starEach [a] X.env = [(false, eval a X.env)] := by rfl) : JI X tg (.Call (.Name "range" p) [a] [] pos) (iR1 f1) := by
  obtain ⟨ta, pa, va⟩ := a_cons ha a_nil hs
  refine ⟨_, pi_range1 hg hm pa hs, fun H0 σ H ρ ds ρ' ok h R' k => ?_⟩
  unfold iR1 at h
  obtain ⟨n, hn, h⟩ := Option.bind_eq_some_iff.mp h
  split at h
  · rename_i hz
    cases h
    have hz := okP_of hz
    refine va _ _ _ _ [.dat (.int n)] ok (by unfold aCons; rw [asInt_some hn]; rfl) H (Ex.refl H) _ fun vs H2 e2 gs => ?_
    cases gs with
    | cons g1 g2 =>
      cases g2
      have g1 : Den X.K H2 _ (.int n) := g1
      cases g1
      exact ⟨n, rfl, hz.1, hz.2, k _ H2 H0 (Ex.refl _) (ok.ex e2) e2 itd_range⟩
  · cases h
theorem i_r2 {p : Pos} (hm : X.mg "range" = none) (ha : JE X a f1) (hb : JE X b f2) (hg : Gl X "range" := by rfl) (hs : starEach [a, b] X.env = [(false, eval a X.env), (false, eval b X.env)] := by rfl) (hs2 : starEach [b] X.env = [(false, eval b X.env)] := by rfl)
    (hpi : ∀ ta, PA X [a, b] ta → PI X tg (.Call (.Name "range" p) [a, b] [] pos) (iRng2 ta) := by exact fun _ h => pi_range2 rfl (by assumption) h) : JI X tg (.Call (.Name "range" p) [a, b] [] pos) (iR2 f1 f2) := by
  obtain ⟨ta, pa, va⟩ := a_cons ha (a_cons hb a_nil hs2) (by rw [hs, hs2])
  refine ⟨_, hpi _ pa, fun H0 σ H ρ ds ρ' ok h R' k => ?_⟩
  unfold iR2 at h
  obtain ⟨lo, hlo, h⟩ := Option.bind_eq_some_iff.mp h
  obtain ⟨n, hn, h⟩ := Option.bind_eq_some_iff.mp h
  split at h
  · rename_i hz
    cases h
    rw [Bool.and_eq_true] at hz
    have hz1 := okP_of hz.1
    have hz2 := okP_of hz.2
    refine va _ _ _ _ [.dat (.int lo), .dat (.int n)] ok (by unfold aCons; rw [asInt_some hlo, asInt_some hn]; rfl) H (Ex.refl H) _ fun vs H2 e2 gs => ?_
    cases gs with
    | cons g1 g2 =>
      cases g2 with
      | cons g2 g3 =>
        cases g3
        have g1 : Den X.K H2 _ (.int lo) := g1
        have g2 : Den X.K H2 _ (.int n) := g2
        cases g1
        cases g2
        exact ⟨lo, n, rfl, ⟨hz1.1, hz1.2, hz2.1, hz2.2⟩, k _ H2 H0 (Ex.refl _) (ok.ex e2) e2 itd_range⟩
  · cases h
/-! lists, tuples -/
theorem itd_list {K : PySem.W.Frag} {H0 : Hp} {p : Addr} {vs : List V} {ds : List D} (hl : SqL K H0 p vs) (hd : DenL K H0 vs ds) : ItD K H0 (Itl K p) ds where
  go := fun i H e h => by
    obtain ⟨v, h1, _⟩ := hd.get (List.getElem?_eq_getElem h)
    exact ⟨vs, v, ex_l e hl, h1⟩
  yld := fun i H x H' e h ⟨e1, e2⟩ => by
    subst e1
    obtain ⟨d, h1, h2⟩ := hd.getV (e2 vs (ex_l e hl))
    exact ⟨Ex.refl _, d, h1, h2.ex e⟩
  stop := fun i H e h => ⟨vs, ex_l e hl, by rw [hd.length]; exact h⟩
theorem itd_tup {K : PySem.W.Frag} {H0 : Hp} {p : Addr} {vs : List V} {ds : List D} (hl : SqT K H0 p vs) (hd : DenL K H0 vs ds) : ItD K H0 (Itt K p) ds where
  go := fun i H e h => by
    obtain ⟨v, h1, _⟩ := hd.get (List.getElem?_eq_getElem h)
    exact ⟨vs, v, ex_t e hl, h1⟩
  yld := fun i H x H' e h ⟨e1, e2⟩ => by
    subst e1
    obtain ⟨d, h1, h2⟩ := hd.getV (e2 vs (ex_t e hl))
    exact ⟨Ex.refl _, d, h1, h2.ex e⟩
  stop := fun i H e h => ⟨vs, ex_t e hl, by rw [hd.length]; exact h⟩
/-- over the list that a name holds -/
def frzV (i : Nat) (ρ : Rho) : Option (List D × Rho) := match ρ[i]? with
  | some (.own xs) => some (xs, ρ.set i (.bor xs))
  | some (.bor xs) => some (xs, ρ)
  | _ => none
def iV (i : Nat) : MI := frzV i
/-- what a name's list is, kept -/
theorem frz_ok {H0 H : Hp} {σ : L2.St} {ρ ρ' : Rho} {i : Nat} {ds : List D} (ok : Ok X H0 σ H ρ) (h : frzV i ρ = some (ds, ρ')) : ∃ H0' p vs, Ex H0 H0' ∧ Ok X H0' σ H ρ' ∧ TEx X.K H H0' ∧ σ[i]? = some (some (.ref p)) ∧ SqL X.K H0' p vs ∧ DenL X.K H0' vs ds := by
  have key : ∀ ρ', Ok X H0 σ H ρ' → ρ'[i]? = some (.bor ds) → ∃ H0' p vs, Ex H0 H0' ∧ Ok X H0' σ H ρ' ∧ TEx X.K H H0' ∧ σ[i]? = some (some (.ref p)) ∧ SqL X.K H0' p vs ∧ DenL X.K H0' vs ds := by
    rintro ρ' ⟨B, ok⟩ h
    obtain ⟨p, vs, s, l, g⟩ := ok.slot i _ h
    exact ⟨_, p, vs, ok.e0.trans ok.hid, ok.pin, ok.tex, s, ex_l ok.hid l, g.imp ok.tex⟩
  unfold frzV at h
  split at h
  · rename_i xs hx
    cases h
    exact key _ (ok.frz hx) (set_get (lt_of_get hx))
  · rename_i xs hx
    cases h
    exact key _ ok hx
  · cases h
theorem i_v (i : Nat) {x : Str} {pos : Pos} (hN : X.N[i]? = some x := by rfl) (hv : Vis X.env.scope x := by first | exact Or.inl rfl | exact Or.inr (Or.inl rfl) | exact Or.inr (Or.inr rfl)) (hd : (x == ("__debug__" : Str)) = false := by decide)
    (hcd : (x == ("__classdict__" : Str)) = false := by decide) : JI X tg (.Name x pos) (iV i) := by
  refine ⟨_, pi_list (pe_var hN hv hd hcd), fun H0 σ H ρ ds ρ' ok h R' k => ?_⟩
  obtain ⟨H0', p, vs, e0, ok', _, s, l, g⟩ := frz_ok ok h
  exact ⟨_, s, p, rfl, ⟨_, ex_l ok'.base l⟩, k _ H H0' e0 ok' (Ex.refl _) (itd_list l g)⟩
/-- over a new list -/
def iN (f : ME) : MI := fun ρ => match f ρ with
  | some (.new xs) => some (xs, ρ)
  | _ => none
theorem i_n (ha : JE X a f1) : JI X tg a (iN f1) := by
  obtain ⟨ta, pa, va⟩ := ha
  refine ⟨_, pi_list pa, fun H0 σ H ρ ds ρ' ok h R' k => ?_⟩
  unfold iN at h
  split at h
  · rename_i xs hx
    cases h
    refine va _ _ _ _ _ ok hx H (Ex.refl H) _ fun v H2 e2 ⟨p, vs, hv, n, l, gd⟩ => ?_
    subst hv
    obtain ⟨B, okb⟩ := ok
    have no := okb.fresh n
    have ok2 : Ok X H0 σ H2 ρ := Ok.ex ⟨B, okb⟩ e2
    obtain ⟨B2, okb2⟩ := ok2
    refine ⟨p, rfl, ⟨_, sq_of l⟩, k _ H2 _ (okb2.e0.trans okb2.hid) okb2.pin e2 (itd_list (sq_of ?_) (gd.imp okb2.tex))⟩
    rw [hidO_no no]
    exact l
  · cases h
/-- over a tuple -/
def iT (f : ME) : MI := fun ρ => (asTup (f ρ)).map fun xs => (xs, ρ)
theorem i_t (ha : JE X a f1) : JI X tg a (iT f1) := by
  obtain ⟨ta, pa, va⟩ := ha
  refine ⟨_, pi_tup pa, fun H0 σ H ρ ds ρ' ok h R' k => ?_⟩
  unfold iT at h
  obtain ⟨xs, hx, h⟩ := Option.map_eq_some_iff.mp h
  cases h
  refine (va _ _ _ _ _ ok (asTup_some hx)).tup H (Ex.refl H) _ fun p vs H2 e2 l gd => ?_
  obtain ⟨B2, okb2⟩ := ok.ex e2
  exact ⟨p, rfl, ⟨_, l⟩, k _ H2 _ (okb2.e0.trans okb2.hid) okb2.pin e2 (itd_tup (okb2.tex _ _ l) (gd.imp okb2.tex))⟩
end

/-! ### defs -/
def argC : R → C
  | .dat d => .dat d
  | .lst xs => .bor xs
  | .new xs => .bor xs
  | .ro xs => .bor xs
def startC (n : Nat) (rs : List R) : Rho := rs.map argC ++ List.replicate (n - rs.length) .un
def outR : Option F → Option R
  | some (.ret r) => some r
  | some (.nx _) => some (.dat .non)
  | _ => none
def mDef (n np : Nat) (body : MS) : Mir := fun rs => if rs.length = np then outR (body (startC n rs)) else none
theorem start_ok {X : Cx} {H : Hp} {vs : List V} {rs : List R} (h : ArgL X.K H vs rs) (N : List Str) : Ok X H (L2.start N vs) H (startC N.length rs) := by
  have len := h.length
  have get : ∀ {vs : List V} {rs : List R} {i : Nat} {r : R}, ArgL X.K H vs rs → rs[i]? = some r → ∃ v, vs[i]? = some v ∧ ArgOk X.K H v r := by
    intro vs rs i r h
    induction h generalizing i with
    | nil => intro e; simp at e
    | cons h1 h2 ih =>
      intro e
      cases i with
      | zero => cases Option.some.inj e; exact ⟨_, rfl, h1⟩
      | succ i =>
        obtain ⟨v, e1, e2⟩ := ih (i := i) (by simpa using e)
        exact ⟨v, by simpa using e1, e2⟩
  have own : ∀ (i : Nat) (xs : List D), (startC N.length rs)[i]? ≠ some (.own xs) := by
    intro i xs e
    unfold startC at e
    rw [List.getElem?_append] at e
    split at e
    · rw [List.getElem?_map] at e
      cases q : rs[i]? with
      | none => rw [q] at e; cases e
      | some r => rw [q] at e; cases r <;> cases Option.some.inj e
    · rw [List.getElem?_replicate] at e
      split at e <;> cases e
  refine ⟨H, Ex.refl _, Ex.refl _, ?_, fun i c hi => ?_, fun i j xs ys a hi _ _ _ => absurd hi (own i xs)⟩
  · unfold L2.start startC
    rw [List.length_append, List.length_append, List.length_map, List.length_map, List.length_replicate, List.length_replicate, len]
  · unfold startC at hi
    rw [List.getElem?_append] at hi
    split at hi
    · rename_i hlt
      rw [List.length_map] at hlt
      rw [List.getElem?_map] at hi
      cases q : rs[i]? with
      | none => rw [q] at hi; cases hi
      | some r =>
        rw [q] at hi
        cases Option.some.inj hi
        obtain ⟨v, e1, e2⟩ := get h q
        have s : (L2.start N vs)[i]? = some (some v) := by
          unfold L2.start
          rw [List.getElem?_append_left (by rw [List.length_map, len]; exact hlt), List.getElem?_map, e1]
          rfl
        cases r with
        | dat d => exact ⟨v, s, e2⟩
        | lst xs =>
          obtain ⟨a, ws, rfl, l, g⟩ := e2
          exact ⟨a, ws, s, sq_of l, g⟩
        | new xs =>
          obtain ⟨a, ws, rfl, l, g⟩ := e2
          exact ⟨a, ws, s, sq_of l, g⟩
        | ro xs =>
          obtain ⟨a, ws, rfl, l, g⟩ := e2
          exact ⟨a, ws, s, l, g⟩
    · rw [List.getElem?_replicate] at hi
      split at hi
      · cases hi; trivial
      · cases hi
abbrev W0 : WX := fun _ _ _ _ => False
section
variable {P : Program} {w : World} {K : PySem.W.Frag} {mg : Str → Option Value} {base : Heap}
theorem d_ok {x qual : Str} {st : Stmt} {f : Addr} {fd : FuncData} {N ps : List Str} {k : Nat} {mb : MS} (F : Fun K x qual st f fd) (S : FnScope N ps (defScope st))
    (hb : ∀ (cdv : Value) (A : Around) (outer : List Env) (s : Shared) (H : Hp) (E : XK), Room k (A.deeper (envOfC qual (defScope st) s.heap.objs.size f cdv)) → JB (cxOf CX0 P w K mg base N qual (defScope st) f cdv A outer s H E).nox W0 (defBody st) mb) :
    FnOk P w K mg base CX0 (k + 1) f fd ps (spM K (mDef N.length ps.length mb)) := by
  refine F.ok S (fun vs H Q E h => ?_) (fun cdv A outer s H vs Q E hr h => ?_)
  · obtain ⟨rs, r, ha, hm, _⟩ := h
    unfold mDef at hm
    split at hm
    · rename_i hl
      rw [ha.length]; exact hl
    · cases hm
  · obtain ⟨rs, r, ha, hm, q⟩ := h
    obtain ⟨ts, p, v⟩ := hb cdv A outer s H E hr
    unfold mDef at hm
    split at hm
    · refine ⟨ts, p, ?_⟩
      cases hf : mb (startC N.length rs) with
      | none => rw [hf] at hm; cases hm
      | some fl =>
        rw [hf] at hm
        refine v H _ _ H _ fl (start_ok ha N) hf ?_
        cases fl with
        | ret r' => cases hm; exact fun u H' e g => q u H' e g
        | nx ρ' => cases hm; exact fun σ' H' ok' => q .non H' ok'.base .non
        | brk _ => cases hm
        | cnt _ => cases hm
        | exc _ _ _ => cases hm
        | exc0 _ _ => cases hm
    · cases hm
/-- a def of the text, as others call it -/
def Cal (P : Program) (w : World) (K : PySem.W.Frag) (mg : Str → Option Value) (base : Heap) (x : Str) (k : Nat) (m : Mir) : Prop :=
  ∃ f fd ps, FnOk P w K mg base CX0 k f fd ps (spM K m) ∧ mg x = some (.ref f) ∧ PySem.W.keepIn K (.ref f) = true ∧ Binds K fd ps []
theorem x_cal {X : Cx} {a : Expr} {es : List Expr} {ma : MA} {pos p : Pos} {x : Str} {k : Nat} {m : Mir} (h : Cal X.prog X.w X.K X.mg X.base x k m) (hr : Room k X.A)
    (ha : JA X (a :: es) ma) (hg : Gl X x := by rfl) (hdb : (x == ("__debug__" : Str)) = false := by decide)
    (he : starEach (a :: es) X.env = (false, eval a X.env) :: starEach es X.env := by rfl) (hpl : (backTo pos (starEach es X.env)).any (·.1) = false := by rfl) : JE X (.Call (.Name x p) (a :: es) [] pos) (mCall m ma) := by
  obtain ⟨f, fd, ps, F, hm, hk, hb⟩ := h
  exact x_call F hr hm hk hb ha hg hdb he hpl
theorem law_end {m : Mir} {H : Hp} {a : Addr} {ns : List Int} (hS : SqL K H a (ns.map V.int)) (h : m [.ro (ns.map D.int)] = some (.dat (.bl true))) {E : XK} : spM K m [.ref a] H (fun v _ => v = .bl true) E :=
  ⟨[.ro (ns.map D.int)], .dat (.bl true), .cons ⟨a, _, rfl, hS, DenL.of_ints ns⟩ .nil, h, fun v H' e g => by
    have g : Den K H' v (.bl true) := g
    cases g
    rfl⟩
end
end
end Tl

namespace Tl
open PySem PySem.Spec PyProof.Rows L2 Evl
noncomputable section
/-! ### == at any depth -/
mutual
def py : D → PyData
  | .non => .none
  | .bl b => .bool b
  | .int i => .int i
  | .str x => .str x
  | .tup xs => .tuple (pyL xs)
def pyL : List D → List PyData
  | [] => []
  | x :: xs => py x :: pyL xs
end
section
variable {K : PySem.W.Frag} {H : Hp}
mutual
theorem Den.dp : ∀ {v : V} {d : D}, Den K H v d → Dp K H v (py d)
  | _, _, .non => .non
  | _, _, .bl b => .bl b
  | _, _, .int i => .int i
  | _, _, .str x => .str x
  | _, _, .tup h hl => .tup h (DenL.dp hl)
theorem DenL.dp : ∀ {vs : List V} {ds : List D}, DenL K H vs ds → DpAll K H vs (pyL ds)
  | _, _, .nil => .nil
  | _, _, .cons h hl => .cons (Den.dp h) (DenL.dp hl)
end
end
def shp (d : D) : Bool := SeqAt.shaped (py d)
def eqD (a b : D) : Bool := PyData.eqv (py a) (py b)
def mEqD (f1 f2 : ME) : ME := fun ρ => (asDat (f1 ρ)).bind fun a => (asDat (f2 ρ)).bind fun b => if (shp a && shp b) = true then some (.dat (.bl (eqD a b))) else none
def mNeD (f1 f2 : ME) : ME := fun ρ => (asDat (f1 ρ)).bind fun a => (asDat (f2 ρ)).bind fun b => if (shp a && shp b) = true then some (.dat (.bl (!eqD a b))) else none
section
variable {X : Cx} {W : WX} {a b c e : Expr} {pos : Pos} {f1 f2 f3 : ME} {es : List Expr} {ma : MA} {m1 m2 : MS} {t : MT}
theorem ev_eqD {ta tb : TE} {σ : L2.St} {H : Hp} {ρ : Rho} {r : R} {H0 : Hp} (va : ∀ H0 σ H ρ r, Ok X H0 σ H ρ → f1 ρ = some r → EvR X.K ta σ H r) (vb : ∀ H0 σ H ρ r, Ok X H0 σ H ρ → f2 ρ = some r → EvR X.K tb σ H r) (ok : Ok X H0 σ H ρ)
    (h : mEqD f1 f2 ρ = some r) : EvR X.K (tOp (rEqD X.K) ta tb) σ H r := by
  unfold mEqD at h
  obtain ⟨d, hd, h⟩ := Option.bind_eq_some_iff.mp h
  obtain ⟨e, he, h⟩ := Option.bind_eq_some_iff.mp h
  split at h
  · rename_i hz
    rw [Bool.and_eq_true] at hz
    cases h
    intro H1 e1 Q q
    refine va _ _ _ _ _ ok (asDat_some hd) H1 e1 _ fun v H2 e2 gv => ?_
    refine vb _ _ _ _ _ ok (asDat_some he) H2 (e1.trans e2) _ fun w H3 e3 gw => ?_
    exact ⟨py d, py e, (Den.ex gv e3).dp, Den.dp gw, hz.1, hz.2, q _ H3 (e2.trans e3) (.bl _)⟩
  · cases h
theorem ev_neD {ta tb : TE} {σ : L2.St} {H : Hp} {ρ : Rho} {r : R} {H0 : Hp} (va : ∀ H0 σ H ρ r, Ok X H0 σ H ρ → f1 ρ = some r → EvR X.K ta σ H r) (vb : ∀ H0 σ H ρ r, Ok X H0 σ H ρ → f2 ρ = some r → EvR X.K tb σ H r) (ok : Ok X H0 σ H ρ)
    (h : mNeD f1 f2 ρ = some r) : EvR X.K (tOp (rNeD X.K) ta tb) σ H r := by
  unfold mNeD at h
  obtain ⟨d, hd, h⟩ := Option.bind_eq_some_iff.mp h
  obtain ⟨e, he, h⟩ := Option.bind_eq_some_iff.mp h
  split at h
  · rename_i hz
    rw [Bool.and_eq_true] at hz
    cases h
    intro H1 e1 Q q
    refine va _ _ _ _ _ ok (asDat_some hd) H1 e1 _ fun v H2 e2 gv => ?_
    refine vb _ _ _ _ _ ok (asDat_some he) H2 (e1.trans e2) _ fun w H3 e3 gw => ?_
    exact ⟨py d, py e, (Den.ex gv e3).dp, Den.dp gw, hz.1, hz.2, q _ H3 (e2.trans e3) (.bl _)⟩
  · cases h
theorem x_eqD (hu : X.A.units + 64 < cLine) (ha : JE X a f1) (hb : JE X b f2) : JE X (.Compare a [.Eq] [b] pos) (mEqD f1 f2) := by
  obtain ⟨ta, pa, va⟩ := ha
  obtain ⟨tb, pb, vb⟩ := hb
  exact ⟨_, pe_cmpR (op_eqD hu) pa pb (nomark _), fun H0 σ H ρ r ok h => ev_eqD va vb ok h⟩
theorem t_eqD (hu : X.A.units + 64 < cLine) (ha : JE X a f1) (hb : JE X b f2) : JT X (.Compare a [.Eq] [b] pos) (mT (mEqD f1 f2)) := by
  obtain ⟨ta, pa, va⟩ := ha
  obtain ⟨tb, pb, vb⟩ := hb
  exact ⟨_, pt_cmpR (op_eqD hu) pa pb (nomark _), fun H0 σ H ρ r ok h => ev_test h fun r hr => ev_eqD va vb ok hr⟩
theorem x_neD (hu : X.A.units + 64 < cLine) (ha : JE X a f1) (hb : JE X b f2) : JE X (.Compare a [.NotEq] [b] pos) (mNeD f1 f2) := by
  obtain ⟨ta, pa, va⟩ := ha
  obtain ⟨tb, pb, vb⟩ := hb
  exact ⟨_, pe_cmpR (op_neD hu) pa pb (nomark _), fun H0 σ H ρ r ok h => ev_neD va vb ok h⟩
theorem t_neD (hu : X.A.units + 64 < cLine) (ha : JE X a f1) (hb : JE X b f2) : JT X (.Compare a [.NotEq] [b] pos) (mT (mNeD f1 f2)) := by
  obtain ⟨ta, pa, va⟩ := ha
  obtain ⟨tb, pb, vb⟩ := hb
  exact ⟨_, pt_cmpR (op_neD hu) pa pb (nomark _), fun H0 σ H ρ r ok h => ev_test h fun r hr => ev_neD va vb ok hr⟩
/-! ### isinstance of plain data -/
def isiD : String → D → Option Bool
  | "int", .int _ => some true
  | "int", .bl _ => some true
  | "int", .non => some false
  | "int", .str _ => some false
  | "int", .tup _ => some false
  | "bool", .int _ => some false
  | "bool", .bl _ => some true
  | "bool", .non => some false
  | "bool", .str _ => some false
  | "bool", .tup _ => some false
  | "str", .int _ => some false
  | "str", .bl _ => some false
  | "str", .non => some false
  | "str", .str _ => some true
  | "str", .tup _ => some false
  | "tuple", .int _ => some false
  | "tuple", .bl _ => some false
  | "tuple", .non => some false
  | "tuple", .str _ => some false
  | "tuple", .tup _ => some true
  | _, _ => none
def tyD : D → String
  | .int _ => "int"
  | .bl _ => "bool"
  | .non => "NoneType"
  | .str _ => "str"
  | .tup _ => "tuple"
theorem isi_kit {T : String} {d : D} {k : Bool} (h : isiD T d = some k) : kitB (tyD d) T = some k := by
  unfold isiD at h
  split at h <;> first | (cases h; first | decide +kernel | rfl) | cases h
theorem den_ty {K : PySem.W.Frag} {H : Hp} {v : V} {d : D} (h : Den K H v d) : TyX K H v (.type (tyD d)) := by
  cases h with
  | non => exact .base .non
  | bl b => exact .base (.bl b)
  | int i => exact .base (.int i)
  | str x => exact .base (.str x)
  | tup h _ =>
    rcases h with (h | ⟨o, h⟩) | ⟨o, its, n, h1, h2, _⟩
    · exact .base (.tup h)
    · exact .fTuple h
    · exact .kTuple h1 h2
def mIsi (T : String) (f : ME) : ME := fun ρ => (asDat (f ρ)).bind fun d => (isiD T d).map fun k => .dat (.bl k)
theorem x_isi {T : String} {y : Str} {p p2 : Pos} (hm : X.mg "isinstance" = none) (hmT : X.mg y = none) (hvT : bootBuiltins y = some (.type T)) (ha : JE X a f1) (hg : Gl X "isinstance" := by rfl) (hgT : Gl X y := by rfl) (hnT : y ≠ "__name__" := by decide) (hdT : (y == ("__debug__" : Str)) = false := by decide)
    (hs : starEach (a :: [.Name y p2]) X.env = (false, eval a X.env) :: starEach [.Name y p2] X.env := by rfl) (hs2 : starEach (.Name y p2 :: []) X.env = (false, eval (.Name y p2) X.env) :: starEach [] X.env := by rfl)
    (hpl : (backTo pos (starEach [.Name y p2] X.env)).any (·.1) = false := by rfl) : JE X (.Call (.Name "isinstance" p) [a, .Name y p2] [] pos) (mIsi T f1) := by
  obtain ⟨ta, pa, va⟩ := ha
  refine ⟨_, pe_callB call_isi hg hm PyProof.Rows.boot_isinstance (pa_cons pa (pa_cons (pe_bltn (v := .ty T) hgT hmT hvT rfl hnT hdT) pa_nil hs2) hs) (he := hs) (hpl := hpl), fun H0 σ H ρ r ok h => ?_⟩
  unfold mIsi at h
  obtain ⟨d, hd, h⟩ := Option.bind_eq_some_iff.mp h
  obtain ⟨k, hk, h⟩ := Option.map_eq_some_iff.mp h
  subst h
  intro H1 e1 Q q
  refine va _ _ _ _ _ ok (asDat_some hd) H1 e1 _ fun v H2 e2 gv => ?_
  exact ⟨v, _, _, _, k, rfl, .ty T, den_ty gv, kit_ty (isi_kit hk), q _ H2 e2 (.bl k)⟩
/-! ### int(a bool) -/
def gIntB : List R → Option R
  | [.dat (.bl k)] => some (.dat (.int (if k then 1 else 0)))
  | [.dat (.int i)] => some (.dat (.int i))
  | _ => none
def mIntOf (f : ME) : ME := fun ρ => (aCons f aNil ρ).bind gIntB
theorem x_intOf {p : Pos} (hm : X.mg "int" = none) (ha : JE X a f1) (hg : Gl X "int" := by rfl) (hs : starEach (a :: []) X.env = (false, eval a X.env) :: starEach [] X.env := by rfl) : JE X (.Call (.Name "int" p) [a] [] pos) (mIntOf f1) := by
  refine x_bltT call_int1 hg hm PyProof.Rows.boot_int (g := gIntB) (fun rs vs H q Q h g k => ?_) (a_cons ha a_nil hs) (he := hs)
  unfold gIntB at h
  split at h
  · rename_i i
    cases h
    cases g with
    | cons g1 g2 =>
      cases g2
      have g1 : Den X.K H _ (.bl i) := g1
      cases g1
      exact .inr ⟨i, rfl, k _ H (Ex.refl H) (.int _)⟩
  · rename_i i
    cases h
    cases g with
    | cons g1 g2 =>
      cases g2
      have g1 : Den X.K H _ (.int i) := g1
      cases g1
      exact .inl ⟨i, rfl, k _ H (Ex.refl H) (.int _)⟩
  · cases h
/-! ### is None -/
def isNon : D → Bool
  | .non => true
  | _ => false
def mIsN (f : ME) : ME := fun ρ => (asDat (f ρ)).map fun d => .dat (.bl (isNon d))
def mNotN (f : ME) : ME := fun ρ => (asDat (f ρ)).map fun d => .dat (.bl (!isNon d))
theorem den_non {K : PySem.W.Frag} {H : Hp} {v : V} {d : D} (h : Den K H v d) : decide (v = .non) = isNon d := by
  cases h <;> simp [isNon]
theorem t_isN {j pos'} (ha : JE X a f1) : JT X (.Compare a [.Is] [.Constant .none j pos'] pos) (mT (mIsN f1)) := by
  obtain ⟨ta, pa, va⟩ := ha
  refine ⟨_, pt_cmp (pc_isN pa), fun H0 σ H ρ k ok h => ?_⟩
  have h := asBl_some h
  unfold mIsN at h
  obtain ⟨d, hd, h⟩ := Option.map_eq_some_iff.mp h
  cases h
  exact et_B fun H1 e1 Q q => va _ _ _ _ _ ok (asDat_some hd) H1 e1 _ fun v H2 e2 gv => by
    show Q (.bl (decide (v = .non))) H2
    rw [den_non gv]
    exact q H2 e2
theorem x_isN {j pos'} (ha : JE X a f1) : JE X (.Compare a [.Is] [.Constant .none j pos'] pos) (mIsN f1) := by
  obtain ⟨ta, pa, va⟩ := ha
  refine ⟨_, pe_cmp (pc_isN pa), fun H0 σ H ρ k ok h => ?_⟩
  unfold mIsN at h
  obtain ⟨d, hd, h⟩ := Option.map_eq_some_iff.mp h
  cases h
  exact fun H1 e1 Q q => va _ _ _ _ _ ok (asDat_some hd) H1 e1 _ fun v H2 e2 gv => by
    show Q (.bl (decide (v = .non))) H2
    rw [den_non gv]
    exact q _ H2 e2 (.bl _)
theorem t_notN {j pos'} (ha : JE X a f1) : JT X (.Compare a [.IsNot] [.Constant .none j pos'] pos) (mT (mNotN f1)) := by
  obtain ⟨ta, pa, va⟩ := ha
  refine ⟨_, pt_cmp (pc_notN pa), fun H0 σ H ρ k ok h => ?_⟩
  have h := asBl_some h
  unfold mNotN at h
  obtain ⟨d, hd, h⟩ := Option.map_eq_some_iff.mp h
  cases h
  exact et_B fun H1 e1 Q q => va _ _ _ _ _ ok (asDat_some hd) H1 e1 _ fun v H2 e2 gv => by
    show Q (.bl (!decide (v = .non))) H2
    rw [den_non gv]
    exact q H2 e2
theorem x_notN {j pos'} (ha : JE X a f1) : JE X (.Compare a [.IsNot] [.Constant .none j pos'] pos) (mNotN f1) := by
  obtain ⟨ta, pa, va⟩ := ha
  refine ⟨_, pe_cmp (pc_notN pa), fun H0 σ H ρ k ok h => ?_⟩
  unfold mNotN at h
  obtain ⟨d, hd, h⟩ := Option.map_eq_some_iff.mp h
  cases h
  exact fun H1 e1 Q q => va _ _ _ _ _ ok (asDat_some hd) H1 e1 _ fun v H2 e2 gv => by
    show Q (.bl (!decide (v = .non))) H2
    rw [den_non gv]
    exact q _ H2 e2 (.bl _)
end
end
end Tl

namespace Tl
open PySem PySem.Spec PyProof.Rows L2 Evl
noncomputable section
theorem loop_all {g : MG} {body : MS} (I : Rho → Prop) : ∀ {ds : List D}, (∀ d ∈ ds, ∀ ρ, I ρ → ∃ ρ1 ρ2, g d ρ = some ρ1 ∧ body ρ1 = some (.nx ρ2) ∧ I ρ2) → ∀ ρ, I ρ → ∃ ρ', loopM g body ds ρ = some (.nx ρ') ∧ I ρ'
  | [], _, ρ, hI => ⟨ρ, rfl, hI⟩
  | d :: ds, h, ρ, hI => by
    obtain ⟨ρ1, ρ2, h1, h2, h3⟩ := h d List.mem_cons_self ρ hI
    obtain ⟨ρ', h4, h5⟩ := loop_all I (ds := ds) (fun d hd => h d (List.mem_cons_of_mem _ hd)) ρ2 h3
    refine ⟨ρ', ?_, h5⟩
    unfold loopM
    rw [h1]
    show (match body ρ1 with | some (.nx ρ') => loopM g body ds ρ' | some (.cnt ρ') => loopM g body ds ρ' | some (.brk ρ') => some (.nx ρ') | r => r) = _
    rw [h2]
    exact h4
theorem mem_rngD {lo : Int} {n : Nat} {d : D} (h : d ∈ rngD lo n) : ∃ i : Nat, i < n ∧ d = .int (lo + (i : Nat)) := by
  unfold rngD at h
  obtain ⟨i, hi, e⟩ := List.mem_map.mp h
  exact ⟨i, List.mem_range.mp hi, e.symm⟩
theorem v_seq {s t : MS} {ρ ρ' : Rho} {r : Option F} (h1 : s ρ = some (.nx ρ')) (h2 : t ρ' = r) : mSeq s t ρ = r := by
  unfold mSeq
  rw [h1]
  exact h2
theorem v_for {mi : MI} {g : MG} {mb : MS} {ρ ρ' : Rho} {ds : List D} {r : Option F} (h1 : mi ρ = some (ds, ρ')) (h2 : loopM g mb ds ρ' = r) : mFor mi g mb ρ = r := by
  unfold mFor
  rw [h1]
  exact h2
theorem v_call {m : Mir} {ma : MA} {ρ : Rho} {rs : List R} {r : Option R} (h1 : ma ρ = some rs) (h2 : m (rs.map argN) = r) : mCall m ma ρ = r := by
  unfold mCall
  rw [h1]
  exact h2
theorem v_def {n np : Nat} {b : MS} {rs : List R} {r : Option R} (h : rs.length = np) (h2 : outR (b (startC n rs)) = r) : mDef n np b rs = r := by
  unfold mDef
  rw [if_pos h]
  exact h2
/-! data -/
theorem canLay_ints : ∀ ns : List Int, PyData.canLayAll0 (pyL (ns.map D.int)) = true
  | [] => by simp [pyL, PyData.canLayAll0]
  | n :: ns => by simp [pyL, py, PyData.canLayAll0, PyData.canLay0, canLay_ints ns]
theorem depth_ints : ∀ ns : List Int, PyData.depthAll (pyL (ns.map D.int)) = 0
  | [] => by simp [pyL, PyData.depthAll]
  | n :: ns => by simp [pyL, py, PyData.depthAll, PyData.depth, depth_ints ns]
theorem shp_ints (ns : List Int) : shp (.tup (ns.map D.int)) = true := by
  simp [shp, SeqAt.shaped, py, PyData.canLay0, PyData.depth, canLay_ints, depth_ints]
theorem shp_int (n : Int) : shp (.int n) = true := by simp [shp, SeqAt.shaped, py, PyData.canLay0, PyData.depth]
theorem shp_non : shp .non = true := by simp [shp, SeqAt.shaped, py, PyData.canLay0, PyData.depth]
theorem eqv_ints : ∀ ns ms : List Int, PyData.eqvAll (pyL (ns.map D.int)) (pyL (ms.map D.int)) = okP (ns = ms)
  | [], [] => by rw [okP_t rfl]; simp [pyL, PyData.eqvAll]
  | [], m :: ms => by rw [okP_f (by simp)]; simp [pyL, PyData.eqvAll]
  | n :: ns, [] => by rw [okP_f (by simp)]; simp [pyL, PyData.eqvAll]
  | n :: ns, m :: ms => by
    by_cases h : n = m
    · by_cases h2 : ns = ms
      · rw [okP_t (by rw [h, h2])]
        have ih := eqv_ints ns ms
        rw [okP_t h2] at ih
        simp [pyL, py, PyData.eqvAll, PyData.eqv, ih, h]
      · rw [okP_f (by simp [h2])]
        have ih := eqv_ints ns ms
        rw [okP_f h2] at ih
        simp [pyL, py, PyData.eqvAll, PyData.eqv, ih, h]
    · rw [okP_f (by simp [h])]
      simp [pyL, py, PyData.eqvAll, PyData.eqv, h]
theorem eqD_ints (ns ms : List Int) : eqD (.tup (ns.map D.int)) (.tup (ms.map D.int)) = okP (ns = ms) := by
  simp [eqD, py, PyData.eqv, eqv_ints]
theorem eqD_pair (a b c d : Int) : eqD (.tup [.int a, .int b]) (.tup [.int c, .int d]) = okP (a = c ∧ b = d) := by
  have h := eqD_ints [a, b] [c, d]
  simp only [List.map_cons, List.map_nil] at h
  rw [h]
  congr 1
  simp
theorem shp_pair (a b : Int) : shp (.tup [.int a, .int b]) = true := shp_ints [a, b]
/-! places -/
theorem atI_map {α : Type} {f : α → D} {ns : List α} {i : Int} {v : α} (h : atI ns i = some v) : atI (ns.map f) i = some (f v) := by
  unfold atI at h ⊢
  rw [List.length_map]
  obtain ⟨j, hj, h⟩ := Option.bind_eq_some_iff.mp h
  rw [hj]
  show (ns.map f)[j]? = _
  rw [List.getElem?_map, h]
  rfl
theorem atI_in {α : Type} {ns : List α} {i : Int} (h0 : 0 ≤ i) (h1 : i < ns.length) : ∃ v, atI ns i = some v := by
  unfold atI ixN
  rw [if_pos h0, if_pos h1]
  have : i.toNat < ns.length := by omega
  exact ⟨ns[i.toNat], by simp [this]⟩
theorem atI_0 {α : Type} {a : α} {l : List α} : atI (a :: l) 0 = some a := atI_nat (j := 0) rfl
theorem atI_1 {α : Type} {a b : α} {l : List α} : atI (a :: b :: l) 1 = some b := atI_nat (j := 1) rfl
theorem atI_2 {α : Type} {a b c : α} {l : List α} : atI (a :: b :: c :: l) 2 = some c := atI_nat (j := 2) rfl
theorem atI_3 {α : Type} {a b c d : α} {l : List α} : atI (a :: b :: c :: d :: l) 3 = some d := atI_nat (j := 3) rfl
theorem atI_4 {α : Type} {a b c d e : α} {l : List α} : atI (a :: b :: c :: d :: e :: l) 4 = some e := atI_nat (j := 4) rfl
theorem atI_5 {α : Type} {a b c d e f : α} {l : List α} : atI (a :: b :: c :: d :: e :: f :: l) 5 = some f := atI_nat (j := 5) rfl
theorem cut3 {α : Type} (a b c d : α) : cutD [a, b, c, d] none (some 3) = [a, b, c] := rfl
/-- numbers drawn: each below its width -/
inductive Drawn : List Int → List Int → Prop
  | nil : Drawn [] []
  | cons {d w : Int} {ds ws : List Int} : 0 ≤ d → d < w → Drawn ds ws → Drawn (d :: ds) (w :: ws)
theorem Drawn.snoc : ∀ {ds ws : List Int} {d w : Int}, Drawn ds ws → 0 ≤ d → d < w → Drawn (ds ++ [d]) (ws ++ [w])
  | _, _, _, _, .nil, h0, h1 => .cons h0 h1 .nil
  | _, _, _, _, .cons a b t, h0, h1 => .cons a b (t.snoc h0 h1)
theorem Drawn.length : ∀ {ds ws : List Int}, Drawn ds ws → ds.length = ws.length
  | _, _, .nil => rfl
  | _, _, .cons _ _ t => congrArg (· + 1) t.length
/-- widths: positive, not too great -/
def WOk (w : Int) : Prop := 0 < w ∧ w.natAbs.log2 < 9000
theorem wok_of {w : Int} {b : Nat} (h : 0 < w) (hb : w.natAbs < 2 ^ b) (h0 : 0 < b) (h9 : b ≤ 9000) : WOk w := ⟨h, Nat.lt_of_lt_of_le (PySem.Flt.log2_lt_of h0 hb) h9⟩
theorem take_snoc {α : Type} {l : List α} {i : Nat} {x : α} (h : l[i]? = some x) : l.take (i + 1) = l.take i ++ [x] := by
  rw [List.take_add_one, h]; rfl
theorem drop_rng {lo : Int} {n i : Nat} (hi : i < n) : (rngD lo n).drop i = .int (lo + (i : Nat)) :: (rngD lo n).drop (i + 1) := by
  have hr : i < (rngD lo n).length := by rw [rngD_len]; exact hi
  rw [List.drop_eq_getElem_cons hr]
  congr 1
  have := rngD_get (lo := lo) hi
  rw [List.getElem?_eq_getElem hr] at this
  exact Option.some.inj this
end
end Tl

namespace Tl
open PySem PySem.Spec PyProof.Rows L2 Evl
noncomputable section
/-! ### defs that may refuse -/
inductive Out where
  | ok (r : R) | exc (c : Str) (fs : List (Str × D)) | exc0 (c : Str)
abbrev MirX := List R → Option Out
def OutP (K : PySem.W.Frag) (mg : Str → Option Value) (H : Hp) (Q : VK) (E : XK) : Out → Prop
  | .ok r => RetP K H Q r
  | .exc c fs => ∀ C d H' gs, mg c = some (.ref C) → Ex H H' → H d = none → H' d = some (.xd gs) → FldL K H' gs fs → E (.ref C) (some d) H'
  | .exc0 c => ∀ C H', mg c = some (.ref C) → Ex H H' → E (.ref C) none H'
def spX (K : PySem.W.Frag) (mg : Str → Option Value) (m : MirX) : Sp := fun vs H Q E => ∃ rs o, ArgL K H vs rs ∧ m rs = some o ∧ OutP K mg H Q E o
def outX : Option F → Option Out
  | some (.ret r) => some (.ok r)
  | some (.nx _) => some (.ok (.dat .non))
  | some (.exc c fs _) => some (.exc c fs)
  | some (.exc0 c _) => some (.exc0 c)
  | _ => none
def mDefX (n np : Nat) (body : MS) : MirX := fun rs => if rs.length = np then outX (body (startC n rs)) else none
def okX (m : MirX) : Mir := fun rs => match m rs with
  | some (.ok r) => some r
  | _ => none
section
variable {P : Program} {w : World} {K : PySem.W.Frag} {mg : Str → Option Value} {base : Heap}
theorem d_okX {x qual : Str} {st : Stmt} {f : Addr} {fd : FuncData} {N ps : List Str} {k : Nat} {mb : MS} (F : Fun K x qual st f fd) (S : FnScope N ps (defScope st))
    (hb : ∀ (cdv : Value) (A : Around) (outer : List Env) (s : Shared) (H : Hp) (E : XK), Room k (A.deeper (envOfC qual (defScope st) s.heap.objs.size f cdv)) → Takes (cxOf (L2.CX P w) P w K mg base N qual (defScope st) f cdv A outer s H E) (fun cls d _ H => E cls d H) →
      JB (cxOf (L2.CX P w) P w K mg base N qual (defScope st) f cdv A outer s H E) (fun cls d _ H => E cls d H) (defBody st) mb) :
    FnOk P w K mg base (L2.CX P w) (k + 1) f fd ps (spX K mg (mDefX N.length ps.length mb)) := by
  refine F.okX S (fun vs H Q E h => ?_) (fun cdv A outer s H vs Q E hr h => ?_)
  · obtain ⟨rs, r, ha, hm, _⟩ := h
    unfold mDefX at hm
    split at hm
    · rename_i hl
      rw [ha.length]; exact hl
    · cases hm
  · obtain ⟨rs, r, ha, hm, q⟩ := h
    obtain ⟨ts, p, v⟩ := hb cdv A outer s H E hr (takes_of rfl rfl rfl rfl)
    unfold mDefX at hm
    split at hm
    · refine ⟨ts, p, ?_⟩
      cases hf : mb (startC N.length rs) with
      | none => rw [hf] at hm; cases hm
      | some fl =>
        rw [hf] at hm
        refine v H _ _ H _ fl (start_ok (X := cxOf (L2.CX P w) P w K mg base N qual (defScope st) f cdv A outer s H E) ha N) hf ?_
        cases fl with
        | ret r' => cases hm; exact fun u H' e g => q u H' e g
        | nx ρ' => cases hm; exact fun σ' H' ok' => q .non H' ok'.base .non
        | brk _ => cases hm
        | cnt _ => cases hm
        | exc c fs ρ' => cases hm; exact fun C d σ' H' gs hc ok' n hd hf => q C d H' gs hc ok'.base n hd hf
        | exc0 c ρ' => cases hm; exact fun C σ' H' hc ok' => q C H' hc ok'.base
    · cases hm
def CalX (P : Program) (w : World) (K : PySem.W.Frag) (mg : Str → Option Value) (base : Heap) (x : Str) (k : Nat) (m : MirX) : Prop :=
  ∃ f fd ps, FnOk P w K mg base (L2.CX P w) k f fd ps (spX K mg m) ∧ mg x = some (.ref f) ∧ PySem.W.keepIn K (.ref f) = true ∧ Binds K fd ps []
end
section
variable {X : Cx} {W : WX} {a b c e : Expr} {pos p : Pos} {f1 f2 f3 : ME} {es : List Expr} {ma : MA} {x : Str} {k : Nat} {m : MirX}
/-- a call that refuses nothing here -/
theorem x_calX (h : CalX X.prog X.w X.K X.mg X.base x k m) (hr : Room k X.A)
    (ha : JA X (a :: es) ma) (hg : Gl X x := by rfl) (hdb : (x == ("__debug__" : Str)) = false := by decide)
    (he : starEach (a :: es) X.env = (false, eval a X.env) :: starEach es X.env := by rfl) (hpl : (backTo pos (starEach es X.env)).any (·.1) = false := by rfl) : JE X (.Call (.Name x p) (a :: es) [] pos) (mCall (okX m) ma) := by
  obtain ⟨f, fd, ps, F, hm, hk, hb⟩ := h
  refine x_callW (m := okX m) (E := E0) F (fun vs H Q h => ?_) hr hg hm hk hb passL ha hdb he hpl
  obtain ⟨rs, r, ha, hm, q⟩ := h
  unfold okX at hm
  split at hm
  · rename_i r' hr'
    cases hm
    exact ⟨rs, _, ha, hr', q⟩
  · cases hm
/-- what comes of a call that may refuse -/
def callX (m : MirX) (ma : MA) (ρ : Rho) : Option Out := (ma ρ).bind fun rs => m (rs.map argN)
def mSetX (i : Nat) (m : MirX) (ma : MA) : MS := fun ρ => match callX m ma ρ with
  | some (.ok r) => (setR i ρ (some r)).map .nx
  | some (.exc c fs) => some (.exc c fs ρ)
  | some (.exc0 c) => some (.exc0 c ρ)
  | none => none
def mExprX (m : MirX) (ma : MA) : MS := fun ρ => match callX m ma ρ with
  | some (.ok _) => some (.nx ρ)
  | some (.exc c fs) => some (.exc c fs ρ)
  | some (.exc0 c) => some (.exc0 c ρ)
  | none => none
def mRetX (m : MirX) (ma : MA) : MS := fun ρ => match callX m ma ρ with
  | some (.ok r) => retR (some r)
  | some (.exc c fs) => some (.exc c fs ρ)
  | some (.exc0 c) => some (.exc0 c ρ)
  | none => none
theorem outp_of {H0 H H2 : Hp} {σ : L2.St} {ρ : Rho} {D : Ends} {Q : VK} {o : Out} {fl : F} (ok : Ok X H0 σ H ρ) (e2 : Ex H H2) (q : Post X H0 D W fl)
    (h1 : ∀ r, o = .ok r → RetP X.K H2 Q r) (h2 : ∀ c fs, o = .exc c fs → fl = .exc c fs ρ) (h3 : ∀ c, o = .exc0 c → fl = .exc0 c ρ) : OutP X.K X.mg H2 Q (WE W σ) o := by
  cases o with
  | ok r => exact h1 r rfl
  | exc c fs =>
    have z := h2 c fs rfl
    subst z
    exact fun C d H' gs hc e' n hd hf => q C d σ H' gs hc (ok.ex (e2.trans e')) (fresh_back (ok.base.trans e2) n) hd hf
  | exc0 c =>
    have z := h3 c rfl
    subst z
    exact fun C H' hc e' => q C σ H' hc (ok.ex (e2.trans e'))
theorem s_setX (i : Nat) {y : Str} {pos' cp : Pos} (h : CalX X.prog X.w X.K X.mg X.base x k m) (hr : Room k X.A) (tk : Takes X W) (hN : X.N.Nodup) (ha : JA X (a :: es) ma) (hg : Gl X x := by rfl) (hdb : (x == ("__debug__" : Str)) = false := by decide)
    (he : starEach (a :: es) X.env = (false, eval a X.env) :: starEach es X.env := by rfl) (hpl : (backTo cp (starEach es X.env)).any (·.1) = false := by rfl)
    (hi : X.N[i]? = some y := by rfl) (hx : Loc X.env.scope y := by first | exact Or.inl rfl | exact Or.inr rfl) (hs : swapsWith (.Call (.Name x p) (a :: es) [] cp) (some (.Name y pos')) pos.line X.env = pure false := by rfl)
    (hf : X.fn y = true ∨ X.env.scope.names.lookup y = some .local := by first | exact .inl rfl | exact .inr rfl | assumption) : JS X W (.Assign [.Name y pos'] (.Call (.Name x p) (a :: es) [] cp) pos) (mSetX i m ma) := by
  obtain ⟨f, fd, ps, F, hm, hk, hb⟩ := h
  obtain ⟨ta, pa, va⟩ := ha
  refine ⟨_, ps_set hN hi hx (pe_callS F hr hg hm hk hb (fun σ => passAt tk σ) pa hdb he hpl) hs hf, fun H0 D σ H ρ fl ok h q => ?_⟩
  unfold mSetX callX at h
  cases hrs : ma ρ with
  | none => rw [hrs] at h; cases h
  | some rs =>
    rw [hrs, Option.bind_some] at h
    refine va _ _ _ _ _ ok hrs H (Ex.refl H) _ fun vs H2 e2 g => ?_
    cases ho : m (rs.map argN) with
    | none => rw [ho] at h; cases h
    | some o =>
      rw [ho] at h
      refine ⟨rs.map argN, o, g.norm, ho, outp_of ok e2 q (fun r z => ?_) (fun c fs z => ?_) (fun c z => ?_)⟩
      · subst z
        obtain ⟨ρ', h1, h2⟩ := Option.map_eq_some_iff.mp h
        subst h2
        exact fun v H' e' gv => q _ _ (setR_ok (ok.ex e2) h1 e' gv)
      · subst z
        cases h
        rfl
      · subst z
        cases h
        rfl
theorem s_exprX {cp : Pos} (h : CalX X.prog X.w X.K X.mg X.base x k m) (hr : Room k X.A) (tk : Takes X W) (ha : JA X (a :: es) ma) (hg : Gl X x := by rfl) (hdb : (x == ("__debug__" : Str)) = false := by decide)
    (he : starEach (a :: es) X.env = (false, eval a X.env) :: starEach es X.env := by rfl) (hpl : (backTo cp (starEach es X.env)).any (·.1) = false := by rfl)
    (hs : swapsWith (.Call (.Name x p) (a :: es) [] cp) none pos.line X.env = pure false := by rfl) : JS X W (.Expr (.Call (.Name x p) (a :: es) [] cp) pos) (mExprX m ma) := by
  obtain ⟨f, fd, ps, F, hm, hk, hb⟩ := h
  obtain ⟨ta, pa, va⟩ := ha
  refine ⟨_, ps_expr (pe_callS F hr hg hm hk hb (fun σ => passAt tk σ) pa hdb he hpl) hs, fun H0 D σ H ρ fl ok h q => ?_⟩
  unfold mExprX callX at h
  cases hrs : ma ρ with
  | none => rw [hrs] at h; cases h
  | some rs =>
    rw [hrs, Option.bind_some] at h
    refine va _ _ _ _ _ ok hrs H (Ex.refl H) _ fun vs H2 e2 g => ?_
    cases ho : m (rs.map argN) with
    | none => rw [ho] at h; cases h
    | some o =>
      rw [ho] at h
      refine ⟨rs.map argN, o, g.norm, ho, outp_of ok e2 q (fun r z => ?_) (fun c fs z => ?_) (fun c z => ?_)⟩
      · subst z
        cases h
        exact fun v H' e' gv => q _ _ (ok.ex (e2.trans e'))
      · subst z
        cases h
        rfl
      · subst z
        cases h
        rfl
theorem s_retX {cp : Pos} (h : CalX X.prog X.w X.K X.mg X.base x k m) (hr : Room k X.A) (tk : Takes X W) (ha : JA X (a :: es) ma) (hg : Gl X x := by rfl) (hdb : (x == ("__debug__" : Str)) = false := by decide)
    (he : starEach (a :: es) X.env = (false, eval a X.env) :: starEach es X.env := by rfl) (hpl : (backTo cp (starEach es X.env)).any (·.1) = false := by rfl) : JS X W (.Return (some (.Call (.Name x p) (a :: es) [] cp)) pos) (mRetX m ma) := by
  obtain ⟨f, fd, ps, F, hm, hk, hb⟩ := h
  obtain ⟨ta, pa, va⟩ := ha
  refine ⟨_, ps_ret (pe_callS F hr hg hm hk hb (fun σ => passAt tk σ) pa hdb he hpl), fun H0 D σ H ρ fl ok h q => ?_⟩
  unfold mRetX callX at h
  cases hrs : ma ρ with
  | none => rw [hrs] at h; cases h
  | some rs =>
    rw [hrs, Option.bind_some] at h
    refine va _ _ _ _ _ ok hrs H (Ex.refl H) _ fun vs H2 e2 g => ?_
    cases ho : m (rs.map argN) with
    | none => rw [ho] at h; cases h
    | some o =>
      rw [ho] at h
      refine ⟨rs.map argN, o, g.norm, ho, outp_of ok e2 q (fun r z => ?_) (fun c fs z => ?_) (fun c z => ?_)⟩
      · subst z
        refine fun v H' e' gv => ?_
        have eb := ok.base.trans e2
        cases r with
        | dat d => cases h; exact q v H' (eb.trans e') (gv.back eb)
        | new xs => cases h; exact q v H' (eb.trans e') (gv.back eb)
        | lst xs => cases h
        | ro xs => cases h
      · subst z
        cases h
        rfl
      · subst z
        cases h
        rfl
end
/-! ### the error classes: __init__ sets its fields -/
def spI1 (K : PySem.W.Frag) (f : Str) : Sp := fun vs H Q _ => ∃ (a C : Addr) (y : V), vs = [.ref a, y] ∧ OexC K C ∧ PySem.W.findIn K (.ref C) f = some none ∧ H a = some (exo a C none) ∧ ∀ dx, H dx = none → dx ≠ a → Q .non (upd (upd H dx (exd dx [(f, y)])) a (exo a C (some dx)))
def spI2 (K : PySem.W.Frag) (f g : Str) : Sp := fun vs H Q _ => ∃ (a C : Addr) (y z : V), vs = [.ref a, y, z] ∧ OexC K C ∧ PySem.W.findIn K (.ref C) f = some none ∧ PySem.W.findIn K (.ref C) g = some none ∧ H a = some (exo a C none) ∧
  ∀ dx, H dx = none → dx ≠ a → Q .non (upd (upd (upd H dx (exd dx [(f, y)])) a (exo a C (some dx))) dx (exd dx [(g, z), (f, y)]))
/-- a class of one field, of two -/
def Xc1 (P : Program) (w : World) (K : PySem.W.Frag) (mg : Str → Option Value) (base : Heap) (c f : Str) : Prop :=
  ∃ C fI fd ps, mg c = some (.ref C) ∧ OexC K C ∧ PySem.W.findIn K (.ref C) "__init__" = some (some (.ref fI)) ∧ PySem.W.typeIn K (.ref fI) = some (.type "function") ∧ FnOk P w K mg base CX0 1 fI fd ps (spI1 K f) ∧ Binds K fd ps [] ∧ PySem.W.findIn K (.ref C) f = some none
def Xc2 (P : Program) (w : World) (K : PySem.W.Frag) (mg : Str → Option Value) (base : Heap) (c f g : Str) : Prop :=
  ∃ C fI fd ps, mg c = some (.ref C) ∧ OexC K C ∧ PySem.W.findIn K (.ref C) "__init__" = some (some (.ref fI)) ∧ PySem.W.typeIn K (.ref fI) = some (.type "function") ∧ FnOk P w K mg base CX0 1 fI fd ps (spI2 K f g) ∧ Binds K fd ps [] ∧ PySem.W.findIn K (.ref C) f = some none ∧ PySem.W.findIn K (.ref C) g = some none
def mRaise1 (c f : Str) (f1 : ME) : MS := fun ρ => (asDat (f1 ρ)).map fun d => .exc c [(f, d)] ρ
def mRaise2 (c f g : Str) (f1 f2 : ME) : MS := fun ρ => (asDat (f1 ρ)).bind fun d => (asDat (f2 ρ)).map fun e => .exc c [(g, e), (f, d)] ρ
section
variable {X : Cx} {W : WX} {a b : Expr} {pos p pos2 : Pos} {f1 f2 : ME} {c f g : Str}
theorem s_raise1 (h : Xc1 X.prog X.w X.K X.mg X.base c f) (hc : X.calm = true) (hr : Room 2 X.A) (tk : Takes X W) (ha : JE X a f1) (hg : Gl X c := by rfl) (hdb : (c == ("__debug__" : Str)) = false := by decide)
    (he : starEach (a :: []) X.env = (false, eval a X.env) :: starEach [] X.env := by rfl) (hpl : (backTo pos (starEach [] X.env)).any (·.1) = false := by rfl) : JS X W (.Raise (some (.Call (.Name c p) [a] [] pos)) none pos2) (mRaise1 c f f1) := by
  obtain ⟨C, fI, fd, ps, gC, T, iC, tI, F, hb, no⟩ := h
  obtain ⟨ta, pa, va⟩ := ha
  refine ⟨_, ps_raise hc tk (pmk_oex T iC tI F hr hb .nil pass0 hg gC (pa_cons pa pa_nil he) hdb he hpl), fun H0 D σ H ρ fl ok h q => ?_⟩
  unfold mRaise1 at h
  obtain ⟨d, hd, h⟩ := Option.map_eq_some_iff.mp h
  subst h
  refine va _ _ _ _ _ ok (asDat_some hd) H (Ex.refl H) _ fun v H2 e2 gv => ?_
  refine ⟨by show 1 ≤ 1000; decide, fun a na => ?_⟩
  refine ⟨a, C, v, rfl, T, no, upd_same, fun dx ndx ne => ?_⟩
  have n2 : H2 dx = none := by rw [upd_ne ne] at ndx; exact ndx
  refine ⟨rfl, dx, [(f, v)], upd_same, by rw [upd_ne ne, upd_same], n2, ?_⟩
  have e3 : Ex H2 (upd (del (upd (upd (upd H2 a (exo a C none)) dx (exd dx [(f, v)])) a (exo a C (some dx))) a) dx (.xd [(f, v)])) := fun b o hb => by
    have b1 : b ≠ dx := ne_of_none hb n2
    have b2 : b ≠ a := ne_of_none hb na
    rw [upd_ne b1, del_ne b2, upd_ne b2, upd_ne b1, upd_ne b2]
    exact hb
  exact q C dx σ _ _ gC (ok.ex (e2.trans e3)) (fresh_back (ok.base.trans e2) n2) upd_same (.cons (Den.ex gv e3) .nil)
theorem s_raise2 (h : Xc2 X.prog X.w X.K X.mg X.base c f g) (hc : X.calm = true) (hr : Room 2 X.A) (tk : Takes X W) (ha : JE X a f1) (hb' : JE X b f2) (hg : Gl X c := by rfl) (hdb : (c == ("__debug__" : Str)) = false := by decide)
    (he : starEach (a :: [b]) X.env = (false, eval a X.env) :: starEach [b] X.env := by rfl) (he2 : starEach (b :: []) X.env = (false, eval b X.env) :: starEach [] X.env := by rfl) (hpl : (backTo pos (starEach [b] X.env)).any (·.1) = false := by rfl) :
    JS X W (.Raise (some (.Call (.Name c p) [a, b] [] pos)) none pos2) (mRaise2 c f g f1 f2) := by
  obtain ⟨C, fI, fd, ps, gC, T, iC, tI, F, hb, no, no2⟩ := h
  obtain ⟨ta, pa, va⟩ := ha
  obtain ⟨tb, pb, vb⟩ := hb'
  refine ⟨_, ps_raise hc tk (pmk_oex T iC tI F hr hb .nil pass0 hg gC (pa_cons pa (pa_cons pb pa_nil he2) he) hdb he hpl), fun H0 D σ H ρ fl ok h q => ?_⟩
  unfold mRaise2 at h
  obtain ⟨d, hd, h⟩ := Option.bind_eq_some_iff.mp h
  obtain ⟨e, he', h⟩ := Option.map_eq_some_iff.mp h
  subst h
  refine va _ _ _ _ _ ok (asDat_some hd) H (Ex.refl H) _ fun v H1 e1 gv => ?_
  refine vb _ _ _ _ _ ok (asDat_some he') H1 e1 _ fun u H2 e2 gu => ?_
  refine ⟨by show 2 ≤ 1000; decide, fun a na => ?_⟩
  refine ⟨a, C, v, u, rfl, T, no, no2, upd_same, fun dx ndx ne => ?_⟩
  have n2 : H2 dx = none := by rw [upd_ne ne] at ndx; exact ndx
  refine ⟨rfl, dx, [(g, u), (f, v)], by rw [upd_ne ne.symm, upd_same], upd_same, n2, ?_⟩
  have e3 : Ex H2 (upd (del (upd (upd (upd (upd H2 a (exo a C none)) dx (exd dx [(f, v)])) a (exo a C (some dx))) dx (exd dx [(g, u), (f, v)])) a) dx (.xd [(g, u), (f, v)])) := fun b o hb => by
    have b1 : b ≠ dx := ne_of_none hb n2
    have b2 : b ≠ a := ne_of_none hb na
    rw [upd_ne b1, del_ne b2, upd_ne b1, upd_ne b2, upd_ne b1, upd_ne b2]
    exact hb
  exact q C dx σ _ _ gC (ok.ex ((e1.trans e2).trans e3)) (fresh_back (ok.base.trans (e1.trans e2)) n2) upd_same (.cons (Den.ex gu e3) (.cons (Den.ex gv (e2.trans e3)) .nil))
end
end
end Tl

namespace Tl
open PySem PySem.Spec PyProof.Rows L2 Evl
noncomputable section
/-! ### try .. except C as n -/
def dropX : C → C
  | .exc _ _ => .un
  | c => c
theorem Ok.drop {X Y : Cx} {H0 H : Hp} {σ : L2.St} {ρ : Rho} (ok : Ok X H0 σ H ρ) (hK : Y.K = X.K) : Ok Y H0 σ H (ρ.map dropX) := by
  obtain ⟨B, ok⟩ := ok
  have own : ∀ (i : Nat) (xs : List D), (ρ.map dropX)[i]? = some (.own xs) → ρ[i]? = some (.own xs) := fun i xs h => by
    rw [List.getElem?_map] at h
    cases q : ρ[i]? with
    | none => rw [q] at h; cases h
    | some c => rw [q] at h; cases c <;> cases Option.some.inj h; rfl
  refine ⟨B, ok.e0, ok.e1, by rw [List.length_map]; exact ok.len, fun i c hi => ?_, fun i j xs ys a hi hj => ok.inj i j xs ys a (own i xs hi) (own j ys hj)⟩
  rw [List.getElem?_map] at hi
  cases q : ρ[i]? with
  | none => rw [q] at hi; cases hi
  | some c' =>
    rw [q] at hi
    have z := ok.slot i c' q
    cases c' with
    | un => cases Option.some.inj hi; trivial
    | dat d =>
      cases Option.some.inj hi
      show SlotOk Y B H σ[i]? (.dat d)
      unfold SlotOk
      rw [hK]
      exact z
    | own xs =>
      cases Option.some.inj hi
      show SlotOk Y B H σ[i]? (.own xs)
      unfold SlotOk
      rw [hK]
      exact z
    | bor xs =>
      cases Option.some.inj hi
      show SlotOk Y B H σ[i]? (.bor xs)
      unfold SlotOk
      rw [hK]
      exact z
    | exc _ _ => cases Option.some.inj hi; trivial
theorem OkB.setX {X : Cx} {H0 B H : Hp} {σ : L2.St} {ρ : Rho} {i : Nat} {a C dd : Addr} {oe : Obj} {pn : List (Addr × Obj)} {gs : List (Str × V)} {c : Str} {fs : List (Str × D)} (h : OkB X H0 B σ H ρ) (hp : X.pn = (a, oe) :: pn) (h3 : oe.cls = .ref C) (h4 : X.mg c = some (.ref C))
    (h5 : oe.dict = some dd) (h6 : ∃ vs, oe.data = .fields vs) (h7 : B dd = some (.xd gs)) (h8 : FldL X.K H gs fs) : OkB X H0 B (σ.set i (some (.ref a))) H (ρ.set i (.exc c fs)) := by
  refine ⟨h.e0, h.e1, by rw [List.length_set, List.length_set]; exact h.len, fun j cc hj => ?_, fun j k xs ys b hj hk sj sk => ?_⟩
  · by_cases e : i = j
    · subst e
      have hl := lt_of_get hj
      rw [List.length_set, h.len] at hl
      rw [get_set_eq hj]
      exact ⟨a, oe, pn, C, dd, gs, hp, set_get hl, h3, h4, h5, h6, h7, h8⟩
    · rw [List.getElem?_set_ne e] at hj ⊢
      exact h.slot j cc hj
  · have nj : i ≠ j := fun e => by subst e; exact absurd (get_set_eq hj) (by intro z; cases z)
    have nk : i ≠ k := fun e => by subst e; exact absurd (get_set_eq hk) (by intro z; cases z)
    rw [List.getElem?_set_ne nj] at hj sj
    rw [List.getElem?_set_ne nk] at hk sk
    exact h.inj j k xs ys b hj hk sj sk
def endT (i : Nat) : Option F → Option F
  | some (.nx ρ) => some (.nx ((ρ.map dropX).set i .un))
  | some (.brk ρ) => some (.brk ((ρ.map dropX).set i .un))
  | some (.cnt ρ) => some (.cnt ((ρ.map dropX).set i .un))
  | some (.ret r) => some (.ret r)
  | _ => none
def mTry (i : Nat) (mt : Str → Option Bool) (mb ms : MS) : MS := fun ρ => match mb (ρ.map dropX) with
  | some (.exc c fs ρ') => (match mt c with
    | some true => endT i (ms ((ρ'.map dropX).set i (.exc c fs)))
    | some false => some (.exc c fs (ρ'.map dropX))
    | none => none)
  | some (.nx ρ') => some (.nx (ρ'.map dropX))
  | some (.brk ρ') => some (.brk (ρ'.map dropX))
  | some (.cnt ρ') => some (.cnt (ρ'.map dropX))
  | some (.ret r) => some (.ret r)
  | _ => none
section
variable {X : Cx} {W : WX} {pos pos' np : Pos} {body suite : List Stmt} {b₀ : Stmt} {mb ms : MS} {n x : Str} {Ch : Addr}
theorem s_tryAs (i : Nat) (mt : Str → Option Bool) (hN : X.N.Nodup) (hc : Names X x (.ref Ch)) (tk : Takes X W) (hmt : ∀ c b C, mt c = some b → X.mg c = some (.ref C) → PySem.W.exmOne X.K (.ref C) (.ref Ch) = some b)
    (hb : ∀ (W' : WX) (pn : List (Addr × Obj)) (xe : Value → Shared → Prop), Takes (X.tr pn xe) W' → PassesOwn (model X.prog X.w) X.A X.env xe → JB (X.tr pn xe) W' body mb)
    (hsu : ∀ (a : Addr) (oe : Obj) (cls : Value) (d : Option Addr) (pn : List (Addr × Obj)), Zc cls d oe → (∃ vs, oe.data = .fields vs) → JB (X.suite a ((a, oe) :: pn)) W0 (b₀ :: suite) ms)
    (hs : X.stack = X.env :: X.outer := by rfl) (hf : X.env.frame = some X.env.locals := by rfl) (hi : X.N[i]? = some n := by rfl) (hln : X.env.kindOf n = some .local := by rfl) :
    JS X W (.Try body [.ExceptHandler (some (.Name x np)) (some n) (b₀ :: suite) pos'] [] [] pos) (mTry i mt mb ms) := by
  refine ⟨_, ps_try_as (i := i) (tb := fun W' D σ H => ∃ H0 ρ fl, (∀ pn xe, Ok (X.tr pn xe) H0 σ H ρ) ∧ mb ρ = some fl ∧ ∀ pn xe, Post (X.tr pn xe) H0 D W' fl)
    (ts := fun a cls d D σ H => ∀ (oe : Obj) (pn : List (Addr × Obj)), Zc cls d oe → (∃ vs, oe.data = .fields vs) → ∃ H0 ρ fl, Ok (X.suite a ((a, oe) :: pn)) H0 σ H ρ ∧ ms ρ = some fl ∧ Post (X.suite a ((a, oe) :: pn)) H0 D W0 fl)
    hs hf hN hi hln hc tk (fun W' pn xe t po => ?_) (fun a oe cls d pn hz hd => ?_), fun H0 D σ H ρ fl ok h q => ?_⟩
  · obtain ⟨ts, p, v⟩ := hb W' pn xe t po
    refine ⟨fun pins s σ H D I h => ?_⟩
    obtain ⟨H0, ρ, fl, ok, hm, q⟩ := h
    exact p.run pins s σ H D I (v H0 D σ H ρ fl (ok pn xe) hm (q pn xe))
  · obtain ⟨ts, p, v⟩ := hsu a oe cls d pn hz hd
    refine ⟨fun pins s σ H D I h => ?_⟩
    obtain ⟨H0, ρ, fl, ok, hm, q⟩ := h oe pn hz hd
    exact p.run pins s σ H D I (v H0 D σ H ρ fl ok hm q)
  · unfold mTry at h
    cases hbd : mb (ρ.map dropX) with
    | none => rw [hbd] at h; cases h
    | some fl1 =>
      rw [hbd] at h
      refine ⟨H0, ρ.map dropX, fl1, fun pn xe => ok.drop rfl, hbd, fun pn xe => ?_⟩
      cases fl1 with
      | nx ρ' => cases h; exact fun σ' H' ok' => q σ' H' (Ok.drop (Y := X) ok' rfl)
      | brk ρ' => cases h; exact fun σ' H' ok' => q σ' H' (Ok.drop (Y := X) ok' rfl)
      | cnt ρ' => cases h; exact fun σ' H' ok' => q σ' H' (Ok.drop (Y := X) ok' rfl)
      | ret r => cases h; exact q
      | exc0 c ρ' => cases h
      | exc c fs ρ' =>
        intro C d σ' H' gs hgc ok' nd hd hfl
        cases hm : mt c with
        | none =>
          have h' : (match mt c with | some true => endT i (ms ((ρ'.map dropX).set i (.exc c fs))) | some false => some (F.exc c fs (ρ'.map dropX)) | none => none) = some fl := h
          rw [hm] at h'; cases h'
        | some b =>
          have h' : (match mt c with | some true => endT i (ms ((ρ'.map dropX).set i (.exc c fs))) | some false => some (F.exc c fs (ρ'.map dropX)) | none => none) = some fl := h
          rw [hm] at h'
          refine ⟨b, hmt c b C hm hgc, fun eb a na => ?_, fun eb => ?_⟩
          · subst eb
            intro oe pn hz hdd
            have okS : Ok (X.suite a ((a, oe) :: pn)) H0 σ' H' (ρ'.map dropX) := Ok.drop (Y := X.suite a ((a, oe) :: pn)) ok' rfl
            obtain ⟨B, okB⟩ := okS
            have nown : ¬ Owned σ' (ρ'.map dropX) d := fun z => by
              obtain ⟨_, vs, z2⟩ := okB.owned z
              rw [z2] at hd; cases hd
            obtain ⟨B2, okP⟩ := okB.pin
            have hdB : B2 d = some (.xd gs) := okP.e0 _ _ (by rw [hidO_no nown]; exact hd)
            have okE := okP.setX (i := i) (a := a) (C := C) (dd := d) (oe := oe) (pn := pn) (gs := gs) (c := c) (fs := fs) rfl hz.1 hgc hz.2 hdd hdB hfl
            cases hms : ms ((ρ'.map dropX).set i (.exc c fs)) with
            | none => rw [hms] at h'; cases h'
            | some fl2 =>
              rw [hms] at h'
              refine ⟨_, _, fl2, ⟨B2, okE⟩, hms, ?_⟩
              have q' := Post.up (X := X) (W := W) (okB.e0.trans okB.hid) q
              cases fl2 with
              | nx ρ2 => cases h'; exact fun σ2 H2 ok2 => q' _ H2 (Ok.drop (Y := X) ok2 rfl).un
              | brk ρ2 => cases h'; exact fun σ2 H2 ok2 => q' _ H2 (Ok.drop (Y := X) ok2 rfl).un
              | cnt ρ2 => cases h'; exact fun σ2 H2 ok2 => q' _ H2 (Ok.drop (Y := X) ok2 rfl).un
              | ret r => cases h'; exact q'
              | exc _ _ _ => cases h'
              | exc0 _ _ => cases h'
          · subst eb
            cases h'
            exact q C d σ' H' gs hgc (Ok.drop (Y := X) ok' rfl) nd hd hfl
end
theorem mt_one {X : Cx} {c0 : Str} {C0 Ch : Addr} (g0 : X.mg c0 = some (.ref C0)) (h : PySem.W.exmOne X.K (.ref C0) (.ref Ch) = some true) : ∀ c b C, (fun c : Str => if c = c0 then some true else none) c = some b → X.mg c = some (.ref C) → PySem.W.exmOne X.K (.ref C) (.ref Ch) = some b := by
  intro c b C hc hg
  have hc' : (if c = c0 then some true else none) = some b := hc
  split at hc'
  · rename_i e
    cases hc'
    subst e
    rw [g0] at hg
    cases hg
    exact h
  · cases hc'
/-! ### what a suite asks of the exception it holds -/
theorem FldL.lookup {K : PySem.W.Frag} {H : Hp} {f : Str} {d : D} : ∀ {gs : List (Str × V)} {fs : List (Str × D)}, FldL K H gs fs → fs.lookup f = some d → ∃ v, gs.lookup f = some v ∧ Den K H v d
  | _, _, .nil, h => by cases h
  | _, _, .cons (f := g) hd t, h => by
    rw [List.lookup_cons] at h
    rw [List.lookup_cons]
    cases e : (f == g) with
    | true =>
      rw [e] at h
      cases h
      exact ⟨_, rfl, hd⟩
    | false =>
      rw [e] at h
      exact FldL.lookup t h
def mExF (i : Nat) (c0 f : Str) : ME := fun ρ => match ρ[i]? with
  | some (.exc c fs) => if c = c0 then (fs.lookup f).map .dat else none
  | _ => none
def mExI (i : Nat) (c0 : Str) (b : Bool) : ME := fun ρ => match ρ[i]? with
  | some (.exc c _) => if c = c0 then some (.dat (.bl b)) else none
  | _ => none
theorem kit_one {K : PySem.W.Frag} {C D' : Addr} {b : Bool} (i : PySem.W.isClsIn K D' = true) (t : PySem.W.typeIn K (.ref D') = some (.type "type")) (s : PySem.W.subIn K (.ref C) (.ref D') = some b) (sC : PySem.W.subIn K (.ref C) (.ref C) = some true) : PySem.W.kitOne K (.ref C) (.ref D') = some b := by
  unfold PySem.W.kitOne
  split
  · rename_i e
    have e' : C = D' := Value.ref.inj (beq_iff_eq.mp e)
    subst e'
    rw [sC] at s
    exact s
  · unfold PySem.W.kitCls
    have i' : (PySem.W.clsIn K D').isSome = true := i
    have z : ((PySem.W.clsIn K D').isSome && PySem.W.typeIn K (.ref D') == some (.type "type")) = true := by rw [i', t]; rfl
    show (if ((PySem.W.clsIn K D').isSome && PySem.W.typeIn K (.ref D') == some (.type "type")) = true then PySem.W.subIn K (.ref C) (.ref D') else none) = some b
    rw [if_pos z]
    exact s
/-- what the written part says of an error's class -/
structure ExK (K : PySem.W.Frag) (mg : Str → Option Value) (c : Str) (C : Addr) : Prop where
  gC : mg c = some (.ref C)
  xf : XfC K C
  cl : (PySem.W.clsIn K C).isSome = true
  ha : PySem.W.findIn K (.ref C) "__class__" = some (some (.builtin "object.__class__"))
  hn : PySem.W.specialIn K (.builtin "object.__class__") "__get__" = some (some (.builtin "getset_descriptor.__get__"))
  ht : PySem.W.takesIn K (.builtin "object.__class__") = some true
  hm : PySem.W.mroIn K C (.type "object") = some true
section
variable {X : Cx} {a C : Addr} {oe : Obj} {cls : Value} {d : Option Addr} {pn : List (Addr × Obj)} {pos p p2 : Pos} {c0 n f : Str}
theorem x_exF (i : Nat) (T : ExK X.K X.mg c0 C) (hno : PySem.W.findIn X.K (.ref C) f = some none) (hz : Zc cls d oe) (hf : ∃ vs, oe.data = .fields vs) (hN : X.N[i]? = some n := by rfl)
    (hv : Vis X.env.scope n := by first | exact Or.inl rfl | exact Or.inr (Or.inl rfl) | exact Or.inr (Or.inr rfl)) (hd : (n == ("__debug__" : Str)) = false := by decide) (hcd : (n == ("__classdict__" : Str)) = false := by decide)
    (hb : attributeBase (.Name n p) f X.env (eval (.Name n p) X.env) = eval (.Name n p) X.env := by rfl) : JE (X.suite a ((a, oe) :: pn)) (.Attribute (.Name n p) f pos) (mExF i c0 f) := by
  refine ⟨_, pe_xf T.xf hno hz hf (pe_var hN hv hd hcd) hb, fun H0 σ H ρ r ok h => ?_⟩
  unfold mExF at h
  split at h
  · rename_i c fs hc
    split at h
    · rename_i ec
      subst ec
      obtain ⟨dd, hdd, h⟩ := Option.map_eq_some_iff.mp h
      subst h
      obtain ⟨B, ok⟩ := ok
      obtain ⟨a', oe', pn', C', d', gs, h1, h2, h3, h4, h5, _, h7, h8⟩ := ok.slot i _ hc
      have e1 : (a, oe) :: pn = (a', oe') :: pn' := h1
      cases e1
      have e2 : C' = C := by
        have z : X.mg c = some (.ref C') := h4
        rw [T.gC] at z
        exact (Value.ref.inj (Option.some.inj z)).symm
      subst e2
      intro H1 e Q q
      obtain ⟨v, hv1, hv2⟩ := (h8.ex e).lookup hdd
      exact ⟨_, h2, rfl, hz.1.symm.trans h3, d', gs, v, hz.2.symm.trans h5, e _ _ (ok.e1 _ _ h7), hv1, q v H1 (Ex.refl _) hv2⟩
    · cases h
  · cases h
/-- isinstance(e, c) -/
def rIsX (K : PySem.W.Frag) (C a : Addr) (d : Option Addr) : List V → Hp → VK → Prop := fun xs H Q => ∃ (c : V) (cv : Value) (b : Bool) (dd : Addr) (gs : List (Str × V)), xs = [.ref a, c] ∧ (∀ u, RelV c u → u = cv) ∧ PySem.W.kitOne K (.ref C) cv = some b ∧ d = some dd ∧ H dd = some (.xd gs) ∧ Q (.bl b) H
theorem call_isX (T : ExK X.K X.mg c0 C) (hz : Zc (.ref C) d oe) (hf : ∃ vs, oe.data = .fields vs) : CallR (X.suite a ((a, oe) :: pn)) (.builtin "isinstance") (rIsX X.K C a d) := by
  intro pins s σ H xs us Q I r h
  obtain ⟨c, cv, b, dd, gs, rfl, hcv, e, hd, ea, q⟩ := h
  cases r with
  | cons rx rr =>
    cases rr with
    | cons rt rr =>
      cases rr
      cases rx
      have ec := hcv _ rt
      subst ec
      obtain ⟨hget, _⟩ := I.pin (a, oe) (List.mem_append.mpr (.inl List.mem_cons_self))
      obtain ⟨vs, hv⟩ := hf
      have hx : ObjOk X.prog X.w H s.heap dd (.xd gs) := I.hok dd _ ea
      obtain ⟨mA, hns, hr⟩ := hx
      obtain ⟨od, ho, hl⟩ := lookIn_ns hns
      have J : PySem.W.InstAt s.heap a oe C (some od) := ⟨hget, hz.1, by unfold PySem.W.notCls; rw [hv] <;> rfl, by rw [hz.2, hd]; exact ho⟩
      exact PySem.W.kia_one (PySem.W.kitx_exc T.cl T.xf.ga T.xf.gg T.xf.exC T.ha T.hn T.ht T.hm) I.kIn J e (fun z => nomatch z) fun tk => ⟨.bl b, H, I.kept (t' := tk) fun _ _ z => z, rfl, q⟩
theorem x_exI (i : Nat) {y : Str} {b : Bool} {D' : Addr} (T : ExK X.K X.mg c0 C) (hm : X.mg "isinstance" = none) (gD : X.mg y = some (.ref D')) (hk : PySem.W.kitOne X.K (.ref C) (.ref D') = some b) (hz : Zc cls d oe) (hf : ∃ vs, oe.data = .fields vs) (hN : X.N[i]? = some n := by rfl)
    (hv : Vis X.env.scope n := by first | exact Or.inl rfl | exact Or.inr (Or.inl rfl) | exact Or.inr (Or.inr rfl)) (hd : (n == ("__debug__" : Str)) = false := by decide) (hcd : (n == ("__classdict__" : Str)) = false := by decide)
    (hg : Gl X "isinstance" := by rfl) (hgD : Gl X y := by rfl) (hdy : (y == ("__debug__" : Str)) = false := by decide)
    (hs : starEach (.Name n p :: [.Name y p2]) X.env = (false, eval (.Name n p) X.env) :: starEach [.Name y p2] X.env := by rfl) (hs2 : starEach (.Name y p2 :: []) X.env = (false, eval (.Name y p2) X.env) :: starEach [] X.env := by rfl)
    (hpl : (backTo pos (starEach [.Name y p2] X.env)).any (·.1) = false := by rfl) {p0 : Pos} : JE (X.suite a ((a, oe) :: pn)) (.Call (.Name "isinstance" p0) [.Name n p, .Name y p2] [] pos) (mExI i c0 b) := by
  by_cases hcls : cls = .ref C
  · subst hcls
    refine ⟨_, pe_callB (call_isX T hz hf) hg hm PyProof.Rows.boot_isinstance (pa_cons (pe_var hN hv hd hcd) (pa_cons (pe_glob (v := .ref D') hgD gD rfl hdy) pa_nil hs2) hs) (he := hs) (hpl := hpl), fun H0 σ H ρ r ok h => ?_⟩
    unfold mExI at h
    split at h
    · rename_i c fs hc
      split at h
      · rename_i ec
        subst ec
        cases h
        obtain ⟨B, ok⟩ := ok
        obtain ⟨a', oe', pn', C', d', gs, h1, h2, h3, h4, h5, _, h7, h8⟩ := ok.slot i _ hc
        have e1 : (a, oe) :: pn = (a', oe') :: pn' := h1
        cases e1
        intro H1 e Q q
        exact ⟨_, h2, _, _, b, d', gs, rfl, fun u ru => ru, hk, hz.2.symm.trans h5, e _ _ (ok.e1 _ _ h7), q _ H1 (Ex.refl _) (.bl b)⟩
      · cases h
    · cases h
  · refine ⟨fun _ _ _ => False, ⟨fun _ _ _ _ _ _ h => h.elim⟩, fun H0 σ H ρ r ok h => ?_⟩
    unfold mExI at h
    split at h
    · rename_i c fs hc
      split at h
      · rename_i ec
        subst ec
        obtain ⟨B, ok⟩ := ok
        obtain ⟨a', oe', pn', C', d', gs, h1, h2, h3, h4, h5, _, h7, h8⟩ := ok.slot i _ hc
        have e1 : (a, oe) :: pn = (a', oe') :: pn' := h1
        cases e1
        have e2 : C' = C := by
          have z : X.mg c = some (.ref C') := h4
          rw [T.gC] at z
          exact (Value.ref.inj (Option.some.inj z)).symm
        subst e2
        exact absurd (hz.1.symm.trans h3) hcls
      · cases h
    · cases h
end
end
end Tl

namespace Tl
open PySem PySem.Spec PyProof.Rows L2 Evl
noncomputable section
/-! ### x in (..) of flat values -/
def eqF : D → D → Option Bool
  | .non, .non => some true
  | .bl a, .bl b => some (a == b)
  | .int a, .int b => some (okP (a = b))
  | .str a, .str b => some (decide (a = b))
  | .non, .str _ => some false
  | .str _, .non => some false
  | .non, .int _ => some false
  | .int _, .non => some false
  | .int _, .str _ => some false
  | .str _, .int _ => some false
  | _, _ => none
def inF (x : D) : List D → Option Bool
  | [] => some false
  | y :: ys => (eqF y x).bind fun b => (inF x ys).map fun c => b || c
theorem beq_okP (a b : Int) : (a == b) = okP (a = b) := by
  by_cases h : a = b
  · rw [okP_t h, h]; simp
  · rw [okP_f h]; simp [h]
theorem eqF_of {K : PySem.W.Frag} {H H' : Hp} {v w : V} {d e : D} {k : Bool} (hv : Den K H v d) (hw : Den K H' w e) (h : eqF d e = some k) : flatV v = true ∧ flatV w = true ∧ eqV v w = k := by
  cases hv <;> cases hw <;> simp only [eqF, Option.some.injEq, reduceCtorEq] at h <;> subst h <;> refine ⟨rfl, rfl, ?_⟩ <;> first | rfl | exact beq_okP _ _ | simp [eqV]
theorem inF_of {K : PySem.W.Frag} {H : Hp} {v : V} {x : D} (hv : Den K H v x) : ∀ {ds : List D} {vs : List V} {b : Bool}, DenL K H vs ds → inF x ds = some b → vs.all flatV = true ∧ (ds ≠ [] → flatV v = true) ∧ inV v vs = b
  | [], _, _, .nil, h => by cases h; exact ⟨rfl, fun z => absurd rfl z, rfl⟩
  | y :: ys, _, _, .cons h1 h2, h => by
    obtain ⟨k, hk, h⟩ := Option.bind_eq_some_iff.mp (show ((eqF y x).bind fun b => (inF x ys).map fun c => b || c) = _ from h)
    obtain ⟨c, hc, h⟩ := Option.map_eq_some_iff.mp h
    subst h
    obtain ⟨a1, a2, a3⟩ := eqF_of h1 hv hk
    obtain ⟨b1, _, b3⟩ := inF_of hv h2 hc
    refine ⟨by rw [List.all_cons, a1, b1]; rfl, fun _ => a2, ?_⟩
    unfold inV at b3 ⊢
    rw [List.any_cons, a3, b3]
def mIn (f g : ME) : ME := fun ρ => (asDat (f ρ)).bind fun x => (asTup (g ρ)).bind fun ys => if ys.isEmpty = true then none else (inF x ys).map fun b => .dat (.bl b)
def mNi (f g : ME) : ME := fun ρ => (asDat (f ρ)).bind fun x => (asTup (g ρ)).bind fun ys => if ys.isEmpty = true then none else (inF x ys).map fun b => .dat (.bl (!b))
section
variable {X : Cx} {W : WX} {a b c e : Expr} {pos p : Pos} {f1 f2 f3 : ME} {es : List Expr} {ma : MA}
theorem ev_in {ta tb : TE} {σ : L2.St} {H : Hp} {ρ : Rho} {r : R} {H0 : Hp} (va : ∀ H0 σ H ρ r, Ok X H0 σ H ρ → f1 ρ = some r → EvR X.K ta σ H r) (vb : ∀ H0 σ H ρ r, Ok X H0 σ H ρ → f2 ρ = some r → EvR X.K tb σ H r) (ok : Ok X H0 σ H ρ)
    (h : mIn f1 f2 ρ = some r) : EvR X.K (tOp (rIn X.K false) ta tb) σ H r := by
  unfold mIn at h
  obtain ⟨x, hx, h⟩ := Option.bind_eq_some_iff.mp h
  obtain ⟨ys, hy, h⟩ := Option.bind_eq_some_iff.mp h
  split at h
  · cases h
  · rename_i hne
    obtain ⟨k, hk, h⟩ := Option.map_eq_some_iff.mp h
    subst h
    intro H1 e1 Q q
    refine va _ _ _ _ _ ok (asDat_some hx) H1 e1 _ fun v H2 e2 gv => ?_
    refine (vb _ _ _ _ _ ok (asTup_some hy)).tup H2 (e1.trans e2) _ fun p ws H3 e3 hl hdn => ?_
    obtain ⟨h1, h2, h3⟩ := inF_of (Den.ex gv e3) hdn hk
    refine ⟨p, ws, rfl, .inr hl, h2 (by intro z; subst z; exact hne rfl), h1, ?_⟩
    show Q (.bl (inV v ws)) H3
    rw [h3]
    exact q _ H3 (e2.trans e3) (.bl k)
theorem ev_ni {ta tb : TE} {σ : L2.St} {H : Hp} {ρ : Rho} {r : R} {H0 : Hp} (va : ∀ H0 σ H ρ r, Ok X H0 σ H ρ → f1 ρ = some r → EvR X.K ta σ H r) (vb : ∀ H0 σ H ρ r, Ok X H0 σ H ρ → f2 ρ = some r → EvR X.K tb σ H r) (ok : Ok X H0 σ H ρ)
    (h : mNi f1 f2 ρ = some r) : EvR X.K (tOp (rIn X.K true) ta tb) σ H r := by
  unfold mNi at h
  obtain ⟨x, hx, h⟩ := Option.bind_eq_some_iff.mp h
  obtain ⟨ys, hy, h⟩ := Option.bind_eq_some_iff.mp h
  split at h
  · cases h
  · rename_i hne
    obtain ⟨k, hk, h⟩ := Option.map_eq_some_iff.mp h
    subst h
    intro H1 e1 Q q
    refine va _ _ _ _ _ ok (asDat_some hx) H1 e1 _ fun v H2 e2 gv => ?_
    refine (vb _ _ _ _ _ ok (asTup_some hy)).tup H2 (e1.trans e2) _ fun p ws H3 e3 hl hdn => ?_
    obtain ⟨h1, h2, h3⟩ := inF_of (Den.ex gv e3) hdn hk
    refine ⟨p, ws, rfl, .inr hl, h2 (by intro z; subst z; exact hne rfl), h1, ?_⟩
    show Q (.bl (!inV v ws)) H3
    rw [h3]
    exact q _ H3 (e2.trans e3) (.bl _)
theorem x_in (ha : JE X a f1) (hb : JE X b f2) (hm : behindInMarks .In b = false := by rfl) : JE X (.Compare a [.In] [b] pos) (mIn f1 f2) := by
  obtain ⟨ta, pa, va⟩ := ha
  obtain ⟨tb, pb, vb⟩ := hb
  exact ⟨_, pe_cmpR op_in_seq pa pb hm, fun H0 σ H ρ r ok h => ev_in va vb ok h⟩
theorem t_in (ha : JE X a f1) (hb : JE X b f2) (hm : behindInMarks .In b = false := by rfl) : JT X (.Compare a [.In] [b] pos) (mT (mIn f1 f2)) := by
  obtain ⟨ta, pa, va⟩ := ha
  obtain ⟨tb, pb, vb⟩ := hb
  exact ⟨_, pt_cmpR op_in_seq pa pb hm, fun H0 σ H ρ r ok h => ev_test h fun r hr => ev_in va vb ok hr⟩
theorem x_ni (ha : JE X a f1) (hb : JE X b f2) (hm : behindInMarks .NotIn b = false := by rfl) : JE X (.Compare a [.NotIn] [b] pos) (mNi f1 f2) := by
  obtain ⟨ta, pa, va⟩ := ha
  obtain ⟨tb, pb, vb⟩ := hb
  exact ⟨_, pe_cmpR op_notIn_seq pa pb hm, fun H0 σ H ρ r ok h => ev_ni va vb ok h⟩
theorem t_ni (ha : JE X a f1) (hb : JE X b f2) (hm : behindInMarks .NotIn b = false := by rfl) : JT X (.Compare a [.NotIn] [b] pos) (mT (mNi f1 f2)) := by
  obtain ⟨ta, pa, va⟩ := ha
  obtain ⟨tb, pb, vb⟩ := hb
  exact ⟨_, pt_cmpR op_notIn_seq pa pb hm, fun H0 σ H ρ r ok h => ev_test h fun r hr => ev_ni va vb ok hr⟩
/-! ### a module's constant -/
def Gcon (K : PySem.W.Frag) (mg : Str → Option Value) (x : Str) (d : D) : Prop := ∃ v u, mg x = some u ∧ RelV v u ∧ ∀ H, Den K H v d
theorem x_gcon {x : Str} {d : D} (h : Gcon X.K X.mg x d) (hg : Gl X x := by rfl) (hdb : (x == ("__debug__" : Str)) = false := by decide) : JE X (.Name x pos) (mC d) := by
  obtain ⟨v, u, hm, r, hd⟩ := h
  exact x_glob hg hm r hd hdb
theorem gcon_int {K : PySem.W.Frag} {mg : Str → Option Value} {x : Str} {i : Int} {t : Tok} (h : mg x = some (.int i t)) : Gcon K mg x (.int i) := ⟨.int i, _, h, ⟨t, rfl⟩, fun _ => .int i⟩
inductive TupV : List Value → List V → List D → Prop
  | nil : TupV [] [] []
  | str {t : Tok} {us : List Value} {vs : List V} {ds : List D} (z : Str) : TupV us vs ds → TupV (.str z t :: us) (.str z :: vs) (.str z :: ds)
  | int {t : Tok} {us : List Value} {vs : List V} {ds : List D} (z : Int) : TupV us vs ds → TupV (.int z t :: us) (.int z :: vs) (.int z :: ds)
theorem TupV.vals : ∀ {us : List Value} {vs : List V} {ds : List D}, TupV us vs ds → Vals vs us
  | _, _, _, .nil => .nil
  | _, _, _, .str (t := t) z h => .cons ⟨t, rfl⟩ h.vals
  | _, _, _, .int (t := t) z h => .cons ⟨t, rfl⟩ h.vals
theorem TupV.den {K : PySem.W.Frag} {H : Hp} : ∀ {us : List Value} {vs : List V} {ds : List D}, TupV us vs ds → DenL K H vs ds
  | _, _, _, .nil => .nil
  | _, _, _, .str z h => .cons (.str z) h.den
  | _, _, _, .int z h => .cons (.int z) h.den
theorem den_tupK {K : PySem.W.Frag} {a : Addr} {dd : Option Addr} {us : List Value} {n : Nat} {sl : Array (Option Value)} {vs : List V} {ds : List D} (l : K.lookup a = some ⟨.type "tuple", dd, .seq us.toArray n, sl⟩) (hz : us.length ≤ 1000) (h : TupV us vs ds) (H : Hp) : Den K H (.ref a) (.tup ds) :=
  .tup (.inr ⟨_, _, _, l, rfl, rfl, by rw [List.size_toArray]; exact Nat.le_trans hz (by decide), by simpa using h.vals⟩) h.den
theorem gcon_tup {K : PySem.W.Frag} {mg : Str → Option Value} {x : Str} {a : Addr} {dd : Option Addr} {us : List Value} {n : Nat} {sl : Array (Option Value)} {vs : List V} {ds : List D} (h : mg x = some (.ref a)) (l : K.lookup a = some ⟨.type "tuple", dd, .seq us.toArray n, sl⟩) (hz : us.length ≤ 1000)
    (t : TupV us vs ds) : Gcon K mg x (.tup ds) := ⟨.ref a, _, h, rfl, den_tupK l hz t⟩
/-! ### slices of texts -/
def mSlS (f : ME) (lo hi : MO) : ME := fun ρ => (asStr (f ρ)).bind fun z => (lo ρ).bind fun l => (hi ρ).bind fun u => if szOk z.length = true then some (.dat (.str (cutS z l u))) else none
theorem x_slS {lo hi : Option Expr} {ml mh : MO} (ha : JE X a f1) (hl : JO X lo ml) (hh : JO X hi mh) {p2 : Pos} : JE X (.Subscript a (.Slice lo hi none p2) pos) (mSlS f1 ml mh) := by
  obtain ⟨ta, pa, va⟩ := ha
  obtain ⟨tl, pl, vl⟩ := hl
  obtain ⟨th, ph, vh⟩ := hh
  refine ⟨_, pe_slice sl_str pa pl ph, fun H0 σ H ρ r ok h => ?_⟩
  unfold mSlS at h
  obtain ⟨xs, hx, h⟩ := Option.bind_eq_some_iff.mp h
  obtain ⟨l, hl, h⟩ := Option.bind_eq_some_iff.mp h
  obtain ⟨u, hu, h⟩ := Option.bind_eq_some_iff.mp h
  split at h
  · rename_i hz
    cases h
    intro H1 e1 Q q
    refine (va _ _ _ _ _ ok (asStr_some hx)).str H1 e1 _ fun H2 e2 => ?_
    refine vl _ _ _ _ _ ok hl H2 (e1.trans e2) _ fun H3 e3 => ?_
    refine vh _ _ _ _ _ ok hu H3 ((e1.trans e2).trans e3) _ fun H4 e4 => ?_
    exact ⟨xs, rfl, szOk_of hz, q _ H4 ((e2.trans e3).trans e4) (.str _)⟩
  · cases h
end
end
end Tl

namespace Tl
open PySem PySem.Spec PyProof.Rows L2 Evl
noncomputable section
theorem okP_T : okP True = true := okP_t trivial
theorem okP_F : okP False = false := okP_f id
mutual
theorem eqv_refl : ∀ d : D, PyData.eqv (py d) (py d) = true
  | .non => by simp [py, PyData.eqv]
  | .bl b => by simp [py, PyData.eqv]
  | .int i => by simp [py, PyData.eqv]
  | .str x => by simp [py, PyData.eqv]
  | .tup xs => by
    simp only [py, PyData.eqv]
    exact eqvL_refl xs
theorem eqvL_refl : ∀ xs : List D, PyData.eqvAll (pyL xs) (pyL xs) = true
  | [] => by simp [pyL, PyData.eqvAll]
  | x :: xs => by
    simp only [pyL, PyData.eqvAll, eqv_refl x, eqvL_refl xs, Bool.and_self]
end
theorem eqD_refl (d : D) : eqD d d = true := eqv_refl d
/-! data of which == may be asked -/
mutual
def okD : D → Bool
  | .str x => PyData.strOk x
  | .tup xs => okDL xs
  | _ => true
def okDL : List D → Bool
  | [] => true
  | x :: xs => okD x && okDL xs
end
mutual
def dpD : D → Nat
  | .tup xs => dpDL xs + 1
  | _ => 0
def dpDL : List D → Nat
  | [] => 0
  | x :: xs => max (dpD x) (dpDL xs)
end
mutual
theorem lay_of : ∀ d : D, PyData.canLay0 (py d) = okD d
  | .non => by simp [py, PyData.canLay0, okD]
  | .bl b => by simp [py, PyData.canLay0, okD]
  | .int i => by simp [py, PyData.canLay0, okD]
  | .str x => by simp [py, PyData.canLay0, okD]
  | .tup xs => by
    simp only [py, PyData.canLay0, okD]
    exact layL_of xs
theorem layL_of : ∀ xs : List D, PyData.canLayAll0 (pyL xs) = okDL xs
  | [] => by simp [pyL, PyData.canLayAll0, okDL]
  | x :: xs => by simp only [pyL, PyData.canLayAll0, okDL, lay_of x, layL_of xs]
end
mutual
theorem dp_of : ∀ d : D, PyData.depth (py d) = dpD d
  | .non => by simp [py, PyData.depth, dpD]
  | .bl b => by simp [py, PyData.depth, dpD]
  | .int i => by simp [py, PyData.depth, dpD]
  | .str x => by simp [py, PyData.depth, dpD]
  | .tup xs => by
    simp only [py, PyData.depth, dpD]
    rw [dpL_of xs]
theorem dpL_of : ∀ xs : List D, PyData.depthAll (pyL xs) = dpDL xs
  | [] => by simp [pyL, PyData.depthAll, dpDL]
  | x :: xs => by simp only [pyL, PyData.depthAll, dpDL, dp_of x, dpL_of xs]
end
theorem shp_of {d : D} (h : okD d = true) (h2 : dpD d ≤ 64) : shp d = true := by
  unfold shp SeqAt.shaped
  rw [lay_of, dp_of, h, decide_eq_true h2]
  rfl
/-! texts -/
theorem cps_append (x y : Str) : (x ++ y).cps.toList = x.cps.toList ++ y.cps.toList := by
  show (x.cps ++ y.cps).toList = _
  simp
def okS (x : Str) : Prop := ∀ c ∈ x.cps.toList, c < 0x110000
theorem okS_iff {x : Str} : okS x ↔ PyData.strOk x = true := by
  unfold okS PyData.strOk
  rw [Array.all_eq_true_iff_forall_mem]
  simp
theorem okS_append {x y : Str} (hx : okS x) (hy : okS y) : okS (x ++ y) := by
  intro c hc
  rw [cps_append] at hc
  rcases List.mem_append.mp hc with h | h
  · exact hx c h
  · exact hy c h
theorem okS_cut {x : Str} (hx : okS x) (l u : Option Int) : okS (cutS x l u) := by
  intro c hc
  unfold cutS at hc
  have hc : c ∈ (x.cps.toList.drop (HT.sIx x.length 0 l)).take (HT.sIx x.length x.length u - HT.sIx x.length 0 l) := by simpa using hc
  exact hx c (List.mem_of_mem_drop (List.mem_of_mem_take hc))
theorem okS_one {c : Nat} (h : c < 0x110000) : okS ⟨#[c]⟩ := by
  intro d hd
  simp at hd
  omega
theorem len_append (x y : Str) : (x ++ y).length = x.length + y.length := by
  show (x.cps ++ y.cps).size = _
  rw [Array.size_append]; rfl
theorem len_cut (x : Str) (l u : Option Int) : (cutS x l u).length ≤ x.length := by
  unfold cutS
  show ((x.cps.toList.drop _).take _).toArray.size ≤ x.cps.size
  rw [List.size_toArray, List.length_take, List.length_drop, Array.length_toList]
  omega
theorem atI_ints {ns : List Int} {i : Int} (h0 : 0 ≤ i) (h1 : i < ns.length) : ∃ v, atI (ns.map D.int) i = some (.int v) := by
  obtain ⟨v, hv⟩ := atI_in h0 h1
  exact ⟨v, atI_map hv⟩
end
end Tl

namespace Tl
open PySem PySem.Spec PyProof.Rows L2 Evl
noncomputable section
/-! ### the same slots in another context -/
theorem Ok.cx {X Y : Cx} {H0 H : Hp} {σ : L2.St} {ρ : Rho} (ok : Ok X H0 σ H ρ) (hK : Y.K = X.K) (hm : Y.mg = X.mg) (hp : Y.pn = X.pn) : Ok Y H0 σ H ρ := by
  obtain ⟨B, ok⟩ := ok
  refine ⟨B, ok.e0, ok.e1, ok.len, fun i c hi => ?_, ok.inj⟩
  have z := ok.slot i c hi
  cases c with
  | un => trivial
  | dat d => unfold SlotOk; rw [hK]; exact z
  | own xs => unfold SlotOk; rw [hK]; exact z
  | bor xs => unfold SlotOk; rw [hK]; exact z
  | exc c fs =>
    unfold SlotOk ExcAt
    rw [hK, hm, hp]
    exact z
/-! ### list comprehensions -/
def wipeC (ρ : Rho) : List Nat → Rho
  | [] => ρ
  | v :: vs => (wipeC ρ vs).set v .un
theorem Ok.wipe {X : Cx} {H0 H : Hp} {σ : L2.St} {ρ : Rho} (ok : Ok X H0 σ H ρ) : ∀ vs : List Nat, Ok X H0 (L2.wipe σ vs) H (wipeC ρ vs)
  | [] => ok
  | v :: vs => (Ok.wipe ok vs).un
def lcM (g : MG) (t : MT) (f : ME) (ρ : Rho) : List D → Option (List D)
  | [] => some []
  | d :: ds => (g d ρ).bind fun ρ1 => (t ρ1).bind fun b => if b = true then (asDat (f ρ1)).bind fun y => (lcM g t f ρ ds).map fun ys => y :: ys else lcM g t f ρ ds
def mLc (mi : MI) (g : MG) (t : MT) (f : ME) (vs : List Nat) : ME := fun ρ => (mi ρ).bind fun p => if szOk (p.1.length + 1) = true then (lcM g t f (wipeC (p.2.map dropX) vs) p.1).map .new else none
def tYesM : MT := fun _ => some true
/-- targets that set the slots js and no others -/
def JGw (X : Cx) (tg : Expr) (g : MG) (js : List Nat) : Prop := ∃ t, PG X tg t ∧ ∀ H0 σ H ρ v d ρ', Ok X H0 σ H ρ → Den X.K H v d → g d ρ = some ρ' → ∀ Q : L2.St → Hp → Prop, (∀ σ', Ok X H0 σ' H ρ' → σ'.length = σ.length → (∀ k, k ∉ js → σ'[k]? = σ[k]?) → Q σ' H) → t v σ H Q
def JGsw (X : Cx) (tgs : List Expr) (g : MGs) (js : List Nat) : Prop := ∃ t, PGs X tgs t ∧ ∀ H0 σ H ρ vs ds ρ', Ok X H0 σ H ρ → DenL X.K H vs ds → g ds ρ = some ρ' → ∀ Q : L2.St → Hp → Prop, (∀ σ', Ok X H0 σ' H ρ' → σ'.length = σ.length → (∀ k, k ∉ js → σ'[k]? = σ[k]?) → Q σ' H) → t vs σ H Q
theorem wipe_get {σ : L2.St} {k : Nat} : ∀ {vs : List Nat}, k ∈ vs → k < σ.length → (L2.wipe σ vs)[k]? = some none
  | v :: vs, h, hl => by
    unfold L2.wipe
    by_cases e : v = k
    · subst e
      exact set_get (by rw [wipe_length]; exact hl)
    · rw [List.getElem?_set_ne e]
      exact wipe_get (by rcases List.mem_cons.mp h with z | z; exact absurd z.symm e; exact z) hl
theorem wipe_eq {σ σ' : L2.St} {vs : List Nat} (hl : σ'.length = σ.length) (h : ∀ k, k ∉ vs → σ'[k]? = σ[k]?) : L2.wipe σ' vs = L2.wipe σ vs := by
  apply List.ext_getElem?
  intro k
  by_cases hk : k ∈ vs
  · by_cases hk2 : k < σ.length
    · rw [wipe_get hk hk2, wipe_get hk (by omega)]
    · rw [List.getElem?_eq_none (by rw [wipe_length]; omega), List.getElem?_eq_none (by rw [wipe_length]; omega)]
  · rw [wipe_out hk, wipe_out hk]
    exact h k hk
section
variable {X : Cx} {W : WX} {a b c e : Expr} {pos p : Pos} {f1 f2 f3 : ME} {es : List Expr} {ma : MA} {tg it elt : Expr} {mi : MI} {g : MG} {t : MT}
theorem gw_nm (i : Nat) {x : Str} (hN : X.N.Nodup) (hi : X.N[i]? = some x := by rfl) (hx : Loc X.env.scope x := by first | exact Or.inl rfl | exact Or.inr rfl) (hf : X.fn x = true ∨ X.env.scope.names.lookup x = some .local := by first | exact .inl rfl | exact .inr rfl | assumption) :
    JGw X (.Name x pos) (gNm i) [i] := ⟨_, pg_name hN hi hx hf, fun H0 σ H ρ v d ρ' ok hd h Q q => by
  cases h
  exact q _ (ok.set hd) (List.length_set ..) fun k hk => List.getElem?_set_ne (fun z => hk (by simp [z]))⟩
theorem gsw_nil : JGsw X [] gNil' [] := ⟨_, pgs_nil, fun H0 σ H ρ vs ds ρ' ok hd h Q q => by
  cases hd with
  | nil => cases h; exact ⟨rfl, q _ ok rfl fun _ _ => rfl⟩
  | cons _ _ => cases h⟩
theorem gsw_cons {g : MG} {gs : MGs} {js ks : List Nat} (h1 : JGw X e g js) (h2 : JGsw X es gs ks) (hpg : ∀ t u, PG X e t → PGs X es u → PGs X (e :: es) (gCons t u) := by exact fun t u h1 h2 => pgs_cons h1 h2) : JGsw X (e :: es) (gCons' g gs) (js ++ ks) := by
  obtain ⟨t, p, v⟩ := h1
  obtain ⟨u, pu, vu⟩ := h2
  refine ⟨_, hpg _ _ p pu, fun H0 σ H ρ vs ds ρ' ok hd h Q q => ?_⟩
  cases hd with
  | nil => cases h
  | cons hd1 hd2 =>
    obtain ⟨ρ1, h1, h2⟩ := Option.bind_eq_some_iff.mp (show (g _ ρ).bind (fun ρ' => gs _ ρ') = some ρ' from h)
    refine ⟨_, _, rfl, ?_⟩
    exact v _ _ _ _ _ _ _ ok hd1 h1 _ fun σ1 ok1 l1 k1 => vu _ _ _ _ _ _ _ ok1 hd2 h2 Q fun σ2 ok2 l2 k2 => q σ2 ok2 (l2.trans l1) fun k hk => (k2 k fun z => hk (List.mem_append.mpr (.inr z))).trans (k1 k fun z => hk (List.mem_append.mpr (.inl z)))
theorem gw_tp {gs : MGs} {k : Nat} {n : Nat} {js : List Nat} (h : JGsw X es gs js) (hl : ∀ ds ρ ρ', gs ds ρ = some ρ' → ds.length = n) (hpg : ∀ t, PGs X es t → PG X (.Tuple es k pos) (gTup X.K n t) := by exact fun t h => pg_tup rfl h) : JGw X (.Tuple es k pos) (gTp gs) js := by
  obtain ⟨t, p, v⟩ := h
  refine ⟨_, hpg _ p, fun H0 σ H ρ w d ρ' ok hd h Q q => ?_⟩
  cases hd with
  | non => cases h
  | bl _ => cases h
  | int _ => cases h
  | str _ => cases h
  | tup h1 h2 => exact ⟨_, _, rfl, h1, by rw [h2.length]; exact hl _ _ _ h, v _ _ _ _ _ _ _ ok h2 h Q q⟩
/-- [elt for tg in it] and the reading of the parts in the block -/
theorem x_lcG {scope : Scope} {own : List (Str × Nat)} {js : List Nat} {ifs : List Expr} (hN : X.N.Nodup) (hc : X.calm = true) (hi : JI X tg it mi) (ok : BlkOk X.N X.env.scope scope own) (hjs : ∀ k, k ∈ js → k ∈ own.map (·.2))
    (hg : ∀ (s : Shared) (H : Hp) (C : Addr) (cl : List (Str × Addr)) (fp : List Addr), JGw (X.blk s H scope (compEnvC scope cl C X.env) fp) tg g js)
    (ht : ∀ (s : Shared) (H : Hp) (C : Addr) (cl : List (Str × Addr)) (fp : List Addr), ∃ tt, PTs (X.blk s H scope (compEnvC scope cl C X.env) fp) ifs tt ∧ ∀ H0 σ H' ρ b, Ok (X.blk s H scope (compEnvC scope cl C X.env) fp) H0 σ H' ρ → t ρ = some b → EvT tt σ H' b)
    (he : ∀ (s : Shared) (H : Hp) (C : Addr) (cl : List (Str × Addr)) (fp : List Addr), JE (X.blk s H scope (compEnvC scope cl C X.env) fp) elt f1) (hs : ∀ x, foldedSetIterable it X.env x = pure x := by intro _; rfl) :
    JE X (.ListComp elt [⟨tg, it, ifs, 0⟩] scope pos) (mLc mi g t f1 (own.map (·.2))) := by
  obtain ⟨wi, pi, vi⟩ := hi
  let Y : Cx := X.tr [] X.xe
  let gC : TG := fun v σ H Q => ∃ H0 ρ d ρ', Ok Y H0 σ H ρ ∧ Den X.K H v d ∧ g d ρ = some ρ' ∧ ∀ σ', Ok Y H0 σ' H ρ' → σ'.length = σ.length → (∀ k, k ∉ js → σ'[k]? = σ[k]?) → Q σ' H
  let tC' : TT := fun σ H Q => ∃ H0 ρ k, Ok Y H0 σ H ρ ∧ t ρ = some k ∧ ∀ H2, Ex H H2 → Q k H2
  let eC : TE := fun σ H Q => ∃ H0 ρ r, Ok Y H0 σ H ρ ∧ f1 ρ = some r ∧ ∀ v H2, Ex H H2 → Got X.K H v H2 r → Q v H2
  have pg : ∀ (s : Shared) (H : Hp) (C : Addr) (cl : List (Str × Addr)) (fp : List Addr), PG (X.blk s H scope (compEnvC scope cl C X.env) fp) tg gC := fun s H C cl fp => by
    obtain ⟨t', p', v'⟩ := hg s H C cl fp
    refine ⟨fun pins s σ H v u Q I r h => ?_⟩
    obtain ⟨H0, ρ, d, ρ', ok', hd, hgd, q⟩ := h
    exact p'.run pins s σ H v u Q I r (v' H0 σ H ρ v d ρ' (ok'.cx rfl rfl rfl) hd hgd Q fun σ' ok2 l k => q σ' (ok2.cx rfl rfl rfl) l k)
  have pt : ∀ (s : Shared) (H : Hp) (C : Addr) (cl : List (Str × Addr)) (fp : List Addr), PTs (X.blk s H scope (compEnvC scope cl C X.env) fp) ifs tC' := fun s H C cl fp => by
    obtain ⟨t', p', v'⟩ := ht s H C cl fp
    refine ⟨fun pins s σ H Q I h => ?_⟩
    obtain ⟨H0, ρ, k, ok', hk, q⟩ := h
    exact p'.run pins s σ H Q I (v' H0 σ H ρ k (ok'.cx rfl rfl rfl) hk H (Ex.refl H) Q q)
  have pe : ∀ (s : Shared) (H : Hp) (C : Addr) (cl : List (Str × Addr)) (fp : List Addr), PE (X.blk s H scope (compEnvC scope cl C X.env) fp) elt eC := fun s H C cl fp => by
    obtain ⟨t', p', v'⟩ := he s H C cl fp
    refine ⟨fun pins s σ H Q I h => ?_⟩
    obtain ⟨H0, ρ, r, ok', hr, q⟩ := h
    exact p'.run pins s σ H Q I (v' H0 σ H ρ r (ok'.cx rfl rfl rfl) hr H (Ex.refl H) Q q)
  refine ⟨_, pe_lc hc hN pi ok pg pt pe hs, fun H0 σ H ρ r ok0 h => ?_⟩
  unfold mLc at h
  obtain ⟨⟨ds, ρ'⟩, hm, h⟩ := Option.bind_eq_some_iff.mp h
  split at h
  · rename_i hz
    obtain ⟨total, htot, h⟩ := Option.map_eq_some_iff.mp h
    subst h
    intro H1 e1 Q q
    refine vi H0 σ H1 ρ ds ρ' (ok0.ex e1) hm _ fun J H2 H0' e0 ok1 e2 T => ?_
    intro D nD
    have okw : Ok Y H0' (L2.wipe σ (own.map (·.2))) H2 (wipeC (ρ'.map dropX) (own.map (·.2))) := Ok.wipe (Ok.drop (Y := Y) ok1 rfl) _
    have hz' : ds.length + 1 ≤ 100000 := okP_of hz
    refine ⟨fun i m H' => m = ds.length - i ∧ i ≤ ds.length ∧ Ex H2 H' ∧ ∃ acc done rest, H' D = some (.lst acc) ∧ DenL X.K H' acc done ∧ lcM g t f1 (wipeC (ρ'.map dropX) (own.map (·.2))) (ds.drop i) = some rest ∧ done ++ rest = total ∧ done.length ≤ i,
      ⟨ds.length, by simp, Nat.zero_le _, Ex.new nD, [], [], total, upd_same, .nil, by rw [List.drop_zero]; exact htot, rfl, Nat.le_refl _⟩, ?_⟩
    rintro i m H' ⟨rfl, hi, eH, acc, done, rest, hacc, hden, hlc, htt, hdl⟩
    by_cases hlt : i < ds.length
    · refine .inr ⟨T.go i H' (ok1.base.trans eH) hlt, fun H'' => i + 1 ≤ ds.length ∧ Ex H2 H'' ∧ ∃ acc done rest, H'' D = some (.lst acc) ∧ DenL X.K H'' acc done ∧ lcM g t f1 (wipeC (ρ'.map dropX) (own.map (·.2))) (ds.drop (i + 1)) = some rest ∧ done ++ rest = total ∧ done.length ≤ i + 1,
        fun H'' hN => ⟨ds.length - (i + 1), by omega, rfl, hN⟩, fun x H'' y => ?_⟩
      obtain ⟨e3, d, hd, hdn⟩ := T.yld i H' x H'' (ok1.base.trans eH) hlt y
      have hdrop : ds.drop i = d :: ds.drop (i + 1) := by
        rw [List.drop_eq_getElem_cons hlt]
        congr 1
        rw [List.getElem?_eq_getElem hlt] at hd
        exact Option.some.inj hd
      rw [hdrop] at hlc
      unfold lcM at hlc
      obtain ⟨ρ2, hg2, hlc⟩ := Option.bind_eq_some_iff.mp hlc
      obtain ⟨k, hk, hlc⟩ := Option.bind_eq_some_iff.mp hlc
      refine ⟨H0', _, d, ρ2, okw.ex (eH.trans e3), hdn, hg2, fun σ2 ok2 l2 k2 => ?_⟩
      refine ⟨wipe_eq (σ := L2.wipe σ (own.map (·.2))) l2 (fun z hz => k2 z fun hjz => hz (hjs z hjz)) |>.trans ?_, ?_⟩
      · apply List.ext_getElem?
        intro z
        by_cases hk : z ∈ own.map (·.2)
        · by_cases hk2 : z < σ.length
          · rw [wipe_get hk (by rw [wipe_length]; exact hk2), wipe_get hk hk2]
          · rw [List.getElem?_eq_none (by rw [wipe_length, wipe_length]; omega), List.getElem?_eq_none (by rw [wipe_length]; omega)]
        · rw [wipe_out hk]
      · refine ⟨H0', ρ2, k, ok2, hk, fun H3 e4 => ?_⟩
        cases k with
        | false =>
          show _
          exact ⟨by omega, (eH.trans e3).trans e4, acc, done, rest, e4 _ _ (e3 _ _ hacc), (hden.ex e3).ex e4, hlc, htt, by omega⟩
        | true =>
          have hlc' : ((asDat (f1 ρ2)).bind fun y => (lcM g t f1 (wipeC (ρ'.map dropX) (own.map (·.2))) (ds.drop (i + 1))).map fun ys => y :: ys) = some rest := hlc
          obtain ⟨yd, hyd, hlc'⟩ := Option.bind_eq_some_iff.mp hlc'
          obtain ⟨ys, hys, hlc'⟩ := Option.map_eq_some_iff.mp hlc'
          subst hlc'
          refine ⟨H0', ρ2, _, ok2.ex e4, asDat_some hyd, fun v H4 e5 gv => ?_⟩
          have ea : H4 D = some (.lst acc) := e5 _ _ (e4 _ _ (e3 _ _ hacc))
          have te : TEx X.K H4 (upd H4 D (.lst (acc ++ [v]))) := TEx.mut ea
          refine ⟨acc, ea, ?_, by omega, ?_, acc ++ [v], done ++ [yd], ys, upd_same, ((((hden.ex e3).ex e4).ex e5).append (.cons gv .nil)).imp te, hys, ?_, ?_⟩
          · rw [hden.length]
            exact sz_lt (by omega)
          · intro z o hz
            rw [upd_ne (ne_of_none hz nD)]
            exact ((eH.trans e3).trans e4).trans e5 z o hz
          · rw [List.append_assoc]
            exact htt
          · rw [List.length_append]
            show done.length + 1 ≤ i + 1
            omega
    · have e : i = ds.length := by omega
      subst e
      rw [List.drop_length] at hlc
      cases hlc
      rw [List.append_nil] at htt
      subst htt
      exact .inl ⟨T.stop _ H' (ok1.base.trans eH) (Nat.le_refl _), q _ H' (e2.trans eH) ⟨D, acc, rfl, fresh_back e2 nD, hacc, hden⟩⟩
  · cases h
theorem x_lc {scope : Scope} {own : List (Str × Nat)} {js : List Nat} (hN : X.N.Nodup) (hc : X.calm = true) (hi : JI X tg it mi) (ok : BlkOk X.N X.env.scope scope own) (hjs : ∀ k, k ∈ js → k ∈ own.map (·.2))
    (hg : ∀ (s : Shared) (H : Hp) (C : Addr) (cl : List (Str × Addr)) (fp : List Addr), JGw (X.blk s H scope (compEnvC scope cl C X.env) fp) tg g js)
    (he : ∀ (s : Shared) (H : Hp) (C : Addr) (cl : List (Str × Addr)) (fp : List Addr), JE (X.blk s H scope (compEnvC scope cl C X.env) fp) elt f1) (hs : ∀ x, foldedSetIterable it X.env x = pure x := by intro _; rfl) :
    JE X (.ListComp elt [⟨tg, it, [], 0⟩] scope pos) (mLc mi g tYesM f1 (own.map (·.2))) :=
  x_lcG hN hc hi ok hjs hg (fun s H C cl fp => ⟨_, pts_nil, fun H0 σ H' ρ b ok h => by cases h; exact fun H1 _ Q q => q H1 (Ex.refl H1)⟩) he hs
theorem x_lcIf {scope : Scope} {own : List (Str × Nat)} {js : List Nat} (hN : X.N.Nodup) (hc : X.calm = true) (hi : JI X tg it mi) (ok : BlkOk X.N X.env.scope scope own) (hjs : ∀ k, k ∈ js → k ∈ own.map (·.2))
    (hg : ∀ (s : Shared) (H : Hp) (C : Addr) (cl : List (Str × Addr)) (fp : List Addr), JGw (X.blk s H scope (compEnvC scope cl C X.env) fp) tg g js)
    (ht : ∀ (s : Shared) (H : Hp) (C : Addr) (cl : List (Str × Addr)) (fp : List Addr), JT (X.blk s H scope (compEnvC scope cl C X.env) fp) c t)
    (he : ∀ (s : Shared) (H : Hp) (C : Addr) (cl : List (Str × Addr)) (fp : List Addr), JE (X.blk s H scope (compEnvC scope cl C X.env) fp) elt f1) (hs : ∀ x, foldedSetIterable it X.env x = pure x := by intro _; rfl) :
    JE X (.ListComp elt [⟨tg, it, [c], 0⟩] scope pos) (mLc mi g t f1 (own.map (·.2))) :=
  x_lcG hN hc hi ok hjs hg (fun s H C cl fp => by
    obtain ⟨tt, p, v⟩ := ht s H C cl fp
    exact ⟨tt, pts_one p, v⟩) he hs
/-! ### tuple(list), all(list) -/
def mTupOf (f : ME) : ME := fun ρ => (asLst (f ρ)).map fun xs => .dat (.tup xs)
theorem x_tupOf {p : Pos} (hm : X.mg "tuple" = none) (ha : JE X a f1) (hg : Gl X "tuple" := by rfl) (hs : starEach (a :: []) X.env = (false, eval a X.env) :: starEach [] X.env := by rfl) : JE X (.Call (.Name "tuple" p) [a] [] pos) (mTupOf f1) := by
  obtain ⟨ta, pa, va⟩ := ha
  refine ⟨_, pe_callTy call_tuple_of hg hm PyProof.Rows.boot_tuple (pa_cons pa pa_nil hs) (he := hs), fun H0 σ H ρ r ok h => ?_⟩
  unfold mTupOf at h
  obtain ⟨xs, hx, h⟩ := Option.map_eq_some_iff.mp h
  subst h
  intro H1 e1 Q q
  refine ev_lst hx (fun r hr => va _ _ _ _ _ ok hr) H1 e1 _ fun v H2 e2 ⟨p, vs, hv, hl, hdn⟩ => ?_
  subst hv
  exact ⟨p, vs, rfl, .inl ⟨hl, fun l nl => q _ _ (e2.trans (Ex.new nl)) (.tup (st_of upd_same) (hdn.ex (Ex.new nl)))⟩⟩
def blsOf : List D → Option (List Bool)
  | [] => some []
  | .bl b :: r => (blsOf r).map fun bs => b :: bs
  | _ => none
theorem blsOf_eq : ∀ {ds : List D} {bs : List Bool}, blsOf ds = some bs → ds = bs.map D.bl
  | [], _, h => by cases h; rfl
  | .bl b :: r, _, h => by
    obtain ⟨c, hc, h⟩ := Option.map_eq_some_iff.mp (show (blsOf r).map (fun bs => b :: bs) = _ from h)
    subst h
    rw [blsOf_eq hc]
    rfl
  | .non :: _, _, h => by cases h
  | .int _ :: _, _, h => by cases h
  | .str _ :: _, _, h => by cases h
  | .tup _ :: _, _, h => by cases h
def mAll (f : ME) : ME := fun ρ => ((asLst (f ρ)).bind blsOf).map fun bs => .dat (.bl (bs.all id))
theorem x_all {p : Pos} (hc : X.calm = true) (hm : X.mg "all" = none) (ha : JE X a f1) (hg : Gl X "all" := by rfl) (hs : starEach (a :: []) X.env = (false, eval a X.env) :: starEach [] X.env := by rfl) : JE X (.Call (.Name "all" p) [a] [] pos) (mAll f1) := by
  obtain ⟨ta, pa, va⟩ := ha
  refine ⟨_, pe_callB (cr_all hc) hg hm (by decide +kernel) (pa_cons pa pa_nil hs) (he := hs), fun H0 σ H ρ r ok h => ?_⟩
  unfold mAll at h
  obtain ⟨bs, hb, h⟩ := Option.map_eq_some_iff.mp h
  obtain ⟨xs, hx, hb⟩ := Option.bind_eq_some_iff.mp hb
  subst h
  have e := blsOf_eq hb
  subst e
  intro H1 e1 Q q
  refine ev_lst hx (fun r hr => va _ _ _ _ _ ok hr) H1 e1 _ fun v H2 e2 ⟨p, vs, hv, hl, hdn⟩ => ?_
  subst hv
  have e3 := hdn.bls
  subst e3
  exact ⟨p, bs, rfl, hl, q _ H2 e2 (.bl _)⟩
/-! ### two lists side by side, a list from behind -/
def JL (X : Cx) (e : Expr) (m : MI) : Prop := ∃ te, PE X e te ∧ ∀ H0 σ H ρ ds ρ', Ok X H0 σ H ρ → m ρ = some (ds, ρ') → ∀ H1, Ex H H1 → ∀ Q : VK,
  (∀ p vs H2 H0', Ex H1 H2 → Ex H0 H0' → Ok X H0' σ H2 ρ' → SqL X.K H0' p vs → DenL X.K H0' vs ds → Q (.ref p) H2) → te σ H1 Q
theorem l_v (i : Nat) {x : Str} {pos : Pos} (hN : X.N[i]? = some x := by rfl) (hv : Vis X.env.scope x := by first | exact Or.inl rfl | exact Or.inr (Or.inl rfl) | exact Or.inr (Or.inr rfl)) (hd : (x == ("__debug__" : Str)) = false := by decide)
    (hcd : (x == ("__classdict__" : Str)) = false := by decide) : JL X (.Name x pos) (iV i) := by
  refine ⟨_, pe_var hN hv hd hcd, fun H0 σ H ρ ds ρ' ok h H1 e1 Q k => ?_⟩
  obtain ⟨H0', p, vs, e0, ok', _, s, l, g⟩ := frz_ok (ok.ex e1) h
  exact ⟨_, s, k p vs H1 H0' (Ex.refl _) e0 ok' l g⟩
theorem l_n (ha : JE X a f1) : JL X a (iN f1) := by
  obtain ⟨ta, pa, va⟩ := ha
  refine ⟨_, pa, fun H0 σ H ρ ds ρ' ok h H1 e1 Q k => ?_⟩
  unfold iN at h
  split at h
  · rename_i xs hx
    cases h
    refine va _ _ _ _ _ ok hx H1 e1 _ fun v H2 e2 ⟨p, vs, hv, n, l, gd⟩ => ?_
    subst hv
    obtain ⟨B, okb⟩ := ok.ex e1
    have no := okb.fresh n
    have ok2 : Ok X H0 σ H2 ρ := (ok.ex e1).ex e2
    obtain ⟨B2, okb2⟩ := ok2
    refine k p vs H2 _ e2 (okb2.e0.trans okb2.hid) okb2.pin (sq_of ?_) (gd.imp okb2.tex)
    rw [hidO_no no]
    exact l
  · cases h
def zipD (xs ys : List D) : List D := List.zipWith (fun x y => .tup [x, y]) xs ys
def iZ (m1 m2 : MI) : MI := fun ρ => (m1 ρ).bind fun p => (m2 p.2).map fun q => (zipD p.1 q.1, q.2)
theorem itd_zip {K : PySem.W.Frag} {H0 : Hp} {p q : Addr} {vs ws : List V} {xs ys : List D} (hl : SqL K H0 p vs) (hd : DenL K H0 vs xs) (hl2 : SqL K H0 q ws) (hd2 : DenL K H0 ws ys) : ItD K H0 (Itz K p q) (zipD xs ys) where
  go := fun i H e h => by
    unfold zipD at h
    rw [List.length_zipWith] at h
    obtain ⟨v, h1, _⟩ := hd.get (List.getElem?_eq_getElem (show i < xs.length by omega))
    obtain ⟨w, h2, _⟩ := hd2.get (List.getElem?_eq_getElem (show i < ys.length by omega))
    exact ⟨vs, ws, v, w, ex_l e hl, ex_l e hl2, h1, h2⟩
  yld := fun i H x H' e h hy => by
    obtain ⟨T, v, w, rfl, nT, rfl, f1, f2⟩ := hy
    obtain ⟨d1, g1, k1⟩ := hd.getV (f1 vs (ex_l e hl))
    obtain ⟨d2, g2, k2⟩ := hd2.getV (f2 ws (ex_l e hl2))
    refine ⟨Ex.new nT, .tup [d1, d2], ?_, .tup (st_of upd_same) (.cons (Den.ex k1 (e.trans (Ex.new nT))) (.cons (Den.ex k2 (e.trans (Ex.new nT))) .nil))⟩
    unfold zipD
    rw [List.getElem?_zipWith, g1, g2]
  stop := fun i H e h => by
    unfold zipD at h
    rw [List.length_zipWith] at h
    refine ⟨vs, ws, ex_l e hl, ex_l e hl2, ?_⟩
    rw [hd.length, hd2.length]
    omega
theorem i_zip {m1 m2 : MI} {elts : List Expr} {kk : Nat} {tpos : Pos} {p : Pos} (hm : X.mg "zip" = none) (h1 : JL X a m1) (h2 : JL X b m2) (hg : Gl X "zip" := by rfl)
    (hs : starEach [a, b] X.env = (false, eval a X.env) :: starEach [b] X.env := by rfl) (hs2 : starEach (b :: []) X.env = (false, eval b X.env) :: starEach [] X.env := by rfl) (hpl : (backTo pos (starEach [b] X.env)).any (·.1) = false := by rfl) :
    JI X (.Tuple elts kk tpos) (.Call (.Name "zip" p) [a, b] [] pos) (iZ m1 m2) := by
  obtain ⟨ta, pa, va⟩ := h1
  obtain ⟨tb, pb, vb⟩ := h2
  refine ⟨_, pi_zip hg hm (pa_cons pa (pa_cons pb pa_nil hs2) hs) hs hpl, fun H0 σ H ρ ds ρ' ok h R' k => ?_⟩
  unfold iZ at h
  obtain ⟨⟨xs, ρ1⟩, hm1, h⟩ := Option.bind_eq_some_iff.mp h
  obtain ⟨⟨ys, ρ2⟩, hm2, h⟩ := Option.map_eq_some_iff.mp h
  cases h
  refine va H0 σ H ρ xs ρ1 ok hm1 H (Ex.refl H) _ fun p vs H2 H0' e2 e0 ok1 l1 g1 => ?_
  refine vb H0' σ H2 ρ1 ys ρ2 ok1 hm2 H2 (Ex.refl H2) _ fun q ws H3 H0'' e3 e0' ok2 l2 g2 => ?_
  exact ⟨p, q, vs, ws, rfl, ex_l (e0'.trans ok2.base) l1, ex_l ok2.base l2, k _ H3 H0'' (e0.trans e0') ok2 (e2.trans e3) (itd_zip (ex_l e0' l1) (g1.ex e0') l2 g2)⟩
def iRv (m : MI) : MI := fun ρ => (m ρ).map fun p => (p.1.reverse, p.2)
theorem itd_rev {K : PySem.W.Frag} {H0 : Hp} {p : Addr} {vs : List V} {ds : List D} (hl : SqL K H0 p vs) (hd : DenL K H0 vs ds) : ItD K H0 (Itv K p vs.length) ds.reverse where
  go := fun i H e h => by
    rw [List.length_reverse] at h
    obtain ⟨v, h1, _⟩ := hd.get (List.getElem?_eq_getElem (show vs.length - 1 - i < ds.length by rw [hd.length]; omega))
    exact ⟨by rw [hd.length]; exact h, vs, v, ex_l e hl, h1⟩
  yld := fun i H x H' e h ⟨e1, e2⟩ => by
    subst e1
    rw [List.length_reverse] at h
    obtain ⟨d, h1, h2⟩ := hd.getV (e2 vs (ex_l e hl))
    refine ⟨Ex.refl _, d, ?_, h2.ex e⟩
    rw [List.getElem?_reverse h, ← hd.length]
    exact h1
  stop := fun i H e h => by rw [List.length_reverse, ← hd.length] at h; exact h
theorem i_rev {m : MI} {p : Pos} (hm : X.mg "reversed" = none) (h1 : JL X a m) (hg : Gl X "reversed" := by rfl) (hs : starEach [a] X.env = [(false, eval a X.env)] := by rfl) : JI X tg (.Call (.Name "reversed" p) [a] [] pos) (iRv m) := by
  obtain ⟨ta, pa, va⟩ := h1
  refine ⟨_, pi_reversed hg hm (pa_cons pa pa_nil hs) hs, fun H0 σ H ρ ds ρ' ok h R' k => ?_⟩
  unfold iRv at h
  obtain ⟨⟨xs, ρ1⟩, hm1, h⟩ := Option.map_eq_some_iff.mp h
  cases h
  refine va H0 σ H ρ xs ρ1 ok hm1 H (Ex.refl H) _ fun p vs H2 H0' e2 e0 ok1 l1 g1 => ?_
  exact ⟨p, vs, rfl, ex_l ok1.base l1, k _ H2 H0' e0 ok1 e2 (itd_rev l1 g1)⟩
/-! range(0, n, 2) -/
def rngC (lo c : Int) (n : Nat) : List D := (List.range n).map fun i => .int (lo + (i : Nat) * c)
theorem rngC_get {lo c : Int} {n i : Nat} (h : i < n) : (rngC lo c n)[i]? = some (.int (lo + (i : Nat) * c)) := by
  unfold rngC
  rw [List.getElem?_map, List.getElem?_range h]
  rfl
theorem rngC_len {lo c : Int} {n : Nat} : (rngC lo c n).length = n := by
  unfold rngC
  rw [List.length_map, List.length_range]
theorem itd_rangeC {K : PySem.W.Frag} {H0 : Hp} {lo c : Int} {n : Nat} : ItD K H0 (Itc lo c n) (rngC lo c n) where
  go := fun i H _ h => by rw [rngC_len] at h; exact h
  yld := fun i H x H' _ h ⟨e1, e2⟩ => by
    rw [rngC_len] at h
    subst e1 e2
    exact ⟨Ex.refl _, _, rngC_get h, .int _⟩
  stop := fun i H _ h => by rw [rngC_len] at h; exact h
/-- range(lo, hi, c) with the count told -/
def iR3 (f g h : ME) : MI := fun ρ => (asInt (f ρ)).bind fun i => (asInt (g ρ)).bind fun j => (asInt (h ρ)).bind fun c =>
  if okP (c ≠ 0 ∧ c.natAbs < 1073741824 ∧ Builtin.Range.small i j c = true) = true then some (rngC i c (Builtin.Range.rangeSize i j c).toNat, ρ) else none
end
end
end Tl

namespace Tl
open PySem PySem.Spec PyProof.Rows L2 Evl
noncomputable section
theorem fits_small {a : Int} (h0 : -1000000 ≤ a) (h1 : a ≤ 1000000) : Builtin.Range.rangeFitsLong a = true := by
  unfold Builtin.Range.rangeFitsLong
  simp
  omega
theorem size3 {i j c : Int} (h0 : 0 ≤ i) (h1 : i ≤ 100000) (h2 : 0 ≤ j) (h3 : j ≤ 100000) (h4 : 1 ≤ c) (h5 : c ≤ 1000) : 0 ≤ Builtin.Range.rangeSize i j c ∧ Builtin.Range.rangeSize i j c ≤ 100001 := by
  unfold Builtin.Range.rangeSize
  rw [if_pos (show c > 0 by omega)]
  split
  · have a1 : 0 ≤ (j - i - 1) / c := Int.ediv_nonneg (by omega) (by omega)
    have a2 : (j - i - 1) / c ≤ j - i - 1 := Int.ediv_le_self _ (by omega)
    omega
  · omega
theorem small3 {i j c : Int} (h0 : 0 ≤ i) (h1 : i ≤ 100000) (h2 : 0 ≤ j) (h3 : j ≤ 100000) (h4 : 1 ≤ c) (h5 : c ≤ 1000) : Builtin.Range.small i j c = true := by
  obtain ⟨s1, s2⟩ := size3 h0 h1 h2 h3 h4 h5
  have m1 : Builtin.Range.rangeSize i j c * c ≤ 100001 * 1000 := Int.le_trans (Int.mul_le_mul_of_nonneg_right s2 (by omega)) (Int.mul_le_mul_of_nonneg_left h5 (by omega))
  have m0 : 0 ≤ Builtin.Range.rangeSize i j c * c := Int.mul_nonneg s1 (by omega)
  have m2 : c * Builtin.Range.rangeSize i j c = Builtin.Range.rangeSize i j c * c := Int.mul_comm _ _
  unfold Builtin.Range.small
  generalize Builtin.Range.rangeSize i j c = n at *
  generalize hn : n * c = q at *
  simp only [Builtin.Range.rangeFitsLong, Bool.and_eq_true, Bool.or_eq_true, decide_eq_true_eq, beq_iff_eq, show c > 0 by omega, if_true, m2]
  omega
/-- range(lo, hi, c) of small numbers -/
def cnt3 (i j c : Int) : Nat := (Builtin.Range.rangeSize i j c).toNat
def okR3 (i j c : Int) : Bool := okP (0 ≤ i ∧ i ≤ 100000 ∧ 0 ≤ j ∧ j ≤ 100000 ∧ 1 ≤ c ∧ c ≤ 1000)
def iR3' (f g h : ME) : MI := fun ρ => (asInt (f ρ)).bind fun i => (asInt (g ρ)).bind fun j => (asInt (h ρ)).bind fun c => if okR3 i j c = true then some (rngC i c (cnt3 i j c), ρ) else none
section
variable {X : Cx} {W : WX} {a b c e : Expr} {pos p : Pos} {f1 f2 f3 : ME} {es : List Expr} {ma : MA} {tg it elt : Expr}
theorem i_r3 {p : Pos} (hm : X.mg "range" = none) (ha : JE X a f1) (hb : JE X b f2) (hc : JE X c f3) (hg : Gl X "range" := by rfl) (hs : starEach [a, b, c] X.env = (false, eval a X.env) :: starEach [b, c] X.env := by rfl)
    (hs2 : starEach (b :: [c]) X.env = (false, eval b X.env) :: starEach [c] X.env := by rfl) (hs3 : starEach (c :: []) X.env = (false, eval c X.env) :: starEach [] X.env := by rfl) (hpl : (backTo pos (starEach [b, c] X.env)).any (·.1) = false := by rfl) :
    JI X tg (.Call (.Name "range" p) [a, b, c] [] pos) (iR3' f1 f2 f3) := by
  obtain ⟨ta, pa, va⟩ := ha
  obtain ⟨tb, pb, vb⟩ := hb
  obtain ⟨tc, pc, vc⟩ := hc
  refine ⟨_, pi_range3 hg hm (pa_cons pa (pa_cons pb (pa_cons pc pa_nil hs3) hs2) hs) hs hpl, fun H0 σ H ρ ds ρ' ok h R' k => ?_⟩
  unfold iR3' at h
  obtain ⟨i, hi, h⟩ := Option.bind_eq_some_iff.mp h
  obtain ⟨j, hj, h⟩ := Option.bind_eq_some_iff.mp h
  obtain ⟨d, hd, h⟩ := Option.bind_eq_some_iff.mp h
  split at h
  · rename_i hz
    cases h
    obtain ⟨h0, h1, h2, h3, h4, h5⟩ := okP_of hz
    refine (va _ _ _ _ _ ok (asInt_some hi)).int H (Ex.refl H) _ fun H1 e1 => ?_
    refine (vb _ _ _ _ _ ok (asInt_some hj)).int H1 e1 _ fun H2 e2 => ?_
    refine (vc _ _ _ _ _ ok (asInt_some hd)).int H2 (e1.trans e2) _ fun H3 e3 => ?_
    have e123 := (e1.trans e2).trans e3
    refine ⟨i, j, d, cnt3 i j d, rfl, ⟨by omega, by omega, small3 h0 h1 h2 h3 h4 h5, ?_⟩, k _ H3 H0 (Ex.refl _) (ok.ex e123) e123 itd_rangeC⟩
    unfold cnt3
    rw [Int.toNat_of_nonneg (size3 h0 h1 h2 h3 h4 h5).1]
  · cases h
/-! ### xs.insert(i, e) -/
def mIns (i : Nat) (fi fv : ME) : MS := fun ρ => match ρ[i]? with
  | some (.own xs) => (asInt (fi ρ)).bind fun k => (asDat (fv ρ)).bind fun d => if (szOk (xs.length + 1) && okP (0 ≤ k ∧ k ≤ 100000)) = true then some (.nx (ρ.set i (.own (xs.take k.toNat ++ [d] ++ xs.drop k.toNat)))) else none
  | _ => none
theorem s_ins (i : Nat) {x : Str} {p1 p2 p3 : Pos} {ei ev : Expr} {fi fv : ME} (hi : JE X ei fi) (he : JE X ev fv) (hN : X.N[i]? = some x := by rfl) (hv : Vis X.env.scope x := by first | exact Or.inl rfl | exact Or.inr (Or.inl rfl) | exact Or.inr (Or.inr rfl)) (hd : (x == ("__debug__" : Str)) = false := by decide)
    (hcd : (x == ("__classdict__" : Str)) = false := by decide) (hst : starEach (ei :: [ev]) X.env = (false, eval ei X.env) :: starEach [ev] X.env := by rfl) (hst2 : starEach (ev :: []) X.env = (false, eval ev X.env) :: starEach [] X.env := by rfl)
    (hs : swapsWith (.Call (.Attribute (.Name x p1) "insert" p2) [ei, ev] [] p3) none pos.line X.env = pure false := by rfl)
    (hpe : ∀ to ta, PE X (.Name x p1) to → PA X [ei, ev] ta → PE X (.Call (.Attribute (.Name x p1) "insert" p2) [ei, ev] [] p3) (tBM X.K "list" (fun x vs H Q => ∃ (l : Addr) (xs : List V) (i : Int) (y : V), x = .ref l ∧ vs = [.int i, y] ∧ H l = some (.lst xs) ∧ xs.length < sizeLine ∧ 0 ≤ i ∧ i < 2 ^ 63 ∧
      Q .non (upd H l (.lst (xs.take i.toNat ++ [y] ++ xs.drop i.toNat)))) to ta) := by exact fun _ _ h1 h2 => pe_bm PySem.F.plainAttrs_list PySem.F.slot_list_insert PySem.F.type_list_insert mt_insert h1 h2) :
    JS X W (.Expr (.Call (.Attribute (.Name x p1) "insert" p2) [ei, ev] [] p3) pos) (mIns i fi fv) := by
  obtain ⟨ti, pi, vi⟩ := hi
  obtain ⟨te, pe, ve⟩ := he
  refine ⟨_, ps_expr (hpe _ _ (pe_var hN hv hd hcd) (pa_cons pi (pa_cons pe pa_nil hst2) hst)) hs, fun H0 D σ H ρ fl ok h q => ?_⟩
  unfold mIns at h
  split at h
  · rename_i xs hx
    obtain ⟨k, hk, h⟩ := Option.bind_eq_some_iff.mp h
    obtain ⟨d, hd', h⟩ := Option.bind_eq_some_iff.mp h
    split at h
    · rename_i hz
      rw [Bool.and_eq_true] at hz
      have hz2 := okP_of hz.2
      cases h
      obtain ⟨l, vs, s, hl', g⟩ := ok.own hx
      refine ⟨_, s, .inl ⟨rfl, _, sq_of hl'⟩, ?_⟩
      refine (vi _ _ _ _ _ ok (asInt_some hk)).int H (Ex.refl H) _ fun H1 e1 => ?_
      refine ve _ _ _ _ _ ok (asDat_some hd') H1 e1 _ fun w H2 e2 gw => ?_
      have e12 := e1.trans e2
      have g2 := g.ex e12
      refine ⟨l, vs, k, w, rfl, rfl, e12 _ _ hl', ?_, hz2.1, by omega, q _ _ ((ok.ex e12).mut hx s (e12 _ _ hl') (((g2.take _).append (.cons gw .nil)).append (g2.drop _)))⟩
      have z : xs.length + 1 ≤ 100000 := okP_of hz.1
      rw [g.length]
      exact sz_lt (by omega)
    · cases h
  · cases h
/-! ### an item of a written dict -/
def Dcon (K : PySem.W.Frag) (w : World) (mg : Str → Option Value) (x : Str) (tb : List (Str × D)) : Prop := ∃ a, mg x = some (.ref a) ∧ ∀ k d, tb.lookup k = some d → ∃ v, KDct K w a k v ∧ ∀ H, Den K H v d
def mDix (tb : List (Str × D)) (f : ME) : ME := fun ρ => (asStr (f ρ)).bind fun k => (tb.lookup k).map .dat
theorem x_dix {x : Str} {tb : List (Str × D)} (h : Dcon X.K X.w X.mg x tb) (hb : JE X b f1) (hg : Gl X x := by rfl) (hdb : (x == ("__debug__" : Str)) = false := by decide) (hs : PlainIx b := by exact fun _ _ => rfl) : JE X (.Subscript (.Name x p) b pos) (mDix tb f1) := by
  obtain ⟨a, hm, ht⟩ := h
  obtain ⟨tb', pb, vb⟩ := hb
  refine ⟨_, pe_ix ix_kdict (pe_glob (v := .ref a) hg hm rfl hdb) pb hs, fun H0 σ H ρ r ok h => ?_⟩
  unfold mDix at h
  obtain ⟨k, hk, h⟩ := Option.bind_eq_some_iff.mp h
  obtain ⟨d, hd, h⟩ := Option.map_eq_some_iff.mp h
  subst h
  intro H1 e1 Q q
  refine (vb _ _ _ _ _ ok (asStr_some hk)).str H1 e1 _ fun H2 e2 => ?_
  obtain ⟨v, kd, hv⟩ := ht k d hd
  exact ⟨a, k, v, rfl, rfl, kd, q v H2 e2 (hv H2)⟩
theorem dcon_nil {K : PySem.W.Frag} {w : World} {mg : Str → Option Value} {x : Str} {a : Addr} (h : mg x = some (.ref a)) : Dcon K w mg x [] := ⟨a, h, fun _ _ z => by cases z⟩
theorem dcon_cons {K : PySem.W.Frag} {w : World} {mg : Str → Option Value} {x : Str} {tb : List (Str × D)} {a : Addr} {es : Array DictEntry} {n : Nat} {u : Value} {v : V} {k : Str} {d : D} (hx : mg x = some (.ref a)) (h : Dcon K w mg x tb) (hl : K.lookup a = some ⟨.type "dict", none, .dict es n, #[]⟩) (hk : PySem.W.KeysLit w.params es.toList)
    (e : PySem.W.nsIn K a k = some (some u)) (r : RelV v u) (hd : ∀ H, Den K H v d) : Dcon K w mg x ((k, d) :: tb) := by
  obtain ⟨a', h1, h2⟩ := h
  rw [hx] at h1
  cases h1
  refine ⟨a, hx, fun k' d' hd' => ?_⟩
  rw [List.lookup_cons] at hd'
  cases q : (k' == k) with
  | true =>
    rw [q] at hd'
    cases hd'
    have ek : k' = k := beq_iff_eq.mp q
    subst ek
    exact ⟨v, ⟨es, n, u, hl, hk, e, r⟩, hd⟩
  | false =>
    rw [q] at hd'
    exact h2 k' d' hd'
end
end
end Tl

namespace Tl
open PySem PySem.Spec PyProof.Rows L2 Evl
noncomputable section
/-! ### figures, halves, places: plain lists -/
def figs : Nat → Int → List Int
  | 0, _ => []
  | n + 1, x => x % 10 :: figs n (x / 10)
theorem figs_len : ∀ (n : Nat) (x : Int), (figs n x).length = n
  | 0, _ => rfl
  | n + 1, x => congrArg (· + 1) (figs_len n (x / 10))
theorem figs_bd : ∀ (n : Nat) (x d : Int), d ∈ figs n x → 0 ≤ d ∧ d < 10
  | 0, _, _, h => by cases h
  | n + 1, x, d, h => by
    rcases List.mem_cons.mp h with e | h
    · subst e; omega
    · exact figs_bd n _ d h
theorem figs_snoc : ∀ (n : Nat) (x : Int), figs (n + 1) x = figs n x ++ [x / 10 ^ n % 10]
  | 0, x => by simp [figs]
  | n + 1, x => by
    have ih := figs_snoc n (x / 10)
    rw [figs, ih]
    show x % 10 :: (figs n (x / 10) ++ _) = (x % 10 :: figs n (x / 10)) ++ _
    rw [List.cons_append]
    congr 3
    rw [Int.pow_succ, Int.mul_comm, Int.ediv_ediv_of_nonneg (by decide)]
def pairs : List Int → List Int
  | a :: b :: t => (16 * a + b) :: pairs t
  | _ => []
theorem pairs_len : ∀ hs : List Int, (pairs hs).length = hs.length / 2
  | [] => rfl
  | [_] => by simp [pairs]
  | a :: b :: t => by
    show (pairs t).length + 1 = (t.length + 2) / 2
    rw [pairs_len t]; omega
theorem pairs_bd : ∀ hs : List Int, (∀ h ∈ hs, 0 ≤ h ∧ h < 16) → ∀ b ∈ pairs hs, 0 ≤ b ∧ b < 256
  | [], _, _, h => by cases h
  | [_], _, _, h => by cases h
  | x :: y :: t, hb, b, h => by
    rcases List.mem_cons.mp h with e | h
    · have h1 := hb x (by simp)
      have h2 := hb y (by simp)
      subst e; omega
    · exact pairs_bd t (fun z hz => hb z (by simp [hz])) b h
theorem pairs_range : ∀ hs : List Int, pairs hs = (List.range (hs.length / 2)).map fun k => 16 * hs.getD (2 * k) 0 + hs.getD (2 * k + 1) 0
  | [] => rfl
  | [_] => by simp [pairs]
  | x :: y :: t => by
    have e : (x :: y :: t).length / 2 = t.length / 2 + 1 := by simp only [List.length_cons]; omega
    rw [e, List.range_succ_eq_map, List.map_cons, List.map_map]
    show (16 * x + y) :: pairs t = _
    rw [pairs_range t]
    congr 1
theorem pairs_flat (z : Int) : ∀ ds : List Int, pairs (ds.flatMap fun d => [z, d]) = ds.map fun d => 16 * z + d
  | [] => rfl
  | d :: ds => by
    show (16 * z + d) :: pairs (ds.flatMap fun d => [z, d]) = _
    rw [pairs_flat z ds]; rfl
theorem pairs_app (z : Int) (t : List Int) : ∀ ds : List Int, pairs ((ds.flatMap fun d => [z, d]) ++ t) = (ds.map fun d => 16 * z + d) ++ pairs t
  | [] => rfl
  | d :: ds => by
    show (16 * z + d) :: pairs ((ds.flatMap fun d => [z, d]) ++ t) = _
    rw [pairs_app z t ds]; rfl
/-- what a shape has at a place -/
inductive Pl where
  | fig | sign | ahead | zone
def Pl.nm : Pl → Str
  | .fig => "figure" | .sign => "sign" | .ahead => "ahead" | .zone => "zone"
def plD (p : Pl) : D := .str p.nm
def keepL (s : Int) : List Pl → Int → List Int
  | [], _ => []
  | .fig :: t, r => r % 10 :: keepL s t (r / 10)
  | .sign :: t, r => s :: keepL s t r
  | .ahead :: t, r => 0 :: keepL s t r
  | .zone :: t, r => 15 :: keepL s t r
theorem keepL_len (s : Int) : ∀ (ps : List Pl) (r : Int), (keepL s ps r).length = ps.length
  | [], _ => rfl
  | .fig :: t, r => congrArg (· + 1) (keepL_len s t _)
  | .sign :: t, r => congrArg (· + 1) (keepL_len s t _)
  | .ahead :: t, r => congrArg (· + 1) (keepL_len s t _)
  | .zone :: t, r => congrArg (· + 1) (keepL_len s t _)
theorem keepL_bd {s : Int} (hs : 0 ≤ s ∧ s < 16) : ∀ (ps : List Pl) (r : Int), ∀ h ∈ keepL s ps r, 0 ≤ h ∧ h < 16
  | [], _, _, h => by cases h
  | .fig :: t, r, x, h => by
    rcases List.mem_cons.mp h with e | h
    · subst e; omega
    · exact keepL_bd hs t _ x h
  | .sign :: t, r, x, h => by
    rcases List.mem_cons.mp h with e | h
    · subst e; exact hs
    · exact keepL_bd hs t _ x h
  | .ahead :: t, r, x, h => by
    rcases List.mem_cons.mp h with e | h
    · subst e; decide
    · exact keepL_bd hs t _ x h
  | .zone :: t, r, x, h => by
    rcases List.mem_cons.mp h with e | h
    · subst e; decide
    · exact keepL_bd hs t _ x h
theorem keepL_figs (s : Int) (t : List Pl) : ∀ (n : Nat) (r : Int), keepL s (List.replicate n .fig ++ t) r = figs n r ++ keepL s t (r / 10 ^ n)
  | 0, r => by simp [figs]
  | n + 1, r => by
    rw [List.replicate_succ]
    show r % 10 :: keepL s (List.replicate n .fig ++ t) (r / 10) = _
    rw [keepL_figs s t n, figs, List.cons_append]
    congr 3
    rw [Int.pow_succ, Int.mul_comm, Int.ediv_ediv_of_nonneg (by decide)]
theorem keepL_figs0 (s : Int) (n : Nat) (r : Int) : keepL s (List.replicate n .fig) r = figs n r := by
  have h := keepL_figs s [] n r
  simpa [keepL] using h
theorem keepL_zones (s : Int) : ∀ (n : Nat) (r : Int), keepL s (List.replicate n [Pl.fig, Pl.zone]).flatten r = (figs n r).flatMap fun d => [d, 15]
  | 0, r => rfl
  | n + 1, r => by
    rw [List.replicate_succ, List.flatten_cons]
    show r % 10 :: 15 :: keepL s (List.replicate n [Pl.fig, Pl.zone]).flatten (r / 10) = _
    rw [keepL_zones s n]
    rfl
theorem rep_comm {α : Type} (x : List α) : ∀ n : Nat, (List.replicate n x).flatten ++ x = x ++ (List.replicate n x).flatten
  | 0 => by simp
  | n + 1 => by rw [List.replicate_succ, List.flatten_cons, List.append_assoc, rep_comm x n]
theorem rev_rep {α : Type} (x : List α) : ∀ n : Nat, (List.replicate n x).flatten.reverse = (List.replicate n x.reverse).flatten
  | 0 => rfl
  | n + 1 => by
    rw [List.replicate_succ, List.flatten_cons, List.reverse_append, rev_rep x n, rep_comm, List.replicate_succ, List.flatten_cons]
theorem rev_flat (z : Int) : ∀ ds : List Int, (ds.flatMap fun d => [d, z]).reverse = ds.reverse.flatMap fun d => [z, d]
  | [] => rfl
  | d :: ds => by
    rw [List.flatMap_cons, List.reverse_append, rev_flat z ds, List.reverse_cons (as := ds), List.flatMap_append]
    rfl
/-- the places of a shape -/
def packedP (n : Nat) (e : Bool) : List Pl := (if (n + e.toNat) % 2 = 1 then [.ahead] else []) ++ (List.replicate n .fig ++ (if e then [.sign] else []))
def spreadP (n : Nat) (e : Bool) : List Pl := if e then (List.replicate (n - 1) [Pl.zone, Pl.fig]).flatten ++ [.sign, .fig] else (List.replicate n [Pl.zone, Pl.fig]).flatten
/-- the row of a number: halves from the left -/
def halvesP (ps : List Pl) (s r : Int) : List Int := (keepL s ps.reverse r).reverse
def packedH (n : Nat) (e : Bool) (s r : Int) : List Int := List.replicate ((n + e.toNat) % 2) 0 ++ ((figs n r).reverse ++ (if e then [s] else []))
theorem packed_halves (n : Nat) (e : Bool) (s r : Int) : halvesP (packedP n e) s r = packedH n e s r := by
  unfold halvesP packedP packedH
  have h2 : (n + e.toNat) % 2 = 0 ∨ (n + e.toNat) % 2 = 1 := by omega
  generalize (n + e.toNat) % 2 = q at h2
  rcases h2 with h2 | h2 <;> cases e <;> simp [h2, keepL_figs, keepL_figs0, keepL]
def spreadR (n : Nat) (e : Bool) (s r : Int) : List Int := List.zipWith (fun z d => 16 * z + d) (if e then List.replicate (n - 1) 15 ++ [s] else List.replicate n 15) (figs n r).reverse
theorem zip_rep (z : Int) : ∀ (n : Nat) (ds : List Int), ds.length = n → List.zipWith (fun z d => 16 * z + d) (List.replicate n z) ds = ds.map fun d => 16 * z + d
  | 0, [], _ => rfl
  | n + 1, d :: ds, h => by
    rw [List.replicate_succ, List.zipWith_cons_cons, zip_rep z n ds (by simpa using h)]
    rfl
  | 0, _ :: _, h => by simp at h
  | n + 1, [], h => by simp at h
theorem spread_pairs (n : Nat) (e : Bool) (s r : Int) (h : 1 ≤ n) : pairs (halvesP (spreadP n e) s r) = spreadR n e s r := by
  obtain ⟨m, rfl⟩ : ∃ m, n = m + 1 := ⟨n - 1, by omega⟩
  unfold halvesP spreadP spreadR
  cases e with
  | false =>
    simp only [Bool.false_eq_true, if_false]
    rw [rev_rep]
    show pairs (keepL s (List.replicate (m + 1) [Pl.fig, Pl.zone]).flatten r).reverse = _
    rw [keepL_zones, rev_flat, pairs_flat, zip_rep _ _ _ (by rw [List.length_reverse, figs_len])]
  | true =>
    simp only [if_true, Nat.add_sub_cancel]
    rw [List.reverse_append, rev_rep]
    show pairs (r % 10 :: s :: keepL s (List.replicate m [Pl.fig, Pl.zone]).flatten (r / 10)).reverse = _
    rw [keepL_zones, List.reverse_cons, List.reverse_cons, rev_flat, List.append_assoc, pairs_app]
    show _ = List.zipWith (fun z d => 16 * z + d) (List.replicate m 15 ++ [s]) (r % 10 :: figs m (r / 10)).reverse
    rw [List.reverse_cons, List.zipWith_append (by rw [List.length_replicate, List.length_reverse, figs_len]), zip_rep _ _ _ (by rw [List.length_reverse, figs_len])]
    rfl
theorem packedP_len (n : Nat) (e : Bool) : (packedP n e).length = (n + e.toNat) % 2 + n + e.toNat := by
  unfold packedP
  have h2 : (n + e.toNat) % 2 = 0 ∨ (n + e.toNat) % 2 = 1 := by omega
  generalize (n + e.toNat) % 2 = q at h2
  rcases h2 with h2 | h2 <;> cases e <;> simp [h2] <;> omega
theorem rep_len {α : Type} (x : List α) : ∀ n : Nat, (List.replicate n x).flatten.length = n * x.length
  | 0 => by simp
  | n + 1 => by rw [List.replicate_succ, List.flatten_cons, List.length_append, rep_len x n, Nat.succ_mul]; omega
theorem spreadP_len (n : Nat) (e : Bool) (h : 1 ≤ n) : (spreadP n e).length = 2 * n := by
  unfold spreadP
  cases e with
  | false => rw [if_neg (by decide), rep_len]; show n * 2 = _; omega
  | true => rw [if_pos rfl, List.length_append, rep_len]; show (n - 1) * 2 + 2 = _; omega
theorem v_ifT {t : MT} {s u : MS} {ρ : Rho} {r : Option F} (h1 : t ρ = some true) (h2 : s ρ = r) : mIf t s u ρ = r := by
  unfold mIf
  rw [h1]
  exact h2
theorem v_ifF {t : MT} {s u : MS} {ρ : Rho} {r : Option F} (h1 : t ρ = some false) (h2 : u ρ = r) : mIf t s u ρ = r := by
  unfold mIf
  rw [h1]
  exact h2
theorem v_seqR {s t : MS} {ρ : Rho} {r : R} (h : s ρ = some (.ret r)) : mSeq s t ρ = some (.ret r) := by
  unfold mSeq
  rw [h]
theorem v_set {i : Nat} {f : ME} {ρ : Rho} {d : D} (h : f ρ = some (.dat d)) : mSet i f ρ = some (.nx (ρ.set i (.dat d))) := by
  unfold mSet
  rw [h]
  rfl
theorem v_setN {i : Nat} {f : ME} {ρ : Rho} {d : List D} (h : f ρ = some (.new d)) : mSet i f ρ = some (.nx (ρ.set i (.own d))) := by
  unfold mSet
  rw [h]
  rfl
theorem v_ret {f : ME} {ρ : Rho} {d : D} (h : f ρ = some (.dat d)) : mRet f ρ = some (.ret (.dat d)) := by
  unfold mRet
  rw [h]
  rfl
theorem v_retN {f : ME} {ρ : Rho} {d : List D} (h : f ρ = some (.new d)) : mRet f ρ = some (.ret (.new d)) := by
  unfold mRet
  rw [h]
  rfl
theorem v_out {n np : Nat} {b : MS} {rs : List R} {r : R} (h : rs.length = np) (h2 : b (startC n rs) = some (.ret r)) : mDef n np b rs = some r := v_def h (by rw [h2]; rfl)
theorem v_outX {n np : Nat} {b : MS} {rs : List R} {r : R} (h : rs.length = np) (h2 : b (startC n rs) = some (.ret r)) : mDefX n np b rs = some (.ok r) := by
  unfold mDefX
  rw [if_pos h, h2]
  rfl
theorem v_defX {n np : Nat} {b : MS} {rs : List R} {o : Option Out} (h : rs.length = np) (h2 : outX (b (startC n rs)) = o) : mDefX n np b rs = o := by
  unfold mDefX
  rw [if_pos h]
  exact h2
theorem b63 {n : Nat} (h : n ≤ 1000) : okP (-(2 ^ 63) ≤ (n : Int) ∧ (n : Int) < 2 ^ 63) = true := okP_t (by omega)
theorem mRepL_ok {f g : ME} {ρ : Rho} {xs : List D} {n : Nat} (h1 : asTrk (f ρ) = some xs) (h2 : g ρ = some (.dat (.int (n : Int)))) (hn : n ≤ 1000) (hx : xs.length ≤ 50) : mRepL f g ρ = some (.new (List.replicate n xs).flatten) := by
  have z : szOk (xs.length * n) = true := okP_t (Nat.le_trans (Nat.mul_le_mul hx hn) (by decide))
  unfold mRepL
  rw [h1, h2]
  simp only [Option.bind_some, asInt, b63 hn, Int.toNat_natCast, z, Bool.and_self, if_true]
/-! ### list comprehensions, plainly -/
theorem lcM_map {α : Type} {g : MG} {t : MT} {f : ME} {ρ : Rho} (e y : α → D) : ∀ as : List α, (∀ a ∈ as, ∃ ρ1, g (e a) ρ = some ρ1 ∧ t ρ1 = some true ∧ f ρ1 = some (.dat (y a))) → lcM g t f ρ (as.map e) = some (as.map y)
  | [], _ => rfl
  | a :: as, h => by
    obtain ⟨ρ1, h1, h2, h3⟩ := h a (by simp)
    have ih := lcM_map e y as fun b hb => h b (by simp [hb])
    simp only [List.map_cons, lcM, h1, h2, h3, ih, Option.bind_some, if_true, asDat, Option.map_some]
theorem cnt3_two (n : Nat) : cnt3 0 (n : Int) 2 = (n + 1) / 2 := by
  unfold cnt3 Builtin.Range.rangeSize
  rw [if_pos (by decide)]
  split
  · omega
  · omega
theorem atI_getD {hs : List Int} {i : Int} {k : Nat} (e : i = (k : Int)) (h : k < hs.length) : atI (hs.map D.int) i = some (.int (hs.getD k 0)) := by
  subst e
  refine atI_map (atI_nat ?_)
  rw [List.getD_eq_getElem?_getD, List.getElem?_eq_getElem h]
  rfl
theorem bls_true : ∀ n : Nat, blsOf (List.replicate n (D.bl true)) = some (List.replicate n true)
  | 0 => rfl
  | n + 1 => by
    rw [List.replicate_succ]
    show (blsOf (List.replicate n (D.bl true))).map (fun bs => true :: bs) = _
    rw [bls_true n]
    rfl
theorem map_true {α : Type} (as : List α) : as.map (fun _ => D.bl true) = List.replicate as.length (D.bl true) := by
  induction as with
  | nil => rfl
  | cons a as ih => rw [List.map_cons, ih]; rfl
end
end Tl

namespace Tl
open PySem PySem.Spec PyProof.Rows L2 Evl
noncomputable section
/-! ### enumerate(zip(xs, ys)): the tuple that zip gave out is let go by nobody -/
abbrev ZRec (h : Heap) (z TI TO : Addr) (f0 : Value) (f : Bool) : Prop :=
  h.get? z = some { cls := .type "zip", dict := none, data := .fields #[f0, .bool f, .bool false, .ref TI, .ref TO], slots := #[] }
def ZAny (h : Heap) (z TI TO : Addr) : Prop := ∃ f0 f, (f0 = .none ∨ ∃ T : Addr, f0 = rawInt T) ∧ ZRec h z TI TO f0 f
section
variable {prog : Program} {w : World} {A : Around} {E : Value → Shared → Prop} {s : Shared}
theorem dead_load {a : Addr} {Q : Option Obj → Shared → Prop} (ho : s.heap.get? a = none) (h : Q none s) : wpAny (model prog w) A (loadIfAlive a) Q E s := by
  have h' : Q (s.heap.get? a) s := by rw [ho]; exact h
  exact fun _ _ _ => h'
/-- is the tuple free: it is where it is gone or was never given -/
theorem free_zip {z TI TO : Addr} {f0 : Value} {f : Bool} {Q : Bool → Shared → Prop} (hz : ZRec s.heap z TI TO f0 f) (hf : f0 = .none ∨ ∃ T : Addr, f0 = rawInt T ∧ s.heap.get? T = none) (h : Q true s) :
    wpAny (model prog w) A (Builtin.SmallTypes.ownedTupleIsFree (.ref z)) Q E s := by
  unfold Builtin.SmallTypes.ownedTupleIsFree
  rcases hf with e | ⟨T, e, hT⟩
  · subst e
    exact wpAny_bind (wpAny_field hz rfl (x := .none) rfl (wpAny_pure h))
  · subst e
    refine wpAny_bind (wpAny_field hz rfl (x := rawInt T) rfl ?_)
    show wpAny _ _ (loadIfAlive ((T : Int).toNat) >>= _) _ _ _
    rw [Int.toNat_natCast]
    refine wpAny_bind (dead_load hT ?_)
    simp only [Option.isNone_none, if_true]
    exact wpAny_pure h
theorem zip_free_item {z TI TO i1 i2 l1 l2 : Addr} {k1 k2 : Nat} {xs ys : Array Value} {x y a b f0 : Value} {f : Bool} {Q : Value → Shared → Prop} (D : ZipApart z TI TO i1 i2 l1 l2)
    (hz : ZRec s.heap z TI TO f0 f) (hf : f0 = .none ∨ ∃ T : Addr, f0 = rawInt T ∧ s.heap.get? T = none) (hTI : IsPair s.heap TI (.ref i1) (.ref i2)) (hTO : IsPair s.heap TO a b)
    (h1 : s.heap.IsListIter i1 l1 k1) (h2 : s.heap.IsListIter i2 l2 k2) (hl1 : s.heap.IsList l1 xs) (hl2 : s.heap.IsList l2 ys) (hx : xs[k1]? = some x) (hy : ys[k2]? = some y)
    (hQ : ∀ h', ZAny h' z TI TO → (∃ a b, IsPair h' TO a b) → h'.IsListIter i1 l1 (k1 + 1) → h'.IsListIter i2 l2 (k2 + 1) → IsPair h' s.heap.objs.size x y → h'.objs.size = s.heap.objs.size + 1 →
      (∀ c o, c ≠ z → c ≠ TO → c ≠ i1 → c ≠ i2 → s.heap.get? c = some o → h'.get? c = some o) → Q (.ref s.heap.objs.size) { s with heap := h' }) :
    wpAny (model prog w) A (Builtin.«zip.__next__» ⟨[.ref z], []⟩) (fun fin s' => ∃ v, fin = .done (.ret v) ∧ Q v s') E s := by
  show wpAny _ _ (field (.ref z) 2 >>= _) _ _ _
  refine wpAny_bind (wpAny_field hz rfl (x := .bool false) rfl ?_)
  show wpAny _ _ (field (.ref z) 3 >>= _) _ _ _
  refine wpAny_bind (wpAny_field hz rfl (x := .ref TI) rfl ?_)
  refine wpAny_bind (wpAny_seqItems hTI rfl ?_)
  show wpAny _ _ (Builtin.SmallTypes.ownedTupleIsFree (.ref z) >>= _) _ _ _
  refine wpAny_bind (free_zip hz hf ?_)
  simp only [if_true]
  refine wpAny_bind (wpAny_rule ?_)
  refine wpAny_bind (wpAny_field hz rfl (x := .ref TO) rfl ?_)
  refine wpAny_bind (wpAny_setField_rec hz (by simp) fun ha za sa => ?_)
  replace za : ZRec ha z TI TO .ellipsis f := za
  refine wpAny_bind ?_
  simp only [List.zipIdx_cons, List.zipIdx_nil, List.forIn_cons, List.forIn_nil]
  refine wpAny_bind (wpAny_bind (wpAny_onRaise ?_))
  show wpAny _ _ (Builtin.SmallTypes.nextOf (.ref i1) >>= _) _ _ _
  refine wpAny_bind (wpAny_nextOf_list_item (h1.extBut sa.extBut D.i1z) (hl1.extBut sa.extBut D.l1z) hx fun hb ib sb => wpAny_pure ?_)
  have ob : IsPair hb TO a b := sb.extBut _ _ D.TOi1 (sa.extBut _ _ D.TOz hTO)
  refine wpAny_bind (wpAny_seqItems ob rfl ?_)
  refine wpAny_bind (wpAny_updateSeq_pair ob fun hc oc sc => ?_)
  replace oc : IsPair hc TO x b := oc
  refine wpAny_bind (wpAny_letGo (wpAny_pure ?_))
  refine wpAny_bind (wpAny_bind (wpAny_onRaise ?_))
  show wpAny _ _ (Builtin.SmallTypes.nextOf (.ref i2) >>= _) _ _ _
  refine wpAny_bind (wpAny_nextOf_list_item (((h2.extBut sa.extBut D.i2z).extBut sb.extBut D.i12.symm).extBut sc.extBut D.TOi2.symm)
    (((hl2.extBut sa.extBut D.l2z).extBut sb.extBut D.l2i1).extBut sc.extBut D.l2TO) hy fun hd id' sd => wpAny_pure ?_)
  have od : IsPair hd TO x b := sd.extBut _ _ D.TOi2 oc
  refine wpAny_bind (wpAny_seqItems od rfl ?_)
  refine wpAny_bind (wpAny_updateSeq_pair od fun he oe se => ?_)
  replace oe : IsPair he TO x y := oe
  refine wpAny_bind (wpAny_letGo (wpAny_pure (wpAny_pure ?_)))
  refine wpAny_bind (wpAny_seqItems oe rfl ?_)
  refine wpAny_bind (wpAny_newTuple ?_)
  have hsz : he.objs.size = s.heap.objs.size := by rw [se.1, sd.1, sc.1, sb.1, sa.1]
  have ze : ZRec he z TI TO .ellipsis f := se.extBut _ _ D.TOz.symm (sd.extBut _ _ D.i2z.symm (sc.extBut _ _ D.TOz.symm (sb.extBut _ _ D.i1z.symm za)))
  have ke : ∀ c o, c ≠ z → c ≠ TO → c ≠ i1 → c ≠ i2 → s.heap.get? c = some o → he.get? c = some o := fun c o c1 c2 c3 c4 e =>
    se.extBut _ _ c2 (sd.extBut _ _ c4 (sc.extBut _ _ c2 (sb.extBut _ _ c3 (sa.extBut _ _ c1 e))))
  have ie1 : he.IsListIter i1 l1 (k1 + 1) := ((ib.extBut sc.extBut D.TOi1.symm).extBut sd.extBut D.i12).extBut se.extBut D.TOi1.symm
  have ie2 : he.IsListIter i2 l2 (k2 + 1) := id'.extBut se.extBut D.TOi2.symm
  have zlt : z < he.objs.size := Heap.lt_size ze
  show wpAny _ _ (Builtin.SmallTypes.ownedTupleHandOut (.ref z) (.ref he.objs.size) >>= _) _ _ _
  refine wpAny_bind ?_
  unfold Builtin.SmallTypes.ownedTupleHandOut
  have zf : ZRec (he.push { cls := .type "tuple", data := .seq #[x, y] }) z TI TO .ellipsis f := Heap.get?_push_of_some _ ze
  refine wpAny_bind (wpAny_setField_rec zf (by simp) fun hg zg sg => ?_)
  replace zg : ZRec hg z TI TO (rawInt he.objs.size) f := zg
  refine wpAny_setField_rec zg (by simp) fun hh zh sh => ?_
  replace zh : ZRec hh z TI TO (rawInt he.objs.size) false := zh
  have up : ∀ c o, c ≠ z → he.get? c = some o → hh.get? c = some o := fun c o c1 e => sh.extBut _ _ c1 (sg.extBut _ _ c1 (Heap.get?_push_of_some _ e))
  have hT : IsPair hh he.objs.size x y := sh.extBut _ _ (Nat.ne_of_gt zlt) (sg.extBut _ _ (Nat.ne_of_gt zlt) (Heap.get?_push_size _ rfl))
  have h8 : hh.objs.size = he.objs.size + 1 := by rw [sh.1, sg.1, Heap.size_push]
  rw [hsz] at zh hT h8
  refine wpAny_pure ⟨_, rfl, ?_⟩
  show Q (.ref he.objs.size) _
  rw [hsz]
  exact hQ hh ⟨_, _, .inr ⟨_, rfl⟩, zh⟩ ⟨_, _, up _ _ D.TOz oe⟩ (ie1.at fun o e => up _ o D.i1z e) (ie2.at fun o e => up _ o D.i2z e) hT h8 fun c o c1 c2 c3 c4 e => up c o c1 (ke c o c1 c2 c3 c4 e)
theorem zip_free_end {z TI TO i1 i2 l1 l2 : Addr} {k1 k2 : Nat} {xs ys : Array Value} {a b f0 : Value} {f : Bool} {Q : Fin → Shared → Prop} (hh : A.handled = none) (D : ZipApart z TI TO i1 i2 l1 l2)
    (hz : ZRec s.heap z TI TO f0 f) (hf : f0 = .none ∨ ∃ T : Addr, f0 = rawInt T ∧ s.heap.get? T = none) (hTI : IsPair s.heap TI (.ref i1) (.ref i2)) (hTO : IsPair s.heap TO a b)
    (h1 : s.heap.IsListIter i1 l1 k1) (h2 : s.heap.IsListIter i2 l2 k2) (hl1 : s.heap.IsList l1 xs) (hl2 : s.heap.IsList l2 ys) (hend : xs[k1]? = none ∨ ys[k2]? = none)
    (hE : ∀ h' e, (∀ c o, c ≠ z → c ≠ TO → c ≠ i1 → c ≠ i2 → s.heap.get? c = some o → h'.get? c = some o) → (∃ o, h'.get? e = some o ∧ o.cls = .type "StopIteration") → E (.ref e) { s with heap := h' }) :
    wpAny (model prog w) A (Builtin.«zip.__next__» ⟨[.ref z], []⟩) Q E s := by
  show wpAny _ _ (field (.ref z) 2 >>= _) _ _ _
  refine wpAny_bind (wpAny_field hz rfl (x := .bool false) rfl ?_)
  show wpAny _ _ (field (.ref z) 3 >>= _) _ _ _
  refine wpAny_bind (wpAny_field hz rfl (x := .ref TI) rfl ?_)
  refine wpAny_bind (wpAny_seqItems hTI rfl ?_)
  show wpAny _ _ (Builtin.SmallTypes.ownedTupleIsFree (.ref z) >>= _) _ _ _
  refine wpAny_bind (free_zip hz hf ?_)
  simp only [if_true]
  refine wpAny_bind (wpAny_rule ?_)
  refine wpAny_bind (wpAny_field hz rfl (x := .ref TO) rfl ?_)
  refine wpAny_bind (wpAny_setField_rec hz (by simp) fun ha za sa => ?_)
  replace za : ZRec ha z TI TO .ellipsis f := za
  refine wpAny_bind ?_
  simp only [List.zipIdx_cons, List.zipIdx_nil, List.forIn_cons, List.forIn_nil]
  refine wpAny_bind (wpAny_bind (wpAny_onRaise ?_))
  show wpAny _ _ (Builtin.SmallTypes.nextOf (.ref i1) >>= _) _ _ _
  cases hx : xs[k1]? with
  | none =>
    refine wpAny_bind (wpAny_nextOf_list_end hh (h1.extBut sa.extBut D.i1z) (hl1.extBut sa.extBut D.l1z) hx fun hb e sb he => ?_)
    obtain ⟨oe, hoe, hce⟩ := he
    have zb : ZRec hb z TI TO .ellipsis f := sb _ _ D.i1z.symm za
    have hez : e ≠ z := fun x => by subst x; rw [zb] at hoe; cases hoe; simp at hce
    exact wpAny_setField_rec zb (by simp) fun hc _ sc => hE hc e (fun c o c1 _ c3 _ x => sc.extBut _ _ c1 (sb _ _ c3 (sa.extBut _ _ c1 x))) ⟨oe, sc.extBut _ _ hez hoe, hce⟩
  | some x =>
    have hy : ys[k2]? = none := by
      rcases hend with h | h
      · rw [hx] at h; cases h
      · exact h
    refine wpAny_bind (wpAny_nextOf_list_item (h1.extBut sa.extBut D.i1z) (hl1.extBut sa.extBut D.l1z) hx fun hb ib sb => wpAny_pure ?_)
    have ob : IsPair hb TO a b := sb.extBut _ _ D.TOi1 (sa.extBut _ _ D.TOz hTO)
    refine wpAny_bind (wpAny_seqItems ob rfl ?_)
    refine wpAny_bind (wpAny_updateSeq_pair ob fun hc oc sc => ?_)
    refine wpAny_bind (wpAny_letGo (wpAny_pure ?_))
    refine wpAny_bind (wpAny_bind (wpAny_onRaise ?_))
    show wpAny _ _ (Builtin.SmallTypes.nextOf (.ref i2) >>= _) _ _ _
    refine wpAny_bind (wpAny_nextOf_list_end hh (((h2.extBut sa.extBut D.i2z).extBut sb.extBut D.i12.symm).extBut sc.extBut D.TOi2.symm)
      (((hl2.extBut sa.extBut D.l2z).extBut sb.extBut D.l2i1).extBut sc.extBut D.l2TO) hy fun hd e sd he => ?_)
    obtain ⟨oe, hoe, hce⟩ := he
    have zd : ZRec hd z TI TO .ellipsis f := sd _ _ D.i2z.symm (sc.extBut _ _ D.TOz.symm (sb.extBut _ _ D.i1z.symm za))
    have hez : e ≠ z := fun x => by subst x; rw [zd] at hoe; cases hoe; simp at hce
    exact wpAny_setField_rec zd (by simp) fun he' _ se => hE he' e (fun c o c1 c2 c3 c4 x => se.extBut _ _ c1 (sd _ _ c4 (sc.extBut _ _ c2 (sb.extBut _ _ c3 (sa.extBut _ _ c1 x))))) ⟨oe, se.extBut _ _ hez hoe, hce⟩
theorem ZAny.is {h : Heap} {z TI TO : Addr} (H : ZAny h z TI TO) : (∃ f0 f, ZRec h z TI TO f0 f ∧ (f0 = .none ∨ ∃ T : Addr, f0 = rawInt T ∧ h.get? T = none)) ∨ ∃ T f oT, IsZipHeld h z TI TO T f ∧ h.get? T = some oT := by
  obtain ⟨f0, f, h0, hz⟩ := H
  rcases h0 with e | ⟨T, e⟩
  · exact .inl ⟨f0, f, hz, .inl e⟩
  · cases q : h.get? T with
    | none => exact .inl ⟨f0, f, hz, .inr ⟨T, e, q⟩⟩
    | some oT => subst e; exact .inr ⟨T, f, oT, hz, q⟩
theorem nextOf_zip_item {z TI TO i1 i2 l1 l2 : Addr} {k1 k2 : Nat} {xs ys : Array Value} {x y a b : Value} {Q : Value → Shared → Prop} (D : ZipApart z TI TO i1 i2 l1 l2)
    (hz : ZAny s.heap z TI TO) (hTI : IsPair s.heap TI (.ref i1) (.ref i2)) (hTO : IsPair s.heap TO a b)
    (h1 : s.heap.IsListIter i1 l1 k1) (h2 : s.heap.IsListIter i2 l2 k2) (hl1 : s.heap.IsList l1 xs) (hl2 : s.heap.IsList l2 ys) (hx : xs[k1]? = some x) (hy : ys[k2]? = some y)
    (hQ : ∀ h', ZAny h' z TI TO → (∃ a b, IsPair h' TO a b) → h'.IsListIter i1 l1 (k1 + 1) → h'.IsListIter i2 l2 (k2 + 1) → IsPair h' s.heap.objs.size x y → h'.objs.size = s.heap.objs.size + 1 →
      (∀ c o, c ≠ z → c ≠ TO → c ≠ i1 → c ≠ i2 → s.heap.get? c = some o → h'.get? c = some o) → Q (.ref s.heap.objs.size) { s with heap := h' }) :
    wpAny (model prog w) A (Builtin.SmallTypes.nextOf (.ref z)) Q E s := by
  have hT : s.TypeIs (.ref z) "zip" := by obtain ⟨_, _, _, hz⟩ := hz; exact ⟨_, hz, rfl⟩
  unfold Builtin.SmallTypes.nextOf
  refine wpAny_bind (wpAny_callSpecial?_slot (name := Str.ofString "__next__") hT F.slot_zip_next (wpAny_call_entry F.slot_zip_next hT F.entry_zip_next ?_ (F.args_zip_next_1 _)))
  rcases hz.is with ⟨f0, f, hz, hf⟩ | ⟨T, f, oT, hz, hq⟩
  · exact zip_free_item D hz hf hTI hTO h1 h2 hl1 hl2 hx hy fun h' a1 a2 a3 a4 a5 a6 a7 => wpAny_pure (hQ h' a1 a2 a3 a4 a5 a6 a7)
  · exact zip_next_item_held D hz hq hTI h1 h2 hl1 hl2 hx hy fun h' a1 a3 a4 a5 a6 a7 => wpAny_pure (hQ h' ⟨_, _, .inr ⟨_, rfl⟩, a1⟩ ⟨a, b, a7 _ _ D.TOz D.TOi1 D.TOi2 hTO⟩ a3 a4 a5 a6 fun c o c1 _ c3 c4 e => a7 c o c1 c3 c4 e)
theorem nextOf_zip_end {z TI TO i1 i2 l1 l2 : Addr} {k1 k2 : Nat} {xs ys : Array Value} {a b : Value} {Q : Value → Shared → Prop} (hh : A.handled = none) (D : ZipApart z TI TO i1 i2 l1 l2)
    (hz : ZAny s.heap z TI TO) (hTI : IsPair s.heap TI (.ref i1) (.ref i2)) (hTO : IsPair s.heap TO a b)
    (h1 : s.heap.IsListIter i1 l1 k1) (h2 : s.heap.IsListIter i2 l2 k2) (hl1 : s.heap.IsList l1 xs) (hl2 : s.heap.IsList l2 ys) (hend : xs[k1]? = none ∨ ys[k2]? = none)
    (hE : ∀ h' e, (∀ c o, c ≠ z → c ≠ TO → c ≠ i1 → c ≠ i2 → s.heap.get? c = some o → h'.get? c = some o) → (∃ o, h'.get? e = some o ∧ o.cls = .type "StopIteration") → E (.ref e) { s with heap := h' }) :
    wpAny (model prog w) A (Builtin.SmallTypes.nextOf (.ref z)) Q E s := by
  have hT : s.TypeIs (.ref z) "zip" := by obtain ⟨_, _, _, hz⟩ := hz; exact ⟨_, hz, rfl⟩
  unfold Builtin.SmallTypes.nextOf
  refine wpAny_bind (wpAny_callSpecial?_slot (name := Str.ofString "__next__") hT F.slot_zip_next (wpAny_call_entry F.slot_zip_next hT F.entry_zip_next ?_ (F.args_zip_next_1 _)))
  rcases hz.is with ⟨f0, f, hz, hf⟩ | ⟨T, f, oT, hz, hq⟩
  · exact zip_free_end hh D hz hf hTI hTO h1 h2 hl1 hl2 hend fun h' e a1 a2 => hE h' e a1 a2
  · exact zip_next_end_held hh D hz hq hTI h1 h2 hl1 hl2 hend fun h' e a1 a2 => hE h' e (fun c o c1 _ c3 c4 z => a1 c o c1 c3 c4 z) a2
/-- next of enumerate(zip(..)): the pair at N, the tuple of place and pair at N + 1 -/
theorem enumZ_item {e z TI TO i1 i2 l1 l2 : Addr} {i k1 k2 : Nat} {xs ys : Array Value} {x y a b old : Value} {Q : Option Value → Shared → Prop} (D : ZipApart z TI TO i1 i2 l1 l2) (hez : e ≠ z) (heTO : e ≠ TO) (he1 : e ≠ i1) (he2 : e ≠ i2)
    (he : IsEnum s.heap e z i old) (hz : ZAny s.heap z TI TO) (hTI : IsPair s.heap TI (.ref i1) (.ref i2)) (hTO : IsPair s.heap TO a b)
    (h1 : s.heap.IsListIter i1 l1 k1) (h2 : s.heap.IsListIter i2 l2 k2) (hl1 : s.heap.IsList l1 xs) (hl2 : s.heap.IsList l2 ys) (hx : xs[k1]? = some x) (hy : ys[k2]? = some y)
    (hQ : ∀ ha h', ZAny ha z TI TO → (∃ a b, IsPair ha TO a b) → ha.IsListIter i1 l1 (k1 + 1) → ha.IsListIter i2 l2 (k2 + 1) → IsPair ha s.heap.objs.size x y → ha.objs.size = s.heap.objs.size + 1 →
      (∀ c o, c ≠ z → c ≠ TO → c ≠ i1 → c ≠ i2 → s.heap.get? c = some o → ha.get? c = some o) → IsEnumOut h' e z ((i : Int) + 1) (.ref s.heap.objs.size) (s.heap.objs.size + 1) →
      h'.get? (s.heap.objs.size + 1) = some { cls := .type "tuple", data := .seq #[.int i s.toks, .ref s.heap.objs.size] } → h'.objs.size = s.heap.objs.size + 2 →
      (∀ c o, c ≠ e → ha.get? c = some o → h'.get? c = some o) → Q (some (.ref (s.heap.objs.size + 1))) { s with heap := h', toks := s.toks + 1 }) :
    wpAny (model prog w) A (pyNext (.ref e)) Q E s := by
  have hT : s.TypeIs (.ref e) "enumerate" := ⟨_, he, rfl⟩
  unfold pyNext
  refine wpAny_bind (wpAny_attempt (wpAny_callSpecial?_slot (name := Str.ofString "__next__") hT F.slot_enumerate_next (wpAny_call_entry F.slot_enumerate_next hT F.entry_enumerate_next ?_ (F.args_enumerate_next_1 _))))
  obtain ⟨hp, g, d, tk, os⟩ := s
  show wpAny _ _ (field (.ref e) 2 >>= _) _ _ _
  refine wpAny_bind (wpAny_field he rfl (x := .ref z) rfl ?_)
  refine wpAny_bind (nextOf_zip_item D hz hTI hTO h1 h2 hl1 hl2 hx hy fun ha q1 q2 q3 q4 q5 q6 q7 => ?_)
  replace q5 : IsPair ha hp.objs.size x y := q5
  replace q6 : ha.objs.size = hp.objs.size + 1 := q6
  have ea : IsEnum ha e z i old := q7 _ _ hez heTO he1 he2 he
  show wpAny _ _ (field (.ref e) 3 >>= _) _ _ ⟨ha, g, d, tk, os⟩
  refine wpAny_bind (wpAny_field ea rfl (x := rawInt i) rfl ?_)
  show wpAny _ _ (field (.ref e) 4 >>= _) _ _ ⟨ha, g, d, tk, os⟩
  refine wpAny_bind (wpAny_field ea rfl (x := .none) rfl ?_)
  show wpAny _ _ (mkInt i >>= _) _ _ ⟨ha, g, d, tk, os⟩
  refine wpAny_bind (wpAny_mkInt ?_)
  show wpAny _ _ (setField (.ref e) 3 (rawInt ((i : Int) + 1)) >>= _) _ _ ⟨ha, g, d, tk + 1, os⟩
  refine wpAny_bind (wpAny_setField_rec ea (by simp) fun hb eb sb => ?_)
  replace sb : Heap.SameBut e ha hb := sb
  replace eb : IsEnum hb e z ((i : Int) + 1) old := eb
  show wpAny _ _ (setField (.ref e) 4 .none >>= _) _ _ ⟨hb, g, d, tk + 1, os⟩
  refine wpAny_bind (wpAny_setField_rec eb (by simp) fun hc ec sc => ?_)
  replace sc : Heap.SameBut e hb hc := sc
  replace ec : IsEnum hc e z ((i : Int) + 1) old := ec
  show wpAny _ _ (newTuple [.int i tk, .ref hp.objs.size] >>= _) _ _ ⟨hc, g, d, tk + 1, os⟩
  refine wpAny_bind (wpAny_newTuple ?_)
  have ed : IsEnum (hc.push { cls := .type "tuple", data := .seq #[.int i tk, .ref hp.objs.size] }) e z ((i : Int) + 1) old := Heap.get?_push_of_some _ ec
  generalize hhd : hc.push { cls := .type "tuple", data := .seq #[.int i tk, .ref hp.objs.size] } = hd at ed
  have hsz : hc.objs.size = hp.objs.size + 1 := by rw [sc.1, sb.1, q6]
  have elt : e < hp.objs.size := Heap.lt_size he
  have td : hd.get? (hp.objs.size + 1) = some { cls := .type "tuple", data := .seq #[.int i tk, .ref hp.objs.size] } := by rw [← hhd, ← hsz]; exact Heap.get?_push_size _ rfl
  have zd : hd.objs.size = hp.objs.size + 2 := by rw [← hhd, Heap.size_push, hsz]
  have kd : ∀ b o, b ≠ e → ha.get? b = some o → hd.get? b = some o := fun b o hbe q => by rw [← hhd]; exact Heap.get?_push_of_some _ (sc.extBut b o hbe (sb.extBut b o hbe q))
  have ne1 : (hp.objs.size + 1 : Nat) ≠ e := Nat.ne_of_gt (Nat.lt_succ_of_lt elt)
  show wpAny _ _ (Builtin.SmallTypes.ownedTupleIsFree (.ref e) >>= _) _ _ ⟨hd, g, d, tk + 1, os⟩
  rw [hsz]
  refine wpAny_bind ?_
  unfold Builtin.SmallTypes.ownedTupleIsFree
  refine wpAny_bind (wpAny_field ed rfl (x := .none) rfl (wpAny_pure ?_))
  simp only [if_true]
  refine wpAny_bind (wpAny_rule ?_)
  refine wpAny_bind (wpAny_field ed rfl (x := old) rfl ?_)
  refine wpAny_bind (wpAny_setField_rec ed (by simp) fun h5 e5 s5 => ?_)
  replace s5 : Heap.SameBut e hd h5 := s5
  replace e5 : IsEnum h5 e z ((i : Int) + 1) (.ref hp.objs.size) := e5
  show wpAny _ _ (Builtin.SmallTypes.ownedTupleHandOut (.ref e) (.ref (hp.objs.size + 1)) >>= _) _ _ ⟨h5, g, d, tk + 1, os⟩
  refine wpAny_bind ?_
  unfold Builtin.SmallTypes.ownedTupleHandOut
  refine wpAny_bind (wpAny_setField_rec e5 (by simp) fun h6 e6 s6 => ?_)
  replace s6 : Heap.SameBut e h5 h6 := s6
  replace e6 : IsEnumOut h6 e z ((i : Int) + 1) (.ref hp.objs.size) (hp.objs.size + 1) := e6
  refine wpAny_setField_rec e6 (by simp) fun h7 e7 s7 => ?_
  replace s7 : Heap.SameBut e h6 h7 := s7
  replace e7 : IsEnumOut h7 e z ((i : Int) + 1) (.ref hp.objs.size) (hp.objs.size + 1) := e7
  refine wpAny_bind (wpAny_letGo (wpAny_pure ⟨_, rfl, wpAny_pure (hQ ha h7 q1 q2 q3 q4 q5 q6 q7 e7 ?_ ?_ ?_)⟩))
  · exact s7.extBut _ _ ne1 (s6.extBut _ _ ne1 (s5.extBut _ _ ne1 td))
  · show h7.objs.size = hp.objs.size + 2
    rw [s7.1, s6.1, s5.1, zd]
  · exact fun b o hbe q => s7.extBut b o hbe (s6.extBut b o hbe (s5.extBut b o hbe (kd b o hbe q)))
theorem enumZ_end {e z TI TO i1 i2 l1 l2 : Addr} {i : Int} {k1 k2 : Nat} {xs ys : Array Value} {a b old : Value} {Q : Option Value → Shared → Prop} (hh : A.handled = none) (D : ZipApart z TI TO i1 i2 l1 l2)
    (he : IsEnum s.heap e z i old) (hz : ZAny s.heap z TI TO) (hTI : IsPair s.heap TI (.ref i1) (.ref i2)) (hTO : IsPair s.heap TO a b)
    (h1 : s.heap.IsListIter i1 l1 k1) (h2 : s.heap.IsListIter i2 l2 k2) (hl1 : s.heap.IsList l1 xs) (hl2 : s.heap.IsList l2 ys) (hend : xs[k1]? = none ∨ ys[k2]? = none)
    (hQ : ∀ h', (∀ c o, c ≠ z → c ≠ TO → c ≠ i1 → c ≠ i2 → s.heap.get? c = some o → h'.get? c = some o) → Q none { s with heap := h' }) : wpAny (model prog w) A (pyNext (.ref e)) Q E s := by
  have hT : s.TypeIs (.ref e) "enumerate" := ⟨_, he, rfl⟩
  unfold pyNext
  refine wpAny_bind (wpAny_attempt (wpAny_callSpecial?_slot (name := Str.ofString "__next__") hT F.slot_enumerate_next (wpAny_call_entry F.slot_enumerate_next hT F.entry_enumerate_next ?_ (F.args_enumerate_next_1 _))))
  show wpAny _ _ (field (.ref e) 2 >>= _) _ _ _
  refine wpAny_bind (wpAny_field he rfl (x := .ref z) rfl ?_)
  refine wpAny_bind (nextOf_zip_end (A := A.in1) hh D hz hTI hTO h1 h2 hl1 hl2 hend fun h' x hk hx' => ?_)
  obtain ⟨o, ho, hc⟩ := hx'
  refine wpAny_bind (wpAny_isInstance (T := "StopIteration") (b := true) ⟨o, ho, hc⟩ isSubtype_stop ?_)
  exact wpAny_pure (hQ _ hk)
end
end
end Tl

namespace Tl
open PySem PySem.Spec PyProof.Rows L2 Evl
noncomputable section
theorem meets_enum_zip (z TI TO : Addr) :
    Meets (Builtin.«enumerate.__new__» ⟨[.type "enumerate", .ref z], []⟩) (fun _ R s => IsZip s.heap z TI TO .none ∧
      R (.ok (.ret (.ref s.heap.objs.size))) { s with heap := s.heap.push { cls := .type "enumerate", data := .fields #[.none, .bool false, .ref z, rawInt 0, .none, .none] } }) :=
  .of_wp fun prog w A R s h => by
    obtain ⟨hp, g, d, tk, os⟩ := s; obtain ⟨h1, h⟩ := h
    have hsub := sub_enumerate
    have q1 : ∀ {A' : Around} {E : Value → Shared → Prop} {Q : Value → Shared → Prop}, Q (.ref z) ⟨hp, g, d, tk, os⟩ → wpAny (model prog w) A' (pyIter (.ref z)) Q E ⟨hp, g, d, tk, os⟩ :=
      fun q => wpAny_pyIter_zip (s := ⟨hp, g, d, tk, os⟩) h1 q
    wp_walk using q1, AutoSeq1.wpAny_loadPart' h1
    refine wpAny_stack_any fun st => wpAny_pure ?_
    split
    · rename_i c _ _ _ _ _
      cases (c == Value.type "enumerate")
      · wp_walk using q1, AutoSeq1.wpAny_loadPart' h1
        exact ⟨_, rfl, h⟩
      · wp_walk using q1, AutoSeq1.wpAny_loadPart' h1
        exact ⟨_, rfl, h⟩
    · wp_walk using q1, AutoSeq1.wpAny_loadPart' h1
      exact ⟨_, rfl, h⟩
section
variable {prog : Program} {w : World} {A : Around} {E : Value → Shared → Prop} {s : Shared}
theorem call_enum_zip {z TI TO : Addr} {Q : Value → Shared → Prop} (hz : IsZip s.heap z TI TO .none)
    (h : ∀ h', IsEnum h' s.heap.objs.size z 0 .none → h'.objs.size = s.heap.objs.size + 1 → (∀ b o, s.heap.get? b = some o → h'.get? b = some o) → Q (.ref s.heap.objs.size) { s with heap := h' }) :
    wpAny (model prog w) A (call (.type "enumerate") [.ref z]) Q E s := by
  refine callType_new F.called_enumerate (by decide) (F.typeCall_enumerate_1 _) (F.newCall_enumerate_1 _) (fun obj => F.args_object_init_2 obj _) F.entry_enumerate_new
    (meets_enum_zip z TI TO) ⟨hz, ?_⟩
  have he : IsEnum (s.heap.push { cls := .type "enumerate", data := .fields #[.none, .bool false, .ref z, rawInt 0, .none, .none] }) s.heap.objs.size z 0 .none := Heap.get?_push_size _ rfl
  exact ⟨⟨_, he, rfl⟩, h _ he (Heap.size_push ..) fun b o x => Heap.get?_push_of_some _ x⟩
end
/-- place and pair, the pair and the tuple new -/
def Itez (K : PySem.W.Frag) (a b : Addr) : It :=
  ⟨fun i H => ∃ (xs ys : List V) (x y : V), SqL K H a xs ∧ SqL K H b ys ∧ xs[i]? = some x ∧ ys[i]? = some y,
    fun i H v H' => ∃ T T2 x y, v = .ref T2 ∧ H T = none ∧ (upd H T (.tup [x, y])) T2 = none ∧ H' = upd (upd H T (.tup [x, y])) T2 (.tup [.int (i : Nat), .ref T]) ∧ (∀ xs, SqL K H a xs → xs[i]? = some x) ∧ ∀ ys, SqL K H b ys → ys[i]? = some y,
    fun i H => ∃ xs ys : List V, SqL K H a xs ∧ SqL K H b ys ∧ (xs.length ≤ i ∨ ys.length ≤ i)⟩
theorem FpOk.upd {X : Cx} {pins : List (Addr × Obj)} {H : Hp} {b T : Addr} {o : HO} (h : FpOk X pins H b) (hn : b ≠ T) : FpOk X pins (upd H T o) b := ⟨by rw [upd_ne hn]; exact h.1, h.2⟩
theorem turn_enumZ {P : Program} {w : World} {K : PySem.W.Frag} {elts : List Expr} {kk : Nat} {tpos : Pos} {a b e z TI TO i1 i2 : Addr} (D : ZipApart z TI TO i1 i2 a b) (hez : e ≠ z) (heTI : e ≠ TI) (heTO : e ≠ TO) (he1 : e ≠ i1) (he2 : e ≠ i2) :
    Turn P w K (.Tuple elts kk tpos) (Itez K a b) [e, z, TI, TO, i1, i2] e (fun i h => (∃ old, IsEnum h e z ((i : Nat) : Int) old) ∧ ZAny h z TI TO ∧ IsPair h TI (.ref i1) (.ref i2) ∧ (∃ x y, IsPair h TO x y) ∧ h.IsListIter i1 a i ∧ h.IsListIter i2 b i) where
  mem := by simp
  obj := fun i h st c hc => by
    obtain ⟨⟨old, he⟩, ⟨f0, f, _, hz⟩, hTI, ⟨x, y, hTO⟩, ⟨o1, e1, _, d1⟩, ⟨o2, e2, _, d2⟩⟩ := st
    have e' : c = e ∨ c = z ∨ c = TI ∨ c = TO ∨ c = i1 ∨ c = i2 := by simpa using hc
    rcases e' with q | q | q | q | q | q
    · rw [q]; exact ⟨_, he, fun v q => nomatch q⟩
    · rw [q]; exact ⟨_, hz, fun v q => nomatch q⟩
    · rw [q]; exact ⟨_, hTI, fun v q => nomatch q⟩
    · rw [q]; exact ⟨_, hTO, fun v q => nomatch q⟩
    · rw [q]; exact ⟨o1, e1, fun v q => by rw [d1] at q; cases q⟩
    · rw [q]; exact ⟨o2, e2, fun v q => by rw [d2] at q; cases q⟩
  keep := fun i h h' st k => by
    obtain ⟨⟨old, he⟩, ⟨f0, f, hf, hz⟩, hTI, ⟨x, y, hTO⟩, h1, h2⟩ := st
    exact ⟨⟨old, k e (by simp) _ he⟩, ⟨f0, f, hf, k z (by simp) _ hz⟩, k TI (by simp) _ hTI, ⟨x, y, k TO (by simp) _ hTO⟩, h1.at fun o q => k i1 (by simp) o q, h2.at fun o q => k i2 (by simp) o q⟩
  item := by
    intro X hP hw hK hc i pins s σ H E I hf st hg
    subst hP hw hK
    obtain ⟨⟨old, he⟩, hz, hTI, ⟨x0, y0, hTO⟩, h1, h2⟩ := st
    obtain ⟨xs, ys, x, y, hqx, hqy, hx, hy⟩ := hg
    obtain ⟨its, rv, p, _⟩ := I.list hqx
    obtain ⟨its2, rv2, p2, _⟩ := I.list hqy
    obtain ⟨u, hu, ru⟩ := rv.get hx
    obtain ⟨u2, hu2, ru2⟩ := rv2.get hy
    have hel : e < s.heap.objs.size := Heap.lt_size he
    refine enumZ_item D hez heTO he1 he2 he hz hTI hTO h1 h2 p.isList p2.isList (x := u) (y := u2) (by simpa using hu) (by simpa using hu2) fun ha h' q1 q2 q3 q4 q5 q6 q7 q8 q9 q10 q11 => ?_
    refine ⟨_, rfl, wpAny_letOwnedTupleGo_enum (s := { s with heap := h', toks := s.toks + 1 }) q8 fun h'' e'' sb => ?_⟩
    have new1 : ObjOk X.prog X.w (upd H s.heap.objs.size (.tup [x, y])) ha s.heap.objs.size (.tup [x, y]) :=
      ⟨by show 2 ≤ sizeLine; decide, [u, u2], .cons ru (.cons ru2 .nil), ⟨_, q5, rfl, _, rfl⟩⟩
    have I1 : Inv X pins σ (upd H s.heap.objs.size (.tup [x, y])) { s with heap := ha } :=
      I.turnedNew (t' := s.toks) (ch := [e, z, TI, TO, i1, i2]) (fun c o hb q => q7 c o (fun q' => hb (by simp [q'])) (fun q' => hb (by simp [q'])) (fun q' => hb (by simp [q'])) (fun q' => hb (by simp [q'])) q) hf (Nat.le_refl _) new1
    have neN : s.heap.objs.size ≠ e := Nat.ne_of_gt hel
    have neN1 : (s.heap.objs.size + 1 : Nat) ≠ e := Nat.ne_of_gt (Nat.lt_succ_of_lt hel)
    have hT2 : h''.get? (s.heap.objs.size + 1) = some { cls := .type "tuple", data := .seq #[.int i s.toks, .ref s.heap.objs.size] } := (sb.2 _ neN1).trans q9
    have new2 : ObjOk X.prog X.w (upd (upd H s.heap.objs.size (.tup [x, y])) (s.heap.objs.size + 1) (.tup [.int (i : Nat), .ref s.heap.objs.size])) h'' (s.heap.objs.size + 1) (.tup [.int (i : Nat), .ref s.heap.objs.size]) :=
      ⟨by show 2 ≤ sizeLine; decide, [.int i s.toks, .ref s.heap.objs.size], .cons ⟨_, rfl⟩ (.cons rfl .nil), ⟨_, hT2, rfl, _, rfl⟩⟩
    have I2 : Inv X pins σ (upd (upd H s.heap.objs.size (.tup [x, y])) (s.heap.objs.size + 1) (.tup [.int (i : Nat), .ref s.heap.objs.size])) { s with heap := h'', toks := s.toks + 1 } :=
      I1.turnedNew (t' := s.toks + 1) (ch := [e]) (fun c o hb q => (sb.2 c (fun q' => hb (by simp [q']))).trans (q11 c o (fun q' => hb (by simp [q'])) q)) (fun c hc => by
        have e' : c = e := by simpa using hc
        subst e'
        exact FpOk.upd (hf _ (by simp)) (Ne.symm neN)) (by show ha.objs.size ≤ s.heap.objs.size + 1; rw [q6]; exact Nat.le_refl _) new2
    have n2 : (upd H s.heap.objs.size (.tup [x, y])) (s.heap.objs.size + 1) = none := I1.hok.fresh (by show ha.objs.size ≤ s.heap.objs.size + 1; rw [q6]; exact Nat.le_refl _)
    refine ⟨.ref (s.heap.objs.size + 1), _, I2, rfl, ⟨_, _, x, y, rfl, I.hok.fresh (Nat.le_refl _), n2, rfl, fun l hl => by rw [I.list_inj hl hqx]; exact hx, fun l hl => by rw [I.list_inj hl hqy]; exact hy⟩, ⟨⟨.ref s.heap.objs.size, ?_⟩, ?_, ?_, ?_, ?_, ?_⟩, fun c hcm => ?_⟩
    · have e1 : ((i + 1 : Nat) : Int) = (i : Int) + 1 := by omega
      rw [e1]; exact e''
    · obtain ⟨f0, f, hff, hzz⟩ := q1
      exact ⟨f0, f, hff, (sb.2 _ (Ne.symm hez)).trans (q11 _ _ (Ne.symm hez) hzz)⟩
    · exact (sb.2 _ (Ne.symm heTI)).trans (q11 _ _ (Ne.symm heTI) (q7 _ _ D.TIz D.TITO D.TIi1 D.TIi2 hTI))
    · obtain ⟨x1, y1, hh⟩ := q2
      exact ⟨x1, y1, (sb.2 _ (Ne.symm heTO)).trans (q11 _ _ (Ne.symm heTO) hh)⟩
    · exact q3.at fun o q => (sb.2 _ (Ne.symm he1)).trans (q11 _ _ (Ne.symm he1) q)
    · exact q4.at fun o q => (sb.2 _ (Ne.symm he2)).trans (q11 _ _ (Ne.symm he2) q)
    · have hlt : c < s.heap.objs.size := by
        have e' : c = e ∨ c = z ∨ c = TI ∨ c = TO ∨ c = i1 ∨ c = i2 := by simpa using hcm
        rcases e' with q | q | q | q | q | q
        · rw [q]; exact hel
        · rw [q]; obtain ⟨_, _, _, hzz⟩ := hz; exact Heap.lt_size hzz
        · rw [q]; exact Heap.lt_size hTI
        · rw [q]; exact Heap.lt_size hTO
        · rw [q]; obtain ⟨_, e1, _⟩ := h1; exact Heap.lt_size e1
        · rw [q]; obtain ⟨_, e2, _⟩ := h2; exact Heap.lt_size e2
      rw [upd_ne (show c ≠ (s.heap.objs.size + 1 : Nat) from Nat.ne_of_lt (Nat.lt_succ_of_lt hlt)), upd_ne (Nat.ne_of_lt hlt)]
      exact (hf c hcm).1
  done := by
    intro X hP hw hK hc i pins s σ H E I hf st hg
    subst hP hw hK
    obtain ⟨⟨old, he⟩, hz, hTI, ⟨x0, y0, hTO⟩, h1, h2⟩ := st
    obtain ⟨xs, ys, hqx, hqy, hend⟩ := hg
    obtain ⟨its, rv, p, _⟩ := I.list hqx
    obtain ⟨its2, rv2, p2, _⟩ := I.list hqy
    have l1 := rv.length
    have l2 := rv2.length
    have hen : its.toArray[i]? = none ∨ its2.toArray[i]? = none := by
      rcases hend with q | q
      · exact .inl (by simp; omega)
      · exact .inr (by simp; omega)
    exact enumZ_end (I.ok.hd hc) D he hz hTI hTO h1 h2 p.isList p2.isList hen fun h' hk => ⟨rfl, I.turnedL (t' := s.toks) (ch := [e, z, TI, TO, i1, i2]) (fun c o hb q =>
      hk c o (fun q' => hb (by simp [q'])) (fun q' => hb (by simp [q'])) (fun q' => hb (by simp [q'])) (fun q' => hb (by simp [q'])) q) hf⟩
  self := fun A i s Q E st h => let ⟨⟨_, he⟩, _⟩ := st; wpAny_pyIter_enum he h
def iEnZip (K : PySem.W.Frag) (ta : TA) : TI := fun σ H R => ta σ H fun vs H1 => ∃ a b xs ys, vs = [.ref a, .ref b] ∧ SqL K H1 a xs ∧ SqL K H1 b ys ∧ R (Itez K a b) H1
theorem pi_enumZ {X : Cx} {e e2 : Expr} {ta : TA} {p pos p' pos' tpos : Pos} {elts : List Expr} {kk : Nat} (hg : Gl X "zip") (hm : X.mg "zip" = none) (hg' : Gl X "enumerate") (hm' : X.mg "enumerate" = none) (ha : PA X [e, e2] ta)
    (hs : starEach [e, e2] X.env = (false, eval e X.env) :: starEach [e2] X.env := by rfl) (hpl : (backTo pos (starEach [e2] X.env)).any (·.1) = false := by rfl)
    (hs' : starEach [.Call (.Name "zip" p) [e, e2] [] pos] X.env = [(false, eval (.Call (.Name "zip" p) [e, e2] [] pos) X.env)] := by rfl) :
    PI X (.Tuple elts kk tpos) (.Call (.Name "enumerate" p') [.Call (.Name "zip" p) [e, e2] [] pos] [] pos') (iEnZip X.K ta) := by
  refine ⟨fun pins s σ H R I h => ?_⟩
  refine Call_ (ld_blt I hg' hm' boot_enumerate (PyProof.Rows.callWith_type1 (PyProof.Rows.args_cons ?_ rfl) hs' rfl))
  refine Call_ (ld_blt I hg hm PyProof.Rows.boot_zip (PyProof.Rows.callWith_type1 (thn (ha.run pos pins s σ H _ I h) fun us s1 ⟨vs, H1, I1, r1, q1⟩ => ?_) hs hpl))
  obtain ⟨a, b, xs, ys, ex, hqx, hqy, q⟩ := q1
  subst ex
  cases r1 with
  | cons r rr =>
    cases rr with
    | cons r' rr =>
      cases rr
      cases r
      cases r'
      obtain ⟨its, rv, p1, _⟩ := I1.list hqx
      obtain ⟨its2, rv2, p2, _⟩ := I1.list hqy
      have la : a < s1.heap.objs.size := p1.lt
      have lb : b < s1.heap.objs.size := p2.lt
      refine call_zip_2 p1.isList p2.isList fun h' hz hTI hTO h1 h2 hsz hk => ?_
      have I2 : Inv X pins σ H1 { s1 with heap := h' } := I1.kept (t' := s1.toks) hk
      refine PyProof.Rows.args_nil ?_
      refine call_enum_zip (s := { s1 with heap := h' }) hz fun h2' he hsz2 hk2 => wpAny_pyIter_enum he ?_
      replace he : IsEnum h2' h'.objs.size (s1.heap.objs.size + 4) 0 .none := he
      rw [hsz] at he
      have I3 : Inv X pins σ H1 { s1 with heap := h2' } := I2.kept (t' := s1.toks) hk2
      have N := s1.heap.objs.size
      refine ⟨s1.heap.objs.size + 5, [s1.heap.objs.size + 5, s1.heap.objs.size + 4, s1.heap.objs.size + 2, s1.heap.objs.size + 3, s1.heap.objs.size, s1.heap.objs.size + 1], _, _, H1, ?_, I3,
        turn_enumZ (PySem.W.ktu_apart s1.heap.objs.size a b la lb) (Nat.ne_of_gt (Nat.lt_succ_self _)) (Nat.ne_of_gt (by show s1.heap.objs.size + 2 < s1.heap.objs.size + 5; omega)) (Nat.ne_of_gt (by show s1.heap.objs.size + 3 < s1.heap.objs.size + 5; omega)) (Nat.ne_of_gt (by show s1.heap.objs.size < s1.heap.objs.size + 5; omega)) (Nat.ne_of_gt (by show s1.heap.objs.size + 1 < s1.heap.objs.size + 5; omega)),
        ⟨⟨.none, he⟩, ⟨.none, false, .inl rfl, hk2 _ _ hz⟩, hk2 _ _ hTI, ⟨_, _, hk2 _ _ hTO⟩, h1.at fun o q => hk2 _ _ q, h2.at fun o q => hk2 _ _ q⟩, fun c hcm => ?_, q⟩
      · show Value.ref h'.objs.size = _
        rw [hsz]
      · have e' : c = s1.heap.objs.size + 5 ∨ c = s1.heap.objs.size + 4 ∨ c = s1.heap.objs.size + 2 ∨ c = s1.heap.objs.size + 3 ∨ c = s1.heap.objs.size ∨ c = s1.heap.objs.size + 1 := by simpa using hcm
        have hle : s1.heap.objs.size ≤ c := by
          rcases e' with z | z | z | z | z | z
          · rw [z]; exact Nat.le_add_right _ _
          · rw [z]; exact Nat.le_add_right _ _
          · rw [z]; exact Nat.le_add_right _ _
          · rw [z]; exact Nat.le_add_right _ _
          · rw [z]; exact Nat.le_refl _
          · rw [z]; exact Nat.le_add_right _ _
        exact I1.fpOk hle (I1.hok.fresh hle)
/-! ### in the layer -/
def enuD (ds : List D) : List D := ds.mapIdx fun i d => .tup [.int (i : Nat), d]
def iEz (m1 m2 : MI) : MI := fun ρ => (m1 ρ).bind fun p => (m2 p.2).map fun q => (enuD (zipD p.1 q.1), q.2)
def iEn (m : MI) : MI := fun ρ => (m ρ).map fun p => (enuD p.1, p.2)
theorem enuD_len (ds : List D) : (enuD ds).length = ds.length := by unfold enuD; rw [List.length_mapIdx]
theorem enuD_get {ds : List D} {i : Nat} {d : D} (h : ds[i]? = some d) : (enuD ds)[i]? = some (.tup [.int (i : Nat), d]) := by
  unfold enuD
  rw [List.getElem?_mapIdx, h]
  rfl
theorem itd_enumZ {K : PySem.W.Frag} {H0 : Hp} {p q : Addr} {vs ws : List V} {xs ys : List D} (hl : SqL K H0 p vs) (hd : DenL K H0 vs xs) (hl2 : SqL K H0 q ws) (hd2 : DenL K H0 ws ys) : ItD K H0 (Itez K p q) (enuD (zipD xs ys)) where
  go := fun i H e h => by
    rw [enuD_len] at h
    unfold zipD at h
    rw [List.length_zipWith] at h
    obtain ⟨v, h1, _⟩ := hd.get (List.getElem?_eq_getElem (show i < xs.length by omega))
    obtain ⟨w, h2, _⟩ := hd2.get (List.getElem?_eq_getElem (show i < ys.length by omega))
    exact ⟨vs, ws, v, w, ex_l e hl, ex_l e hl2, h1, h2⟩
  yld := fun i H x H' e h hy => by
    obtain ⟨T, T2, v, w, rfl, nT, nT2, rfl, f1, f2⟩ := hy
    obtain ⟨d1, g1, k1⟩ := hd.getV (f1 vs (ex_l e hl))
    obtain ⟨d2, g2, k2⟩ := hd2.getV (f2 ws (ex_l e hl2))
    have e12 : Ex H (upd (upd H T (.tup [v, w])) T2 (.tup [.int (i : Nat), .ref T])) := (Ex.new nT).trans (Ex.new nT2)
    refine ⟨e12, .tup [.int (i : Nat), .tup [d1, d2]], enuD_get ?_, ?_⟩
    · unfold zipD
      rw [List.getElem?_zipWith, g1, g2]
    · refine .tup (st_of upd_same) (.cons (.int _) (.cons ?_ .nil))
      refine .tup (st_of ?_) (.cons (Den.ex k1 (e.trans e12)) (.cons (Den.ex k2 (e.trans e12)) .nil))
      have nz : T ≠ T2 := fun z => by rw [← z, upd_same] at nT2; cases nT2
      rw [upd_ne nz]
      exact upd_same
  stop := fun i H e h => by
    rw [enuD_len] at h
    unfold zipD at h
    rw [List.length_zipWith] at h
    refine ⟨vs, ws, ex_l e hl, ex_l e hl2, ?_⟩
    rw [hd.length, hd2.length]
    omega
section
variable {X : Cx} {W : WX} {a b c e : Expr} {pos p pos' p' : Pos}
theorem i_enumZ {m1 m2 : MI} {elts : List Expr} {kk : Nat} {tpos : Pos} (hm : X.mg "zip" = none) (hm' : X.mg "enumerate" = none) (h1 : JL X a m1) (h2 : JL X b m2) (hg : Gl X "zip" := by rfl) (hg' : Gl X "enumerate" := by rfl)
    (hs : starEach [a, b] X.env = (false, eval a X.env) :: starEach [b] X.env := by rfl) (hs2 : starEach (b :: []) X.env = (false, eval b X.env) :: starEach [] X.env := by rfl) (hpl : (backTo pos (starEach [b] X.env)).any (·.1) = false := by rfl)
    (hs' : starEach [.Call (.Name "zip" p) [a, b] [] pos] X.env = [(false, eval (.Call (.Name "zip" p) [a, b] [] pos) X.env)] := by rfl) :
    JI X (.Tuple elts kk tpos) (.Call (.Name "enumerate" p') [.Call (.Name "zip" p) [a, b] [] pos] [] pos') (iEz m1 m2) := by
  obtain ⟨ta, pa, va⟩ := h1
  obtain ⟨tb, pb, vb⟩ := h2
  refine ⟨_, pi_enumZ hg hm hg' hm' (pa_cons pa (pa_cons pb pa_nil hs2) hs) hs hpl hs', fun H0 σ H ρ ds ρ' ok h R' k => ?_⟩
  unfold iEz at h
  obtain ⟨⟨xs, ρ1⟩, hm1, h⟩ := Option.bind_eq_some_iff.mp h
  obtain ⟨⟨ys, ρ2⟩, hm2, h⟩ := Option.map_eq_some_iff.mp h
  cases h
  refine va H0 σ H ρ xs ρ1 ok hm1 H (Ex.refl H) _ fun p vs H2 H0' e2 e0 ok1 l1 g1 => ?_
  refine vb H0' σ H2 ρ1 ys ρ2 ok1 hm2 H2 (Ex.refl H2) _ fun q ws H3 H0'' e3 e0' ok2 l2 g2 => ?_
  exact ⟨p, q, vs, ws, rfl, ex_l (e0'.trans ok2.base) l1, ex_l ok2.base l2, k _ H3 H0'' (e0.trans e0') ok2 (e2.trans e3) (itd_enumZ (ex_l e0' l1) (g1.ex e0') l2 g2)⟩
theorem itd_enum {K : PySem.W.Frag} {H0 : Hp} {p : Addr} {vs : List V} {xs : List D} (hl : SqL K H0 p vs) (hd : DenL K H0 vs xs) : ItD K H0 (Ite K p) (enuD xs) where
  go := fun i H e h => by
    rw [enuD_len] at h
    obtain ⟨v, h1, _⟩ := hd.get (List.getElem?_eq_getElem h)
    exact ⟨vs, v, ex_l e hl, h1⟩
  yld := fun i H x H' e h hy => by
    obtain ⟨T, v, rfl, nT, rfl, f1⟩ := hy
    obtain ⟨d1, g1, k1⟩ := hd.getV (f1 vs (ex_l e hl))
    exact ⟨Ex.new nT, .tup [.int (i : Nat), d1], enuD_get g1, .tup (st_of upd_same) (.cons (.int _) (.cons (Den.ex k1 (e.trans (Ex.new nT))) .nil))⟩
  stop := fun i H e h => by
    rw [enuD_len] at h
    exact ⟨vs, ex_l e hl, by rw [hd.length]; exact h⟩
theorem i_enum {m : MI} {elts : List Expr} {kk : Nat} {tpos : Pos} (hm : X.mg "enumerate" = none) (h1 : JL X a m) (hg : Gl X "enumerate" := by rfl) (hs : starEach [a] X.env = [(false, eval a X.env)] := by rfl) :
    JI X (.Tuple elts kk tpos) (.Call (.Name "enumerate" p) [a] [] pos) (iEn m) := by
  obtain ⟨ta, pa, va⟩ := h1
  refine ⟨_, pi_enum hg hm (pa_cons pa pa_nil hs) hs, fun H0 σ H ρ ds ρ' ok h R' k => ?_⟩
  unfold iEn at h
  obtain ⟨⟨xs, ρ1⟩, hm1, h⟩ := Option.map_eq_some_iff.mp h
  cases h
  refine va H0 σ H ρ xs ρ1 ok hm1 H (Ex.refl H) _ fun p vs H2 H0' e2 e0 ok1 l1 g1 => ?_
  exact ⟨p, vs, rfl, ex_l ok1.base l1, k _ H2 H0' e0 ok1 e2 (itd_enum l1 g1)⟩
end
end
end Tl

namespace Tl
open PySem PySem.Spec PyProof.Rows L2 Evl
noncomputable section
/-- a loop that folds -/
theorem loop_fold {α β : Type} {g : MG} {body : MS} (e : α → D) (R : β → Nat → Rho → Prop) (step : β → α → β) : ∀ (as : List α), (∀ a ∈ as, ∀ b k ρ, R b (k + 1) ρ → ∃ ρ1 ρ2, g (e a) ρ = some ρ1 ∧ body ρ1 = some (.nx ρ2) ∧ R (step b a) k ρ2) →
    ∀ b k ρ, R b (as.length + k) ρ → ∃ ρ', loopM g body (as.map e) ρ = some (.nx ρ') ∧ R (as.foldl step b) k ρ'
  | [], _, b, k, ρ, h => ⟨ρ, rfl, by rw [List.length_nil, Nat.zero_add] at h; exact h⟩
  | a :: as, hs, b, k, ρ, h => by
    obtain ⟨ρ1, ρ2, h1, h2, h3⟩ := hs a (by simp) b (as.length + k) ρ (by rw [List.length_cons] at h; rw [show as.length + k + 1 = as.length + 1 + k by omega]; exact h)
    obtain ⟨ρ', h4, h5⟩ := loop_fold e R step as (fun a ha => hs a (by simp [ha])) (step b a) k ρ2 h3
    refine ⟨ρ', ?_, h5⟩
    rw [List.map_cons]
    unfold loopM
    rw [h1]
    show (match body ρ1 with | some (.nx ρ') => loopM g body (as.map e) ρ' | some (.cnt ρ') => loopM g body (as.map e) ρ' | some (.brk ρ') => some (.nx ρ') | r => r) = _
    rw [h2]
    exact h4
theorem loop_nx {g : MG} {body : MS} {d : D} {ds : List D} {ρ ρ1 ρ2 : Rho} (h : g d ρ = some ρ1) (hb : body ρ1 = some (.nx ρ2)) : loopM g body (d :: ds) ρ = loopM g body ds ρ2 := by
  conv => lhs; unfold loopM
  rw [h]
  show (match body ρ1 with | some (.nx ρ') => loopM g body ds ρ' | some (.cnt ρ') => loopM g body ds ρ' | some (.brk ρ') => some (.nx ρ') | r => r) = _
  rw [hb]
theorem loop_ret {g : MG} {body : MS} {d : D} {ds : List D} {ρ ρ1 : Rho} {r : R} (h : g d ρ = some ρ1) (hb : body ρ1 = some (.ret r)) : loopM g body (d :: ds) ρ = some (.ret r) := by
  conv => lhs; unfold loopM
  rw [h]
  show (match body ρ1 with | some (.nx ρ') => loopM g body ds ρ' | some (.cnt ρ') => loopM g body ds ρ' | some (.brk ρ') => some (.nx ρ') | r => r) = _
  rw [hb]
/-! ### rows read -/
def halvesOf (bs : List Int) : List Int := bs.flatMap fun b => [b / 16, b % 16]
theorem halvesOf_pairs : ∀ hs : List Int, hs.length % 2 = 0 → (∀ h ∈ hs, 0 ≤ h ∧ h < 16) → halvesOf (pairs hs) = hs
  | [], _, _ => rfl
  | [_], h, _ => by simp at h
  | a :: b :: t, h, hb => by
    have h1 := hb a (by simp)
    have h2 := hb b (by simp)
    have ih := halvesOf_pairs t (by simp only [List.length_cons] at h; omega) (fun z hz => hb z (by simp [hz]))
    show (16 * a + b) / 16 :: (16 * a + b) % 16 :: halvesOf (pairs t) = _
    rw [ih]
    congr 1
    · omega
    · congr 1; omega
theorem halvesOf_len (bs : List Int) : (halvesOf bs).length = 2 * bs.length := by
  induction bs with
  | nil => rfl
  | cons b bs ih =>
    show (halvesOf bs).length + 2 = _
    rw [ih, List.length_cons]; omega
def Pl.lo : Pl → Int
  | .fig => 0 | .sign => 10 | .ahead => 0 | .zone => 15
def Pl.hi : Pl → Int
  | .fig => 9 | .sign => 15 | .ahead => 0 | .zone => 15
def right (p : Pl) (h : Int) : Prop := p.lo ≤ h ∧ h ≤ p.hi
instance (p : Pl) (h : Int) : Decidable (right p h) := by unfold right; infer_instance
/-- places and halves that are right, one by one -/
inductive Fit : List Pl → List Int → Prop
  | nil : Fit [] []
  | cons {p : Pl} {h : Int} {ps : List Pl} {hs : List Int} : right p h → Fit ps hs → Fit (p :: ps) (h :: hs)
theorem Fit.append : ∀ {ps qs : List Pl} {hs gs : List Int}, Fit ps hs → Fit qs gs → Fit (ps ++ qs) (hs ++ gs)
  | _, _, _, _, .nil, h => h
  | _, _, _, _, .cons a t, h => .cons a (t.append h)
theorem Fit.reverse : ∀ {ps : List Pl} {hs : List Int}, Fit ps hs → Fit ps.reverse hs.reverse
  | _, _, .nil => .nil
  | _, _, .cons a t => by rw [List.reverse_cons, List.reverse_cons]; exact t.reverse.append (.cons a .nil)
theorem Fit.len : ∀ {ps : List Pl} {hs : List Int}, Fit ps hs → ps.length = hs.length
  | _, _, .nil => rfl
  | _, _, .cons _ t => congrArg (· + 1) t.len
theorem keepL_fit {s : Int} (hs : 10 ≤ s ∧ s ≤ 15) : ∀ (ps : List Pl) (r : Int), Fit ps (keepL s ps r)
  | [], _ => .nil
  | .fig :: t, r => .cons (show 0 ≤ r % 10 ∧ r % 10 ≤ 9 by omega) (keepL_fit hs t _)
  | .sign :: t, r => .cons hs (keepL_fit hs t _)
  | .ahead :: t, r => .cons (show (0 : Int) ≤ 0 ∧ (0 : Int) ≤ 0 by omega) (keepL_fit hs t _)
  | .zone :: t, r => .cons (show (15 : Int) ≤ 15 ∧ (15 : Int) ≤ 15 by omega) (keepL_fit hs t _)
theorem halvesP_fit {s : Int} (hs : 10 ≤ s ∧ s ≤ 15) (ps : List Pl) (r : Int) : Fit ps (halvesP ps s r) := by
  have h := (keepL_fit hs ps.reverse r).reverse
  rw [List.reverse_reverse] at h
  exact h
/-- the first half that is wrong, from place k on -/
def amiss : Nat → List Pl → List Int → Option (Nat × Pl)
  | k, p :: ps, h :: hs => if right p h then amiss (k + 1) ps hs else some (k, p)
  | _, _, _ => none
theorem Fit.none : ∀ {ps : List Pl} {hs : List Int} (k : Nat), Fit ps hs → amiss k ps hs = none
  | _, _, _, .nil => rfl
  | _, _, k, .cons a t => by unfold amiss; rw [if_pos a]; exact t.none (k + 1)
def stepR (a : Int × Bool) (ph : Pl × Int) : Int × Bool := match ph.1 with
  | .fig => (10 * a.1 + ph.2, a.2)
  | .sign => (a.1, decide (ph.2 = 11) || decide (ph.2 = 13))
  | _ => a
def readL (ps : List Pl) (hs : List Int) (a : Int × Bool) : Int × Bool := (List.zip ps hs).foldl stepR a
theorem readL_snoc {ps : List Pl} {hs : List Int} {p : Pl} {h : Int} {a : Int × Bool} (hl : ps.length = hs.length) : readL (ps ++ [p]) (hs ++ [h]) a = stepR (readL ps hs a) (p, h) := by
  unfold readL
  rw [List.zip_append hl, List.foldl_append]
  rfl
def nFig : List Pl → Nat
  | [] => 0
  | .fig :: t => nFig t + 1
  | _ :: t => nFig t
def hasSign : List Pl → Bool
  | [] => false
  | .sign :: _ => true
  | _ :: t => hasSign t
theorem read_rev (s : Int) : ∀ (rs : List Pl) (r : Int) (a : Int × Bool), readL rs.reverse (keepL s rs r).reverse a = (a.1 * 10 ^ nFig rs + r % 10 ^ nFig rs, if hasSign rs then decide (s = 11) || decide (s = 13) else a.2)
  | [], r, a => by simp [readL, nFig, hasSign, Int.emod_one]
  | .fig :: t, r, a => by
    show readL (.fig :: t).reverse (r % 10 :: keepL s t (r / 10)).reverse a = _
    rw [List.reverse_cons, List.reverse_cons, readL_snoc (by rw [List.length_reverse, List.length_reverse, keepL_len]), read_rev s t (r / 10) a]
    show (10 * (a.1 * 10 ^ nFig t + r / 10 % 10 ^ nFig t) + r % 10, _) = (a.1 * 10 ^ (nFig t + 1) + r % 10 ^ (nFig t + 1), _)
    congr 1
    have p0 : (0 : Int) < 10 ^ nFig t := Int.pow_pos (by decide)
    rw [Int.pow_succ]
    generalize (10 : Int) ^ nFig t = p at p0
    have e1 : r % (p * 10) = 10 * (r / 10 % p) + r % 10 := by
      have h0 := Int.emod_nonneg (r / 10) (show p ≠ 0 by omega)
      have h1 := Int.emod_lt_of_pos (r / 10) p0
      have h2 : r = (p * 10) * (r / 10 / p) + (10 * (r / 10 % p) + r % 10) := by
        have a1 := Int.mul_ediv_add_emod (r / 10) p
        have a2 := Int.mul_ediv_add_emod r 10
        generalize r / 10 / p = q at a1
        generalize r / 10 % p = u at a1
        have e3 : p * 10 * q = 10 * (p * q) := by rw [Int.mul_comm p 10, Int.mul_assoc]
        rw [e3]
        omega
      conv => lhs; rw [h2]
      rw [Int.add_comm, Int.add_mul_emod_self_left]
      exact Int.emod_eq_of_lt (by omega) (by omega)
    rw [e1]
    have e2 : a.1 * (p * 10) = 10 * (a.1 * p) := by rw [← Int.mul_assoc, Int.mul_comm]
    rw [e2]
    omega
  | .sign :: t, r, a => by
    show readL (.sign :: t).reverse (s :: keepL s t r).reverse a = _
    rw [List.reverse_cons, List.reverse_cons, readL_snoc (by rw [List.length_reverse, List.length_reverse, keepL_len]), read_rev s t r a]
    rfl
  | .ahead :: t, r, a => by
    show readL (.ahead :: t).reverse (0 :: keepL s t r).reverse a = _
    rw [List.reverse_cons, List.reverse_cons, readL_snoc (by rw [List.length_reverse, List.length_reverse, keepL_len]), read_rev s t r a]
    rfl
  | .zone :: t, r, a => by
    show readL (.zone :: t).reverse (15 :: keepL s t r).reverse a = _
    rw [List.reverse_cons, List.reverse_cons, readL_snoc (by rw [List.length_reverse, List.length_reverse, keepL_len]), read_rev s t r a]
    rfl
theorem nFig_append : ∀ ps qs : List Pl, nFig (ps ++ qs) = nFig ps + nFig qs
  | [], qs => by simp [nFig]
  | .fig :: t, qs => by show nFig (t ++ qs) + 1 = nFig t + 1 + nFig qs; rw [nFig_append t qs]; omega
  | .sign :: t, qs => nFig_append t qs
  | .ahead :: t, qs => nFig_append t qs
  | .zone :: t, qs => nFig_append t qs
theorem hasSign_append : ∀ ps qs : List Pl, hasSign (ps ++ qs) = (hasSign ps || hasSign qs)
  | [], qs => by simp [hasSign]
  | .fig :: t, qs => hasSign_append t qs
  | .sign :: t, qs => rfl
  | .ahead :: t, qs => hasSign_append t qs
  | .zone :: t, qs => hasSign_append t qs
theorem nFig_rev : ∀ ps : List Pl, nFig ps.reverse = nFig ps
  | [] => rfl
  | p :: t => by
    rw [List.reverse_cons, nFig_append, nFig_rev t]
    cases p <;> simp [nFig]
theorem hasSign_rev : ∀ ps : List Pl, hasSign ps.reverse = hasSign ps
  | [] => rfl
  | p :: t => by
    rw [List.reverse_cons, hasSign_append, hasSign_rev t]
    cases p <;> simp [hasSign]
theorem nFig_rep : ∀ n : Nat, nFig (List.replicate n .fig) = n
  | 0 => rfl
  | n + 1 => by rw [List.replicate_succ]; show nFig _ + 1 = _; rw [nFig_rep n]
theorem hasSign_rep : ∀ n : Nat, hasSign (List.replicate n .fig) = false
  | 0 => rfl
  | n + 1 => by rw [List.replicate_succ]; exact hasSign_rep n
theorem nFig_zones : ∀ n : Nat, nFig (List.replicate n [Pl.zone, Pl.fig]).flatten = n
  | 0 => rfl
  | n + 1 => by rw [List.replicate_succ, List.flatten_cons, nFig_append, nFig_zones n]; show 1 + n = _; omega
theorem hasSign_zones : ∀ n : Nat, hasSign (List.replicate n [Pl.zone, Pl.fig]).flatten = false
  | 0 => rfl
  | n + 1 => by rw [List.replicate_succ, List.flatten_cons, hasSign_append, hasSign_zones n]; rfl
theorem packedP_fig (n : Nat) (e : Bool) : nFig (packedP n e) = n ∧ hasSign (packedP n e) = e := by
  unfold packedP
  split <;> cases e <;> simp [nFig_append, hasSign_append, nFig_rep, hasSign_rep, nFig, hasSign]
theorem spreadP_fig (n : Nat) (e : Bool) (h : 1 ≤ n) : nFig (spreadP n e) = n ∧ hasSign (spreadP n e) = e := by
  unfold spreadP
  cases e <;> simp [nFig_append, hasSign_append, nFig_zones, hasSign_zones, nFig, hasSign]
  omega
theorem read_halves (ps : List Pl) (s r : Int) (a : Int × Bool) : readL ps (halvesP ps s r) a = (a.1 * 10 ^ nFig ps + r % 10 ^ nFig ps, if hasSign ps then decide (s = 11) || decide (s = 13) else a.2) := by
  have h := read_rev s ps.reverse r a
  rw [List.reverse_reverse, nFig_rev, hasSign_rev] at h
  exact h
/-! ### enumerate, from k on -/
def enuF : Nat → List D → List D
  | _, [] => []
  | k, d :: ds => .tup [.int (k : Nat), d] :: enuF (k + 1) ds
theorem mapIdx_enuF : ∀ (ds : List D) (k : Nat), (ds.mapIdx fun i d => D.tup [.int ((k + i : Nat) : Int), d]) = enuF k ds
  | [], _ => rfl
  | d :: ds, k => by
    rw [List.mapIdx_cons]
    unfold enuF
    rw [← mapIdx_enuF ds (k + 1)]
    congr 1
    congr 1
    funext i d
    rw [show k + (i + 1) = k + 1 + i by omega]
theorem enuD_eq (ds : List D) : enuD ds = enuF 0 ds := by
  unfold enuD
  rw [← mapIdx_enuF ds 0]
  congr 1
  funext i d
  rw [Nat.zero_add]
theorem zipD_pl (ps : List Pl) (hs : List Int) : zipD (ps.map plD) (hs.map .int) = (List.zip ps hs).map fun p => D.tup [plD p.1, .int p.2] := by
  unfold zipD
  induction ps generalizing hs with
  | nil => rfl
  | cons x xs ih =>
    cases hs with
    | nil => rfl
    | cons y ys => simp only [List.map_cons, List.zipWith_cons_cons, List.zip_cons_cons, ih]
end
end Tl

namespace Tl
open PySem PySem.Spec PyProof.Rows L2 Evl
noncomputable section
section
variable {X : Cx} {W : WX} {a b c e : Expr} {pos p pos2 p2 p3 : Pos} {f1 f2 f3 : ME} {es : List Expr} {ma : MA}
/-! ### [xs, ys, ..][i], of lists -/
def mPick (ma : MA) (f : ME) : ME := fun ρ => (ma ρ).bind fun rs => (asInt (f ρ)).bind fun i => if szOk rs.length = true then (atI rs i).bind fun r => (match argN r with | .ro xs => some (.ro xs) | _ => none) else none
theorem ArgL.get {K : PySem.W.Frag} {H : Hp} : ∀ {vs : List V} {rs : List R} {i : Nat} {r : R}, ArgL K H vs rs → rs[i]? = some r → ∃ v, vs[i]? = some v ∧ ArgOk K H v r
  | _, _, 0, _, .cons h _, e => by cases e; exact ⟨_, rfl, h⟩
  | _, _, i + 1, _, .cons _ t, e => t.get (i := i) e
  | _, _, _, _, .nil, e => by cases e
theorem atI_arg {K : PySem.W.Frag} {H : Hp} {vs : List V} {rs : List R} {i : Int} {r : R} (h : ArgL K H vs rs) (ha : atI rs i = some r) : ∃ v, atI vs i = some v ∧ ArgOk K H v r := by
  unfold atI at ha ⊢
  rw [h.length]
  obtain ⟨j, hj, ha⟩ := Option.bind_eq_some_iff.mp ha
  obtain ⟨v, h1, h2⟩ := h.get ha
  exact ⟨v, by rw [hj]; exact h1, h2⟩
theorem x_pick (h : JA X es ma) (hb : JE X b f2) (hs : PlainIx b := by exact fun _ _ => rfl) : JE X (.Subscript (.List es p) b pos) (mPick ma f2) := by
  obtain ⟨ta, pa, va⟩ := h
  obtain ⟨tb, pb, vb⟩ := hb
  refine ⟨_, pe_ix ix_list (pe_lst pa) pb hs, fun H0 σ H ρ r ok h => ?_⟩
  unfold mPick at h
  obtain ⟨rs, hrs, h⟩ := Option.bind_eq_some_iff.mp h
  obtain ⟨i, hi, h⟩ := Option.bind_eq_some_iff.mp h
  split at h
  · rename_i hz
    obtain ⟨r1, hr1, h⟩ := Option.bind_eq_some_iff.mp h
    intro H1 e1 Q q
    refine va _ _ _ _ _ ok hrs H1 e1 _ fun vs H2 e2 g => ?_
    refine ⟨by rw [g.length]; exact szOk_of hz, fun l nl => ?_⟩
    have e3 : Ex H2 (upd H2 l (.lst vs)) := Ex.new nl
    refine (vb _ _ _ _ _ ok (asInt_some hi)).int _ ((e1.trans e2).trans e3) _ fun H4 e4 => ?_
    obtain ⟨w, h1, h2⟩ := atI_arg ((g.ex e3).ex e4) hr1
    refine ⟨l, vs, i, w, rfl, rfl, ex_l e4 (sq_of upd_same), h1, q w H4 ((e2.trans e3).trans e4) ?_⟩
    have h3 := h2.norm
    revert h h3
    cases argN r1 with
    | ro xs => intro h h3; cases h; exact h3
    | dat d => intro h; cases h
    | lst xs => intro h; cases h
    | new xs => intro h; cases h
  · cases h
/-! ### xs.index(text) -/
def txtD : D → Bool
  | .str _ => true
  | _ => false
def strIx (z : Str) : List D → Option Nat
  | [] => none
  | .str y :: r => if y = z then some 0 else (strIx z r).map (· + 1)
  | _ :: _ => none
def mIdx (f g : ME) : ME := fun ρ => (asLst (f ρ)).bind fun xs => (asStr (g ρ)).bind fun z => if xs.all txtD = true then (strIx z xs).map fun j => .dat (.int (j : Nat)) else none
theorem strIx_is {K : PySem.W.Frag} {H : Hp} {z : Str} : ∀ {vs : List V} {xs : List D} {j : Nat}, DenL K H vs xs → strIx z xs = some j → (∃ v, vs[j]? = some v ∧ eqV v (.str z) = true) ∧ ∀ m v, m < j → vs[m]? = some v → eqV v (.str z) = false
  | _, _, _, .nil, h => by cases h
  | _, _, j, .cons hd t, h => by
    cases hd with
    | str y =>
      unfold strIx at h
      by_cases e : y = z
      · rw [if_pos e] at h
        cases h
        subst e
        exact ⟨⟨_, rfl, by show (y == y) = true; exact beq_self_eq_true _⟩, fun m v hm => absurd hm (Nat.not_lt_zero _)⟩
      · rw [if_neg e] at h
        obtain ⟨k, hk, h⟩ := Option.map_eq_some_iff.mp h
        subst h
        obtain ⟨⟨v, h1, h2⟩, h3⟩ := strIx_is t hk
        refine ⟨⟨v, h1, h2⟩, fun m v hm hv => ?_⟩
        cases m with
        | zero =>
          cases hv
          show (y == z) = false
          exact beq_false_of_ne e
        | succ m => exact h3 m v (by omega) hv
    | non => cases h
    | bl => cases h
    | int => cases h
    | tup _ _ => cases h
theorem flat_txt {K : PySem.W.Frag} {H : Hp} : ∀ {vs : List V} {xs : List D}, DenL K H vs xs → xs.all txtD = true → vs.all flatV = true
  | _, _, .nil, _ => rfl
  | _, _, .cons hd t, h => by
    rw [List.all_cons, Bool.and_eq_true] at h
    rw [List.all_cons, flat_txt t h.2]
    cases hd with
    | str y => rfl
    | non => exact absurd h.1 (by decide)
    | bl => exact absurd h.1 (by intro z; cases z)
    | int => exact absurd h.1 (by intro z; cases z)
    | tup _ _ => exact absurd h.1 (by intro z; cases z)
theorem x_idx (ha : JE X a f1) (hb : JE X b f2) (hst : starEach (b :: []) X.env = (false, eval b X.env) :: starEach [] X.env := by rfl)
    (hpe : ∀ to ta, PE X a to → PA X [b] ta → PE X (.Call (.Attribute a "index" p2) [b] [] p3) (tBM X.K "list" (rIndex X.K) to ta) := by exact fun _ _ h1 h2 => pe_bm PySem.F.plainAttrs_list PySem.F.slot_list_index PySem.F.type_list_index mt_index h1 h2) :
    JE X (.Call (.Attribute a "index" p2) [b] [] p3) (mIdx f1 f2) := by
  obtain ⟨ta, pa, va⟩ := ha
  obtain ⟨tb, pb, vb⟩ := hb
  refine ⟨_, hpe _ _ pa (pa_cons pb pa_nil hst), fun H0 σ H ρ r ok h => ?_⟩
  unfold mIdx at h
  obtain ⟨xs, hx, h⟩ := Option.bind_eq_some_iff.mp h
  obtain ⟨z, hz, h⟩ := Option.bind_eq_some_iff.mp h
  split at h
  · rename_i hal
    obtain ⟨j, hj, h⟩ := Option.map_eq_some_iff.mp h
    subst h
    intro H1 e1 Q q
    refine ev_lst hx (fun r hr => va _ _ _ _ _ ok hr) H1 e1 _ fun v H2 e2 ⟨l, vs, hv, hl, hdn⟩ => ?_
    subst hv
    refine ⟨.inl ⟨rfl, _, hl⟩, ?_⟩
    refine (vb _ _ _ _ _ ok (asStr_some hz)).str H2 (e1.trans e2) _ fun H3 e3 => ?_
    obtain ⟨⟨w, h1, h2⟩, h3⟩ := strIx_is (hdn.ex e3) hj
    exact ⟨l, vs, .str z, j, w, rfl, rfl, ex_l e3 hl, rfl, flat_txt (hdn.ex e3) hal, h1, h2, h3, q _ H3 (e2.trans e3) (.int _)⟩
  · cases h
end
end
end Tl

namespace Tl
open PySem PySem.Spec PyProof.Rows L2 Evl
noncomputable section
/-! ### what a good row is worth -/
theorem read_bd : ∀ {ps : List Pl} {hs : List Int} (a : Int × Bool) (k : Nat), Fit ps hs → 0 ≤ a.1 → a.1 < 10 ^ k → 0 ≤ (readL ps hs a).1 ∧ (readL ps hs a).1 < 10 ^ (k + nFig ps)
  | _, _, a, k, .nil, h0, h1 => ⟨h0, h1⟩
  | _, _, a, k, .cons (p := p) (h := h) (ps := ps) (hs := hs) r t, h0, h1 => by
    show 0 ≤ (readL ps hs (stepR a (p, h))).1 ∧ (readL ps hs (stepR a (p, h))).1 < _
    cases p with
    | fig =>
      have r' : 0 ≤ h ∧ h ≤ 9 := r
      have ih := read_bd (stepR a (.fig, h)) (k + 1) t (by show 0 ≤ 10 * a.1 + h; omega) (by show 10 * a.1 + h < 10 ^ (k + 1); rw [Int.pow_succ]; omega)
      show _ ∧ _ < (10 : Int) ^ (k + (nFig ps + 1))
      rw [show k + (nFig ps + 1) = k + 1 + nFig ps by omega]
      exact ih
    | sign => exact read_bd (stepR a (.sign, h)) k t h0 h1
    | ahead => exact read_bd a k t h0 h1
    | zone => exact read_bd a k t h0 h1
theorem read_nosign : ∀ (ps : List Pl) (hs : List Int) (a : Int × Bool), hasSign ps = false → (readL ps hs a).2 = a.2
  | [], _, _, _ => rfl
  | _ :: _, [], _, _ => rfl
  | .fig :: t, h :: hs, a, e => read_nosign t hs _ e
  | .sign :: t, h :: hs, a, e => by cases e
  | .ahead :: t, h :: hs, a, e => read_nosign t hs _ e
  | .zone :: t, h :: hs, a, e => read_nosign t hs _ e
def once : List Pl → Bool
  | [] => true
  | .sign :: t => !hasSign t
  | _ :: t => once t
theorem once_append : ∀ ps qs : List Pl, hasSign ps = false → once (ps ++ qs) = once qs
  | [], qs, _ => rfl
  | .fig :: t, qs, e => once_append t qs e
  | .sign :: t, qs, e => by cases e
  | .ahead :: t, qs, e => once_append t qs e
  | .zone :: t, qs, e => once_append t qs e
theorem sign_at : ∀ (ps : List Pl) (hs : List Int), ps.length = hs.length → hasSign ps = true → once ps = true → ∃ j h, strIx "sign" (ps.map plD) = some j ∧ hs[j]? = some h ∧ ∀ a, (readL ps hs a).2 = (decide (h = 11) || decide (h = 13))
  | [], _, _, e, _ => by cases e
  | _ :: _, [], e, _, _ => by cases e
  | .sign :: t, h :: hs, _, _, o => ⟨0, h, rfl, rfl, fun a => read_nosign t hs _ (by simpa [once] using o)⟩
  | .fig :: t, h :: hs, l, e, o => by
    obtain ⟨j, g, h1, h2, h3⟩ := sign_at t hs (by simpa using l) e o
    refine ⟨j + 1, g, ?_, h2, fun a => h3 _⟩
    show (if ("figure" : Str) = "sign" then some 0 else (strIx "sign" (t.map plD)).map (· + 1)) = _
    rw [if_neg (show ¬ ("figure" : Str) = "sign" by decide), h1]
    rfl
  | .ahead :: t, h :: hs, l, e, o => by
    obtain ⟨j, g, h1, h2, h3⟩ := sign_at t hs (by simpa using l) e o
    refine ⟨j + 1, g, ?_, h2, fun a => h3 _⟩
    show (if ("ahead" : Str) = "sign" then some 0 else (strIx "sign" (t.map plD)).map (· + 1)) = _
    rw [if_neg (show ¬ ("ahead" : Str) = "sign" by decide), h1]
    rfl
  | .zone :: t, h :: hs, l, e, o => by
    obtain ⟨j, g, h1, h2, h3⟩ := sign_at t hs (by simpa using l) e o
    refine ⟨j + 1, g, ?_, h2, fun a => h3 _⟩
    show (if ("zone" : Str) = "sign" then some 0 else (strIx "sign" (t.map plD)).map (· + 1)) = _
    rw [if_neg (show ¬ ("zone" : Str) = "sign" by decide), h1]
    rfl
theorem packedP_once (n : Nat) (e : Bool) : once (packedP n e) = true := by
  unfold packedP
  rw [once_append _ _ (by split <;> rfl), once_append _ _ (hasSign_rep n)]
  cases e <;> rfl
theorem spreadP_once (n : Nat) (e : Bool) : once (spreadP n e) = true := by
  unfold spreadP
  cases e with
  | true =>
    show once ((List.replicate (n - 1) [Pl.zone, Pl.fig]).flatten ++ [.sign, .fig]) = true
    rw [once_append _ _ (hasSign_zones _)]
    rfl
  | false =>
    show once (List.replicate n [Pl.zone, Pl.fig]).flatten = true
    have h := once_append (List.replicate n [Pl.zone, Pl.fig]).flatten [] (hasSign_zones _)
    rw [List.append_nil] at h
    exact h
theorem txt_pl (ps : List Pl) : (ps.map plD).all txtD = true := by
  rw [List.all_map]
  exact List.all_eq_true.mpr fun p _ => rfl
/-- a fit from the look -/
theorem fit_of : ∀ (ps : List Pl) (hs : List Int) (k : Nat), ps.length = hs.length → amiss k ps hs = none → Fit ps hs
  | [], [], _, _, _ => .nil
  | [], _ :: _, _, e, _ => by cases e
  | _ :: _, [], _, e, _ => by cases e
  | p :: ps, h :: hs, k, l, e => by
    unfold amiss at e
    split at e
    · rename_i r
      exact .cons r (fit_of ps hs (k + 1) (by simpa using l) e)
    · cases e
theorem set_bd {hs : List Int} {j : Nat} {v : Int} (h : ∀ x ∈ hs, 0 ≤ x ∧ x < 16) (hv : 0 ≤ v ∧ v < 16) : ∀ x ∈ hs.set j v, 0 ≤ x ∧ x < 16 := by
  intro x hx
  rcases List.mem_or_eq_of_mem_set hx with z | z
  · exact h x z
  · subst z; exact hv
theorem ixN_in {n : Nat} {i : Int} (h0 : 0 ≤ i) (h1 : i < n) : ixN n i = some i.toNat := by
  unfold ixN
  rw [if_pos h0, if_pos h1]
end
end Tl

namespace Tl
open PySem PySem.Spec PyProof.Rows L2 Evl
noncomputable section
/-! ### draws by their places; slices -/
theorem Drawn.get : ∀ {ds ws : List Int} {i : Nat} {w : Int}, Drawn ds ws → ws[i]? = some w → ∃ d, ds[i]? = some d ∧ 0 ≤ d ∧ d < w
  | _, _, 0, _, .cons a b _, e => by cases e; exact ⟨_, rfl, a, b⟩
  | _, _, i + 1, _, .cons _ _ t, e => t.get (i := i) e
  | _, _, _, _, .nil, e => by cases e
theorem Drawn.drop : ∀ {ds ws : List Int} (k : Nat), Drawn ds ws → Drawn (ds.drop k) (ws.drop k)
  | _, _, 0, h => h
  | _, _, k + 1, .nil => .nil
  | _, _, k + 1, .cons _ _ t => t.drop k
theorem Drawn.all {c : Int} : ∀ {ds ws : List Int}, Drawn ds ws → (∀ w ∈ ws, w = c) → ∀ d ∈ ds, 0 ≤ d ∧ d < c
  | _, _, .nil, _, d, h => by cases h
  | _, _, .cons (d := d0) (w := w) (ws := ws) a b t, hw, d, h => by
    have ew : w = c := hw w (by simp)
    rcases List.mem_cons.mp h with e | h
    · subst e; exact ⟨a, by omega⟩
    · exact t.all (fun v hv => hw v (by simp [hv])) d h
theorem cutD_map {α β : Type} (f : α → β) (xs : List α) (l u : Option Int) : cutD (xs.map f) l u = (cutD xs l u).map f := by
  unfold cutD
  rw [List.length_map, List.map_take, List.map_drop]
theorem cutD_to {α : Type} (xs : List α) (k : Nat) : cutD xs none (some (k : Int)) = xs.take k := by
  unfold cutD
  rw [HT.sIx_none, HT.sIx_nat, List.drop_zero, Nat.sub_zero, List.take_eq_take_iff]
  omega
theorem cutD_part {α : Type} (xs : List α) (j k : Nat) : cutD xs (some (j : Int)) (some (k : Int)) = (xs.drop (min j xs.length)).take (min k xs.length - min j xs.length) := by
  unfold cutD
  rw [HT.sIx_nat, HT.sIx_nat]
theorem mem_take_bd {P : Int → Prop} {xs : List Int} {k : Nat} (h : ∀ x ∈ xs, P x) : ∀ x ∈ xs.take k, P x := fun x hx => h x (List.mem_of_mem_take hx)
theorem rep_flat_bd {P : Int → Prop} {xs : List Int} (h : ∀ x ∈ xs, P x) : ∀ (n : Nat), ∀ x ∈ (List.replicate n xs).flatten, P x
  | 0, x, hx => by cases hx
  | n + 1, x, hx => by
    rw [List.replicate_succ, List.flatten_cons] at hx
    rcases List.mem_append.mp hx with z | z
    · exact h x z
    · exact rep_flat_bd h n x z
theorem rep_flat_map {α β : Type} (f : α → β) (xs : List α) : ∀ n : Nat, (List.replicate n (xs.map f)).flatten = ((List.replicate n xs).flatten).map f
  | 0 => rfl
  | n + 1 => by rw [List.replicate_succ, List.flatten_cons, rep_flat_map f xs n, List.replicate_succ, List.flatten_cons, List.map_append]
end
end Tl

namespace Tl
open PySem PySem.Spec PyProof.Rows L2 Evl
noncomputable section
/-! ### while, str(n), zfill, text times number -/
def whM (t : MT) (b : MS) : Nat → Rho → Option F
  | 0, _ => none
  | n + 1, ρ => (t ρ).bind fun k => if k = true then (match b ρ with
    | some (.nx ρ') => whM t b n ρ'
    | some (.cnt ρ') => whM t b n ρ'
    | some (.brk ρ') => some (.nx ρ')
    | r => r) else some (.nx ρ)
def mWh (t : MT) (b : MS) : MS := fun ρ => whM t b 2000 ρ
theorem whM_more {t : MT} {b : MS} : ∀ (n k : Nat) (ρ : Rho) (fl : F), whM t b n ρ = some fl → whM t b (n + k) ρ = some fl
  | 0, _, _, _, h => by cases h
  | n + 1, k, ρ, fl, h => by
    rw [Nat.add_right_comm]
    unfold whM at h ⊢
    obtain ⟨c, hc, h⟩ := Option.bind_eq_some_iff.mp h
    rw [hc]
    show (if c = true then _ else _) = _
    by_cases e : c = true
    · rw [if_pos e] at h ⊢
      cases hb : b ρ with
      | none => rw [hb] at h; cases h
      | some f =>
        rw [hb] at h
        cases f with
        | nx ρ' => exact whM_more n k ρ' fl h
        | cnt ρ' => exact whM_more n k ρ' fl h
        | brk ρ' => exact h
        | ret r => exact h
        | exc c fs ρ' => exact h
        | exc0 c ρ' => exact h
    · rw [if_neg e] at h ⊢
      exact h
section
variable {X : Cx} {W : WX} {a b c e : Expr} {pos p2 p3 : Pos} {f1 f2 f3 : ME} {mb : MS} {t : MT} {body : List Stmt}
theorem s_while (hc : JT X c t) (hb : JB X W body mb) (hw : ∀ tc tb, PT X c tc → PSs X body tb → PS X (.While c body [] pos) (tWhile tc tb) := by exact fun _ _ h1 h2 => ps_while PassesOwn.never h1 h2) : JS X W (.While c body [] pos) (mWh t mb) := by
  obtain ⟨tc, pc, vc⟩ := hc
  obtain ⟨tb, pb, vb⟩ := hb
  refine ⟨_, hw _ _ pc pb, fun H0 D σ H ρ fl ok h q => ?_⟩
  refine ⟨fun m σ H => ∃ ρ, Ok X H0 σ H ρ ∧ whM t mb m ρ = some fl, ⟨2000, ρ, ok, h⟩, ?_⟩
  rintro m σ1 H1 ⟨ρ1, ok1, h1⟩
  cases m with
  | zero => cases h1
  | succ m =>
    unfold whM at h1
    obtain ⟨k, hk, h1⟩ := Option.bind_eq_some_iff.mp h1
    refine vc _ _ _ _ _ ok1 hk H1 (Ex.refl H1) _ fun H2 e2 => ?_
    cases k with
    | true =>
      rw [if_pos rfl] at h1 ⊢
      refine ⟨fun σ' H' => ∃ ρ', Ok X H0 σ' H' ρ' ∧ whM t mb m ρ' = some fl, fun σ' H' p => ⟨m, Nat.lt_succ_self m, p⟩, ?_⟩
      cases hbd : mb ρ1 with
      | none => rw [hbd] at h1; cases h1
      | some fl2 =>
        rw [hbd] at h1
        refine vb H0 _ σ1 H2 ρ1 fl2 (ok1.ex e2) hbd ?_
        cases fl2 with
        | nx ρ3 => exact fun σ3 H3 ok3 => ⟨ρ3, ok3, h1⟩
        | cnt ρ3 => exact fun σ3 H3 ok3 => ⟨ρ3, ok3, h1⟩
        | brk ρ3 => cases h1; exact q
        | ret r => cases h1; exact q
        | exc c fs ρ3 => cases h1; exact q
        | exc0 c ρ3 => cases h1; exact q
    | false =>
      rw [if_neg (show ¬ (false = true) from by decide)] at h1 ⊢
      cases h1
      exact q σ1 H2 (ok1.ex e2)
def gStr : List R → Option R
  | [.dat (.int i)] => if okP (i.natAbs.log2 < 1920) = true then some (.dat (.str (Str.ofString (toString i)))) else none
  | _ => none
def mStr (f : ME) : ME := fun ρ => (aCons f aNil ρ).bind gStr
theorem x_str1 {p : Pos} (hm : X.mg "str" = none) (ha : JE X a f1) (hg : Gl X "str" := by rfl) (hs : starEach (a :: []) X.env = (false, eval a X.env) :: starEach [] X.env := by rfl) : JE X (.Call (.Name "str" p) [a] [] pos) (mStr f1) := by
  refine x_bltT call_str_int hg hm (by decide +kernel) (g := gStr) (fun rs vs H q Q h g k => ?_) (a_cons ha a_nil hs) (he := hs)
  unfold gStr at h
  split at h
  · rename_i i
    split at h
    · rename_i hz
      cases h
      cases g with
      | cons g1 g2 =>
        cases g2
        have g1 : Den X.K H _ (.int i) := g1
        cases g1
        exact ⟨i, rfl, okP_of hz, k _ H (Ex.refl H) (.str _)⟩
    · cases h
  · cases h
def mZf (f g : ME) : ME := fun ρ => (asStr (f ρ)).bind fun z => (asInt (g ρ)).bind fun i => if okP (0 ≤ i ∧ i ≤ 1000) = true then some (.dat (.str (Txt.zfill z i))) else none
theorem padOk {i : Int} (h : 0 ≤ i ∧ i ≤ 1000) : PadOk i = true := by
  have e : ∀ n : Nat, n ≤ 1000 → PadOk (n : Int) = true := by decide +kernel
  have := e i.toNat (by omega)
  rw [Int.toNat_of_nonneg h.1] at this
  exact this
theorem x_zf (ha : JE X a f1) (hb : JE X b f2) (hst : starEach [b] X.env = [(false, eval b X.env)] := by rfl)
    (hpe : ∀ to te, PE X a to → PE X b te → PE X (.Call (.Attribute a "zfill" p2) [b] [] p3) (tM1 (fun x xs H Q => ∃ (a : Str) (i : Int), x = .str a ∧ xs = [.int i] ∧ PadOk i = true ∧ Q (.str (Txt.zfill a i)) H) to te) := by exact fun _ _ h1 h2 => pe_m1 PySem.F.slot_str_zfill PySem.F.type_str_zfill mt_zfill h1 h2) :
    JE X (.Call (.Attribute a "zfill" p2) [b] [] p3) (mZf f1 f2) := by
  obtain ⟨ta, pa, va⟩ := ha
  obtain ⟨tb, pb, vb⟩ := hb
  refine ⟨_, hpe _ _ pa pb, fun H0 σ H ρ r ok h => ?_⟩
  unfold mZf at h
  obtain ⟨z, hz, h⟩ := Option.bind_eq_some_iff.mp h
  obtain ⟨i, hi, h⟩ := Option.bind_eq_some_iff.mp h
  split at h
  · rename_i hk
    cases h
    intro H1 e1 Q q
    refine (va _ _ _ _ _ ok (asStr_some hz)).str H1 e1 _ fun H2 e2 => ⟨⟨z, rfl⟩, ?_⟩
    refine (vb _ _ _ _ _ ok (asInt_some hi)).int H2 (e1.trans e2) _ fun H3 e3 => ?_
    exact ⟨z, i, rfl, rfl, padOk (okP_of hk), q _ H3 (e2.trans e3) (.str _)⟩
  · cases h
def mRepS (f g : ME) : ME := fun ρ => (asStr (f ρ)).bind fun z => (asInt (g ρ)).bind fun i => if okP (0 ≤ i ∧ i ≤ 1) = true then some (.dat (.str (if i = 0 then Str.empty else z))) else none
theorem op_repS : OpR X (binaryOp .Mult) (fun x y H Q => ∃ (z : Str) (i : Int), x = .str z ∧ y = .int i ∧ 0 ≤ i ∧ i ≤ 1 ∧ Q (.str (if i = 0 then Str.empty else z)) H) := by
  intro pins s σ H x y v u Q I rx ry h
  obtain ⟨z, i, rfl, rfl, h0, h1, h⟩ := h
  obtain ⟨t, rfl⟩ := rx
  obtain ⟨t', rfl⟩ := ry
  refine PySem.SB.mul ⟨?_, fun a b => ?_, fun a b => ?_⟩ fun t' k => ⟨.str (if i = 0 then Str.empty else z), H, I.tok _, ⟨t', ?_⟩, h⟩
  · rw [Bool.or_eq_false_iff, decide_eq_false_iff_not, decide_eq_false_iff_not]
    have e : (2 ^ 63 : Int) = 9223372036854775808 := by decide
    omega
  · have e : i = 1 := by omega
    subst e
    cases b
  · have e : i = 1 := by omega
    subst e
    cases b
  · unfold Txt.mul
    have e : i = 0 ∨ i = 1 := by omega
    rcases e with e | e
    · subst e; rfl
    · subst e; rfl
theorem x_repS (ha : JE X a f1) (hb : JE X b f2) : JE X (.BinOp a .Mult b pos) (mRepS f1 f2) := by
  obtain ⟨ta, pa, va⟩ := ha
  obtain ⟨tb, pb, vb⟩ := hb
  refine ⟨_, pe_op op_repS pa pb, fun H0 σ H ρ r ok h => ?_⟩
  unfold mRepS at h
  obtain ⟨z, hz, h⟩ := Option.bind_eq_some_iff.mp h
  obtain ⟨i, hi, h⟩ := Option.bind_eq_some_iff.mp h
  split at h
  · rename_i hk
    cases h
    have hk := okP_of hk
    intro H1 e1 Q q
    refine (va _ _ _ _ _ ok (asStr_some hz)).str H1 e1 _ fun H2 e2 => ?_
    refine (vb _ _ _ _ _ ok (asInt_some hi)).int H2 (e1.trans e2) _ fun H3 e3 => ?_
    exact ⟨z, i, rfl, rfl, hk.1, hk.2, q _ H3 (e2.trans e3) (.str _)⟩
  · cases h
end
end
end Tl

namespace Tl
open PySem PySem.Spec PyProof.Rows L2 Evl TL
/-! ### texts as lists of signs -/
def S (l : List Nat) : Str := ⟨l.toArray⟩
theorem S_cps (l : List Nat) : (S l).cps.toList = l := rfl
theorem S_len (l : List Nat) : (S l).length = l.length := by show l.toArray.size = _; simp
theorem S_of (x : Str) : x = S x.cps.toList := rfl
theorem S_app (l m : List Nat) : S l ++ S m = S (l ++ m) := by
  show (⟨l.toArray ++ m.toArray⟩ : Str) = ⟨(l ++ m).toArray⟩
  simp
theorem S_one (c : Nat) : (⟨#[c]⟩ : Str) = S [c] := rfl
theorem S_nil : (Str.empty : Str) = S [] := rfl
theorem S_inj {l m : List Nat} (h : S l = S m) : l = m := by
  have := congrArg (fun x : Str => x.cps.toList) h
  exact this
theorem S_ext {x : Str} {l : List Nat} (h : x.cps.toList = l) : x = S l := by rw [← h]; rfl
theorem S_str (s : String) : Str.ofString s = S (s.toList.map Char.toNat) := S_ext (PyProof.Rows.signs_ofString s)
theorem len_S (x : Str) : x.length = x.cps.toList.length := by
  show x.cps.size = _
  rw [Array.length_toList]
theorem cut_lo (l : List Nat) (k : Nat) : cutS (S l) none (some (k : Int)) = S (l.take k) := by
  unfold cutS
  rw [HT.sIx_none, HT.sIx_nat, S_len, S_cps, List.drop_zero, Nat.sub_zero]
  show S _ = S _
  congr 1
  rw [List.take_eq_take_iff]
  omega
theorem cut_hi (l : List Nat) (k : Nat) : cutS (S l) (some (k : Int)) none = S (l.drop k) := by
  unfold cutS
  rw [HT.sIx_none, HT.sIx_nat, S_len, S_cps]
  show S _ = S _
  congr 1
  by_cases h : k ≤ l.length
  · rw [Nat.min_eq_left h]
    exact List.take_of_length_le (by rw [List.length_drop]; exact Nat.le_refl _)
  · rw [Nat.min_eq_right (by omega), List.drop_eq_nil_of_le (Nat.le_refl _), List.drop_eq_nil_of_le (by omega)]
    simp
theorem sIx_neg (n d k : Nat) (h : 0 < k) : HT.sIx n d (some (-(k : Int))) = n - k := by
  show (if -(k : Int) < 0 then (-(k : Int) + (n : Int)).toNat else _) = _
  rw [if_pos (by omega)]
  omega
theorem cut_loN (l : List Nat) (k : Nat) (h : 0 < k) : cutS (S l) none (some (-(k : Int))) = S (l.take (l.length - k)) := by
  unfold cutS
  rw [HT.sIx_none, sIx_neg _ _ _ h, S_len, S_cps, List.drop_zero, Nat.sub_zero]
  rfl
theorem cut_hiN (l : List Nat) (k : Nat) (h : 0 < k) : cutS (S l) (some (-(k : Int))) none = S (l.drop (l.length - k)) := by
  unfold cutS
  rw [HT.sIx_none, sIx_neg _ _ _ h, S_len, S_cps]
  show S _ = S _
  congr 1
  exact List.take_of_length_le (by rw [List.length_drop]; exact Nat.le_refl _)
theorem dig_at {d : Nat} (h : d < 10) : atI ("0123456789" : Str).cps.toList (d : Int) = some (48 + d) := by
  have : ∀ d : Nat, d < 10 → atI ("0123456789" : Str).cps.toList (d : Int) = some (48 + d) := by decide +kernel
  exact this d h
theorem num_S (n : Nat) : Str.ofString (toString ((n : Nat) : Int)) = S (numL n) := S_ext (tl_num n)
/-- n with noughts ahead to k figures -/
def padL (n k : Nat) : List Nat := List.replicate (k - (numL n).length) 48 ++ numL n
theorem zfill_S (n k : Nat) : Txt.zfill (S (numL n)) (k : Int) = S (padL n k) := by
  unfold Txt.zfill padL
  rw [S_len]
  by_cases h : (k : Int) ≤ ((numL n).length : Int)
  · rw [if_pos h, show k - (numL n).length = 0 by omega]
    rfl
  · rw [if_neg h, Int.toNat_natCast]
    have e0 : (S (numL n)).cps[0]? = (numL n)[0]? := by
      show (numL n).toArray[0]? = _
      simp
    unfold zfilled
    rw [e0]
    cases hn : numL n with
    | nil => exact absurd hn (numL_ne n)
    | cons c cs =>
      have hc := numL_digits n c (by rw [hn]; exact List.mem_cons_self ..)
      rw [List.getElem?_cons_zero]
      split
      · rename_i e; cases e; omega
      · rename_i e; cases e; omega
      · show (⟨_⟩ : Str) = ⟨_⟩
        congr 1
        show _ ++ (c :: cs).toArray ++ _ = _
        simp
/-- the figures of n, and noughts ahead to k figures, one by one -/
def figW : Nat → Nat → Nat → List Nat
  | 0, _, _ => []
  | f + 1, n, k => if 0 < n ∨ 0 < k then figW f (n / 10) (k - 1) ++ [48 + n % 10] else []
theorem figW_0 : ∀ f : Nat, figW f 0 0 = []
  | 0 => rfl
  | f + 1 => by unfold figW; rw [if_neg (by omega)]
theorem figW_pad : ∀ (f n k : Nat), n < 10 ^ f → k ≤ f → (0 < n ∨ 0 < k) → figW f n k = padL n k
  | 0, n, k, h1, h2, h3 => by
    have : (10 : Nat) ^ 0 = 1 := rfl
    omega
  | f + 1, n, k, h1, h2, h3 => by
    unfold figW
    rw [if_pos h3]
    by_cases h : n < 10
    · have e1 : n / 10 = 0 := by omega
      have e2 : n % 10 = n := by omega
      rw [e1, e2]
      by_cases hk : 1 < k
      · rw [figW_pad f 0 (k - 1) (Nat.pow_pos (by decide)) (by omega) (.inr (by omega))]
        unfold padL
        rw [numL_lt h, numL_lt (show 0 < 10 by decide)]
        show List.replicate (k - 1 - 1) 48 ++ [48] ++ [48 + n] = List.replicate (k - 1) 48 ++ [48 + n]
        congr 1
        rw [show k - 1 = (k - 1 - 1) + 1 by omega, List.replicate_succ']
        rfl
      · rw [show k - 1 = 0 by omega, figW_0]
        unfold padL
        rw [numL_lt h]
        show [] ++ [48 + n] = List.replicate (k - 1) 48 ++ [48 + n]
        rw [show k - 1 = 0 by omega]
        rfl
    · have e10 : (10 : Nat) ^ (f + 1) = 10 * 10 ^ f := by rw [Nat.pow_succ, Nat.mul_comm]
      rw [figW_pad f (n / 10) (k - 1) (by omega) (by omega) (.inl (by omega))]
      unfold padL
      rw [numL_step (n := n) (by omega), List.length_append, List.append_assoc]
      congr 2
      show _ = k - ((numL (n / 10)).length + 1)
      omega
theorem padL_len (n k : Nat) : k ≤ (padL n k).length := by
  unfold padL
  rw [List.length_append, List.length_replicate]
  omega
theorem log_small {n : Nat} (h : n < 10 ^ 60) : n.log2 < 1920 := by
  have h2 : n < 2 ^ 400 := Nat.lt_of_lt_of_le h (by decide +kernel)
  exact Nat.lt_of_lt_of_le (PySem.Flt.log2_lt_of (by decide) h2) (by decide)
end Tl

namespace Lw
open PySem PySem.Spec PyProof.Rows L2 Evl Tl
def topS (i : Nat) : Stmt := PySem.Challenge.pw_tensloft_k07_written.main.body.getD i (.Pass ⟨0, 0, 0, 0⟩)
abbrev s_ten_to : Stmt := topS 5
theorem sc_ten_to : FnScope ["many", "power", "step"] ["many"] (defScope s_ten_to) := ⟨rfl, rfl, rfl, by decide +kernel, rfl, by decide +kernel, by decide +kernel⟩
noncomputable def f_ten_to_1 : MS := (mAug cMul (fun a b => a * b) 1 (mC (.int 10)))
noncomputable def b_ten_to : MS := (mSeq (mSet 1 (mC (.int 1)))
    (mSeq (mFor (iR1 (mVar 0)) (gNm 2) f_ten_to_1)
    (mRetV 1)))
noncomputable def m_ten_to : Mir := mDef 3 1 b_ten_to
abbrev s_least_of : Stmt := topS 7
theorem sc_least_of : FnScope ["shape", "kind", "figures", "sign", "point"] ["shape"] (defScope s_least_of) := ⟨rfl, rfl, rfl, by decide +kernel, rfl, by decide +kernel, by decide +kernel⟩
noncomputable def b_least_of : MS := (mSeq (mAsg (gTp (gCons' (gNm 1) (gCons' (gNm 2) (gCons' (gNm 3) (gCons' (gNm 4) gNil'))))) (mVar 0))
    (mSeq (mIf (mT (mEqS (mVar 3) (mC (.str "none")))) (mRet (mC (.int 0))) mSkip)
    (mSeq (mIf (mT (mEqS (mVar 3) (mC (.str "end")))) (mRet (mSub (mC (.int 1)) (mCall m_ten_to (aCons (mVar 2) aNil)))) mSkip)
    (mRet (mMul (mNeg (mC (.int 5))) (mCall m_ten_to (aCons (mSub (mVar 2) (mC (.int 1))) aNil)))))))
noncomputable def m_least_of : Mir := mDef 5 1 b_least_of
abbrev s_most_of : Stmt := topS 8
theorem sc_most_of : FnScope ["shape", "kind", "figures", "sign", "point"] ["shape"] (defScope s_most_of) := ⟨rfl, rfl, rfl, by decide +kernel, rfl, by decide +kernel, by decide +kernel⟩
noncomputable def b_most_of : MS := (mSeq (mAsg (gTp (gCons' (gNm 1) (gCons' (gNm 2) (gCons' (gNm 3) (gCons' (gNm 4) gNil'))))) (mVar 0))
    (mSeq (mIf (mT (mEqS (mVar 3) (mC (.str "tens")))) (mRet (mSub (mMul (mC (.int 5)) (mCall m_ten_to (aCons (mSub (mVar 2) (mC (.int 1))) aNil))) (mC (.int 1)))) mSkip)
    (mRet (mSub (mCall m_ten_to (aCons (mVar 2) aNil)) (mC (.int 1))))))
noncomputable def m_most_of : Mir := mDef 5 1 b_most_of
abbrev s_fits : Stmt := topS 9
theorem sc_fits : FnScope ["shape", "number"] ["shape", "number"] (defScope s_fits) := ⟨rfl, rfl, rfl, by decide +kernel, rfl, by decide +kernel, by decide +kernel⟩
noncomputable def b_fits : MS := (mRet (mChain (fun i j => i ≤ j) (fun i j => i ≤ j) (mCall m_least_of (aCons (mVar 0) aNil)) (mVar 1) (mCall m_most_of (aCons (mVar 0) aNil))))
noncomputable def m_fits : Mir := mDef 2 2 b_fits
abbrev s_written : Stmt := topS 11
theorem sc_written : FnScope ["shape", "number", "text", "kind", "figures", "sign", "point"] ["shape", "number"] (defScope s_written) := ⟨rfl, rfl, rfl, by decide +kernel, rfl, by decide +kernel, by decide +kernel⟩
noncomputable def b_written : MS := (mSeq (mAsg (gTp (gCons' (gNm 3) (gCons' (gNm 4) (gCons' (gNm 5) (gCons' (gNm 6) gNil'))))) (mVar 0))
    (mSeq (mIf (tNotM (mT (mCall m_fits (aCons (mVar 0) (aCons (mVar 1) aNil))))) (mRaise1 "NoFit" "number" (mVar 1)) mSkip)
    (mSeq (mSet 2 (mZf (mStr (mAbs' (mVar 1))) (mAdd (mVar 6) (mC (.int 1)))))
    (mSeq (mIf (mT (mGt (mVar 6) (mC (.int 0)))) (mSet 2 (mCatS (mCatS (mSlS (mVar 2) oNone (oSome (mNeg (mVar 6)))) (mC (.str "."))) (mSlS (mVar 2) (oSome (mNeg (mVar 6))) oNone))) mSkip)
    (mRet (mIfE (mT (mLt (mVar 1) (mC (.int 0)))) (mCatS (mC (.str "-")) (mVar 2)) (mVar 2)))))))
noncomputable def m_written : MirX := mDefX 7 2 b_written
abbrev s__law_cell : Stmt := topS 13
theorem sc__law_cell : FnScope ["_law_script", "_law_k"] ["_law_script", "_law_k"] (defScope s__law_cell) := ⟨rfl, rfl, rfl, by decide +kernel, rfl, by decide +kernel, by decide +kernel⟩
noncomputable def b__law_cell : MS := (mSeq (mIf (mT (mLt (mVar 1) (mLen (mVar 0)))) (mRet (mIxL (mVar 0) (mVar 1))) mSkip)
    (mSeq (mIf (mT (mEqS (mLen (mVar 0)) (mC (.int 0)))) (mRet (mMul (mC (.int 7919)) (mAdd (mVar 1) (mC (.int 1))))) mSkip)
    (mRet (mAdd (mIxL (mVar 0) (mMod (mVar 1) (mLen (mVar 0)))) (mMul (mC (.int 104729)) (mVar 1))))))
noncomputable def m__law_cell : Mir := mDef 2 2 b__law_cell
abbrev s__law_mixed : Stmt := topS 14
theorem sc__law_mixed : FnScope ["_law_cell_here", "_law_k", "_law_salt", "_law_primes", "_law_one", "_law_two"] ["_law_cell_here", "_law_k", "_law_salt"] (defScope s__law_mixed) := ⟨rfl, rfl, rfl, by decide +kernel, rfl, by decide +kernel, by decide +kernel⟩
noncomputable def b__law_mixed : MS := (mSeq (mSet 3 (mLst (aCons (mC (.int 2147483629)) (aCons (mC (.int 2147483587)) (aCons (mC (.int 2147483579)) (aCons (mC (.int 2147483563)) (aCons (mC (.int 2147483549)) (aCons (mC (.int 2147483543)) (aCons (mC (.int 2147483497)) (aCons (mC (.int 2147483489)) aNil))))))))))
    (mSeq (mSet 4 (mMod (mAdd (mAdd (mAdd (mVar 0) (mMul (mC (.int 7919)) (mVar 2))) (mMul (mC (.int 104729)) (mVar 1))) (mC (.int 13))) (mC (.int 2147483647))))
    (mSeq (mSet 4 (mMod (mPow (mVar 4) (mC (.int 5))) (mIxL (mVar 3) (mMod (mVar 1) (mC (.int 8))))))
    (mSeq (mSet 5 (mMod (mAdd (mAdd (mVar 4) (mMul (mC (.int 40692)) (mVar 2))) (mVar 1)) (mC (.int 2147483647))))
    (mRet (mAdd (mMul (mMod (mPow (mVar 5) (mC (.int 5))) (mC (.int 2147483647))) (mC (.int 1000000007))) (mVar 4)))))))
noncomputable def m__law_mixed : Mir := mDef 6 3 b__law_mixed
abbrev s__law_draws : Stmt := topS 15
theorem sc__law_draws : FnScope ["_law_cell_here", "_law_salt", "_law_widths", "_law_found", "_law_left", "_law_k"] ["_law_cell_here", "_law_salt", "_law_widths"] (defScope s__law_draws) := ⟨rfl, rfl, rfl, by decide +kernel, rfl, by decide +kernel, by decide +kernel⟩
noncomputable def f__law_draws_1 : MS := (mIf (mT (mGt (mVar 4) (mC (.int 0)))) (mSeq (mApp 3 (mMod (mVar 4) (mIxL (mVar 2) (mVar 5))))
    (mSet 4 (mDiv (mVar 4) (mIxL (mVar 2) (mVar 5))))) (mApp 3 (mMod (mCall m__law_mixed (aCons (mVar 0) (aCons (mVar 5) (aCons (mVar 1) aNil)))) (mIxL (mVar 2) (mVar 5)))))
noncomputable def b__law_draws : MS := (mSeq (mSet 3 (mLst aNil))
    (mSeq (mSet 4 (mC (.int 0)))
    (mSeq (mIf (mT (mGe (mAbs' (mVar 0)) (mPow (mC (.int 10)) (mC (.int 18))))) (mSet 4 (mAbs' (mVar 0))) mSkip)
    (mSeq (mFor (iR1 (mLen (mVar 2))) (gNm 5) f__law_draws_1)
    (mRetV 3)))))
noncomputable def m__law_draws : Mir := mDef 6 3 b__law_draws
abbrev s__law_power : Stmt := topS 16
theorem sc__law_power : FnScope ["_law_base", "_law_many", "_law_found", "_law_k"] ["_law_base", "_law_many"] (defScope s__law_power) := ⟨rfl, rfl, rfl, by decide +kernel, rfl, by decide +kernel, by decide +kernel⟩
noncomputable def f__law_power_1 : MS := (mSet 2 (mMul (mVar 2) (mVar 0)))
noncomputable def b__law_power : MS := (mSeq (mSet 2 (mC (.int 1)))
    (mSeq (mFor (iR1 (mVar 1)) (gNm 3) f__law_power_1)
    (mRetV 2)))
noncomputable def m__law_power : Mir := mDef 4 2 b__law_power
abbrev s__law_form : Stmt := topS 17
theorem sc__law_form : FnScope ["_law_kind", "_law_many", "_law_sign", "_law_point"] ["_law_kind", "_law_many", "_law_sign"] (defScope s__law_form) := ⟨rfl, rfl, rfl, by decide +kernel, rfl, by decide +kernel, by decide +kernel⟩
noncomputable def b__law_form : MS := (mSeq (mSet 3 (mMod (mAdd (mAdd (mMul (mC (.int 7)) (mVar 1)) (mMul (mC (.int 3)) (mVar 0))) (mVar 2)) (mAdd (mVar 1) (mC (.int 2)))))
    (mRet (mTup (aCons (mIxL (mLst (aCons (mC (.str "packed")) (aCons (mC (.str "spread")) aNil))) (mVar 0)) (aCons (mAdd (mC (.int 1)) (mVar 1)) (aCons (mIxL (mLst (aCons (mC (.str "none")) (aCons (mC (.str "end")) (aCons (mC (.str "tens")) aNil)))) (mVar 2)) (aCons (mVar 3) aNil)))))))
noncomputable def m__law_form : Mir := mDef 4 3 b__law_form
abbrev s__law_ends : Stmt := topS 18
theorem sc__law_ends : FnScope ["_law_form_here", "_law_ten"] ["_law_form_here"] (defScope s__law_ends) := ⟨rfl, rfl, rfl, by decide +kernel, rfl, by decide +kernel, by decide +kernel⟩
noncomputable def b__law_ends : MS := (mSeq (mSet 1 (mCall m__law_power (aCons (mC (.int 10)) (aCons (mIxT (mVar 0) (mC (.int 1))) aNil))))
    (mSeq (mIf (mT (mEqS (mIxT (mVar 0) (mC (.int 2))) (mC (.str "none")))) (mRet (mTup (aCons (mC (.int 0)) (aCons (mSub (mVar 1) (mC (.int 1))) aNil)))) mSkip)
    (mSeq (mIf (mT (mEqS (mIxT (mVar 0) (mC (.int 2))) (mC (.str "end")))) (mRet (mTup (aCons (mSub (mC (.int 1)) (mVar 1)) (aCons (mSub (mVar 1) (mC (.int 1))) aNil)))) mSkip)
    (mRet (mTup (aCons (mSub (mC (.int 0)) (mDiv (mVar 1) (mC (.int 2)))) (aCons (mSub (mDiv (mVar 1) (mC (.int 2))) (mC (.int 1))) aNil)))))))
noncomputable def m__law_ends : Mir := mDef 2 1 b__law_ends
abbrev s__law_number : Stmt := topS 19
theorem sc__law_number : FnScope ["_law_form_here", "_law_way", "_law_far", "_law_size", "_law_some", "_law_number_here", "_law_low", "_law_high"] ["_law_form_here", "_law_way", "_law_far"] (defScope s__law_number) := ⟨rfl, rfl, rfl, by decide +kernel, rfl, by decide +kernel, by decide +kernel⟩
noncomputable def b__law_number : MS := (mSeq (mAsg (gTp (gCons' (gNm 6) (gCons' (gNm 7) gNil'))) (mCall m__law_ends (aCons (mVar 0) aNil)))
    (mSeq (mIf (mT (mGt (mVar 1) (mC (.int 9)))) (mRet (mAdd (mVar 6) (mMod (mVar 2) (mAdd (mSub (mVar 7) (mVar 6)) (mC (.int 1)))))) mSkip)
    (mSeq (mSet 3 (mCall m__law_power (aCons (mC (.int 10)) (aCons (mMod (mVar 2) (mIxT (mVar 0) (mC (.int 1)))) aNil))))
    (mSeq (mSet 4 (mLst (aCons (mC (.int 0)) (aCons (mC (.int 1)) (aCons (mVar 7) (aCons (mVar 6) (aCons (mVar 3) (aCons (mSub (mVar 3) (mC (.int 1))) (aCons (mMul (mC (.int 5)) (mVar 3)) (aCons (mMul (mC (.int 9)) (mVar 3)) (aCons (mAdd (mVar 3) (mC (.int 1))) aNil)))))))))))
    (mSeq (mApp 4 (mMod (mDiv (mVar 2) (mC (.int 16))) (mMul (mC (.int 10)) (mVar 3))))
    (mSeq (mSet 5 (mIxL (mVar 4) (mVar 1)))
    (mSeq (mIf (tAndM (mT (mLt (mVar 6) (mC (.int 0)))) (mT (mEqS (mMod (mDiv (mVar 2) (mC (.int 13))) (mC (.int 2))) (mC (.int 1))))) (mSet 5 (mSub (mC (.int 0)) (mVar 5))) mSkip)
    (mRet (mMax' (mVar 6) (mMin' (mVar 7) (mVar 5)))))))))))
noncomputable def m__law_number : Mir := mDef 8 3 b__law_number
abbrev s__law_text : Stmt := topS 20
theorem sc__law_text : FnScope ["_law_form_here", "_law_number_here", "_law_figures", "_law_size", "_law_at"] ["_law_form_here", "_law_number_here"] (defScope s__law_text) := ⟨rfl, rfl, rfl, by decide +kernel, rfl, by decide +kernel, by decide +kernel⟩
noncomputable def f__law_text_1 : MS := (mSeq (mSet 2 (mCatS (mIxS (mC (.str "0123456789")) (mMod (mVar 3) (mC (.int 10)))) (mVar 2)))
    (mSet 3 (mDiv (mVar 3) (mC (.int 10)))))
noncomputable def b__law_text : MS := (mSeq (mSet 2 (mC (.str "")))
    (mSeq (mSet 3 (mAbs' (mVar 1)))
    (mSeq (mWh (tOrM (mT (mGt (mVar 3) (mC (.int 0)))) (mT (mLt (mLen (mVar 2)) (mAdd (mIxT (mVar 0) (mC (.int 3))) (mC (.int 1)))))) f__law_text_1)
    (mSeq (mIf (mT (mGt (mIxT (mVar 0) (mC (.int 3))) (mC (.int 0)))) (mSeq (mSet 4 (mSub (mLen (mVar 2)) (mIxT (mVar 0) (mC (.int 3)))))
    (mSet 2 (mCatS (mCatS (mSlS (mVar 2) oNone (oSome (mVar 4))) (mC (.str "."))) (mSlS (mVar 2) (oSome (mVar 4)) oNone)))) mSkip)
    (mRet (mCatS (mRepS (mC (.str "-")) (mIntOf (mLt (mVar 1) (mC (.int 0))))) (mVar 2)))))))
noncomputable def m__law_text : Mir := mDef 5 2 b__law_text
abbrev s__law_refused : Stmt := topS 21
theorem sc__law_refused : FnScope ["_law_form_here", "_law_number_here", "_law_good", "e"] ["_law_form_here", "_law_number_here"] (defScope s__law_refused) := ⟨rfl, rfl, rfl, by decide +kernel, rfl, by decide +kernel, by decide +kernel⟩
noncomputable def t__law_refused_1 : MS := (mExprX m_written (aCons (mVar 0) (aCons (mVar 1) aNil)))
noncomputable def u__law_refused_2 : MS := (mSet 2 (mAndV (mExI 3 "NoFit" true) (mAndV (mNotV (mExI 3 "NoFit" false)) (mEqS (mExF 3 "NoFit" "number") (mVar 1)))))
noncomputable def b__law_refused : MS := (mSeq (mSet 2 (mC (.bl false)))
    (mSeq (mTry 3 (fun c => if c = "NoFit" then some true else none) t__law_refused_1 u__law_refused_2)
    (mRetV 2)))
noncomputable def m__law_refused : Mir := mDef 4 2 b__law_refused
abbrev s_law : Stmt := topS 22
theorem sc_law : FnScope ["_law_script", "_law_many", "_law_kind", "_law_sign", "_law_draws_here", "_law_form_here", "_law_number_here", "_law_few", "_law_one", "_law_far", "_law_low", "_law_high"] ["_law_script"] (defScope s_law) := ⟨rfl, rfl, rfl, by decide +kernel, rfl, by decide +kernel, by decide +kernel⟩
noncomputable def f_law_1 : MS := (mIf (mT (mNeS (mCall (okX m_written) (aCons (mVar 5) (aCons (mVar 8) aNil))) (mCall m__law_text (aCons (mVar 5) (aCons (mVar 8) aNil))))) (mRet (mC (.bl false))) mSkip)
noncomputable def f_law_2 : MS := (mSeq (mSet 4 (mCall m__law_draws (aCons (mCall m__law_cell (aCons (mVar 0) (aCons (mAdd (mC (.int 1)) (mVar 1)) aNil))) (aCons (mAdd (mC (.int 3)) (mVar 1)) (aCons (mLst (aCons (mC (.int 16)) (aCons (mPow (mC (.int 10)) (mC (.int 14))) (aCons (mAdd (mC (.int 2)) (mVar 1)) (aCons (mC (.int 13)) (aCons (mPow (mC (.int 10)) (mC (.int 39))) aNil)))))) aNil)))))
    (mSeq (mSet 5 (mCatT (mSlT (mCall m__law_form (aCons (mVar 2) (aCons (mVar 1) (aCons (mVar 3) aNil)))) oNone (oSome (mC (.int 3)))) (mTup (aCons (mIxL (mVar 4) (mC (.int 2))) aNil))))
    (mSeq (mAsg (gTp (gCons' (gNm 10) (gCons' (gNm 11) gNil'))) (mCall m__law_ends (aCons (mVar 5) aNil)))
    (mSeq (mSet 6 (mCall m__law_number (aCons (mVar 5) (aCons (mIxL (mVar 4) (mC (.int 0))) (aCons (mIxL (mVar 4) (mC (.int 1))) aNil)))))
    (mSeq (mSet 7 (mMax' (mVar 10) (mMin' (mVar 11) (mDiv (mVar 6) (mCall m__law_power (aCons (mC (.int 10)) (aCons (mIxL (mVar 4) (mC (.int 3))) aNil)))))))
    (mSeq (mFor (iT (mTup (aCons (mVar 6) (aCons (mVar 7) (aCons (mC (.int 0)) aNil))))) (gNm 8) f_law_1)
    (mSeq (mSet 9 (mMul (mIxL (mVar 4) (mC (.int 4))) (mMod (mIxL (mVar 4) (mC (.int 3))) (mC (.int 2)))))
    (mIf (tOrM (tNotM (mT (mCall m__law_refused (aCons (mVar 5) (aCons (mAdd (mAdd (mVar 11) (mC (.int 1))) (mVar 9)) aNil))))) (tNotM (mT (mCall m__law_refused (aCons (mVar 5) (aCons (mSub (mSub (mVar 10) (mC (.int 1))) (mVar 9)) aNil)))))) (mRet (mC (.bl false))) mSkip))))))))
noncomputable def b_law : MS := (mSeq (mAsgL (gCons' (gNm 2) (gCons' (gNm 3) gNil')) (mCall m__law_draws (aCons (mCall m__law_cell (aCons (mVar 0) (aCons (mC (.int 0)) aNil))) (aCons (mC (.int 2)) (aCons (mLst (aCons (mC (.int 2)) (aCons (mC (.int 3)) aNil))) aNil)))))
    (mSeq (mFor (iR1 (mC (.int 12))) (gNm 1) f_law_2)
    (mRet (mC (.bl true)))))
noncomputable def m_law : Mir := mDef 12 1 b_law
section
variable {P : Program} {w : World} {K : PySem.W.Frag} {mg : Str → Option Value} {base : Heap}
theorem ok_ten_to {f : Addr} {fd : FuncData} (z_range : mg "range" = none) (F : Fun K "ten_to" "ten_to" s_ten_to f fd) (gm : mg "ten_to" = some (.ref f)) (hb : Binds K fd ["many"] []) : Cal P w K mg base "ten_to" 1 m_ten_to :=
  ⟨f, fd, _, d_ok (k := 0) F sc_ten_to (fun cdv A outer s H E hr => by
    have nd := sc_ten_to.nd
    exact (b_cons (s_set 1 nd x_int)
      (b_cons (s_for (i_r1 z_range (x_var 0)) (g_nm 2 nd)
      (b_one (s_aug 1 iop_mul (fun i j h => show CMul i j by unfold CMul; exact okP_of h) nd x_int)))
      (b_one (s_retV 1))))), gm, F.kp, hb⟩
theorem ok_least_of {f : Addr} {fd : FuncData} (h_ten_to : Cal P w K mg base "ten_to" 1 m_ten_to) (F : Fun K "least_of" "least_of" s_least_of f fd) (gm : mg "least_of" = some (.ref f)) (hb : Binds K fd ["shape"] []) : Cal P w K mg base "least_of" 2 m_least_of :=
  ⟨f, fd, _, d_ok (k := 1) F sc_least_of (fun cdv A outer s H E hr => by
    have nd := sc_least_of.nd
    exact (b_cons (s_asg (x_var 0) (g_tp rfl (gs_cons (g_nm 1 nd) (gs_cons (g_nm 2 nd) (gs_cons (g_nm 3 nd) (gs_cons (g_nm 4 nd) gs_nil)))) (hl := (gs_lenS (gs_lenS (gs_lenS (gs_lenS gs_len0)))))))
      (b_cons (s_if (t_eqS (x_var 3) x_str) (b_one (s_ret x_int)) b_nil)
      (b_cons (s_if (t_eqS (x_var 3) x_str) (b_one (s_ret (x_sub x_int (x_cal h_ten_to (hr.mono (by decide)) (a_cons (x_var 2) a_nil))))) b_nil)
      (b_one (s_ret (x_mul (x_neg x_int) (x_cal h_ten_to (hr.mono (by decide)) (a_cons (x_sub (x_var 2) x_int) a_nil))))))))), gm, F.kp, hb⟩
theorem ok_most_of {f : Addr} {fd : FuncData} (h_ten_to : Cal P w K mg base "ten_to" 1 m_ten_to) (F : Fun K "most_of" "most_of" s_most_of f fd) (gm : mg "most_of" = some (.ref f)) (hb : Binds K fd ["shape"] []) : Cal P w K mg base "most_of" 2 m_most_of :=
  ⟨f, fd, _, d_ok (k := 1) F sc_most_of (fun cdv A outer s H E hr => by
    have nd := sc_most_of.nd
    exact (b_cons (s_asg (x_var 0) (g_tp rfl (gs_cons (g_nm 1 nd) (gs_cons (g_nm 2 nd) (gs_cons (g_nm 3 nd) (gs_cons (g_nm 4 nd) gs_nil)))) (hl := (gs_lenS (gs_lenS (gs_lenS (gs_lenS gs_len0)))))))
      (b_cons (s_if (t_eqS (x_var 3) x_str) (b_one (s_ret (x_sub (x_mul x_int (x_cal h_ten_to (hr.mono (by decide)) (a_cons (x_sub (x_var 2) x_int) a_nil))) x_int))) b_nil)
      (b_one (s_ret (x_sub (x_cal h_ten_to (hr.mono (by decide)) (a_cons (x_var 2) a_nil)) x_int)))))), gm, F.kp, hb⟩
theorem ok_fits {f : Addr} {fd : FuncData} (h_least_of : Cal P w K mg base "least_of" 2 m_least_of) (h_most_of : Cal P w K mg base "most_of" 2 m_most_of) (F : Fun K "fits" "fits" s_fits f fd) (gm : mg "fits" = some (.ref f)) (hb : Binds K fd ["shape", "number"] []) : Cal P w K mg base "fits" 3 m_fits :=
  ⟨f, fd, _, d_ok (k := 2) F sc_fits (fun cdv A outer s H E hr => by
    have nd := sc_fits.nd
    exact (b_one (s_ret (x_chain op_le op_le (x_cal h_least_of (hr.mono (by decide)) (a_cons (x_var 0) a_nil)) (x_var 1) (x_cal h_most_of (hr.mono (by decide)) (a_cons (x_var 0) a_nil)))))), gm, F.kp, hb⟩
theorem ok_written {f : Addr} {fd : FuncData} (h_fits : Cal P w K mg base "fits" 3 m_fits) (z_str : mg "str" = none) (z_abs : mg "abs" = none) (r_NoFit : Xc1 P w K mg base "NoFit" "number") (F : Fun K "written" "written" s_written f fd) (gm : mg "written" = some (.ref f)) (hb : Binds K fd ["shape", "number"] []) : CalX P w K mg base "written" 4 m_written :=
  ⟨f, fd, _, d_okX (k := 3) F sc_written (fun cdv A outer s H E hr tk => by
    have nd := sc_written.nd
    exact (b_cons (s_asg (x_var 0) (g_tp rfl (gs_cons (g_nm 3 nd) (gs_cons (g_nm 4 nd) (gs_cons (g_nm 5 nd) (gs_cons (g_nm 6 nd) gs_nil)))) (hl := (gs_lenS (gs_lenS (gs_lenS (gs_lenS gs_len0)))))))
      (b_cons (s_if (t_not (t_val (x_cal h_fits (hr.mono (by decide)) (a_cons (x_var 0) (a_cons (x_var 1) a_nil))))) (b_one (s_raise1 r_NoFit rfl (hr.mono (by decide)) tk (x_var 1))) b_nil)
      (b_cons (s_set 2 nd (x_zf (x_str1 z_str (x_abs z_abs (x_var 1))) (x_add (x_var 6) x_int)))
      (b_cons (s_if (t_gt (x_var 6) x_int) (b_one (s_set 2 nd (x_catS (x_catS (x_slS (x_var 2) o_none (o_some (x_neg (x_var 6)))) x_str) (x_slS (x_var 2) (o_some (x_neg (x_var 6))) o_none)))) b_nil)
      (b_one (s_ret (x_ifE (t_lt (x_var 1) x_int) (x_catS x_str (x_var 2)) (x_var 2))))))))), gm, F.kp, hb⟩
theorem ok__law_cell {f : Addr} {fd : FuncData} (z_len : mg "len" = none) (F : Fun K "_law_cell" "_law_cell" s__law_cell f fd) (gm : mg "_law_cell" = some (.ref f)) (hb : Binds K fd ["_law_script", "_law_k"] []) : Cal P w K mg base "_law_cell" 1 m__law_cell :=
  ⟨f, fd, _, d_ok (k := 0) F sc__law_cell (fun cdv A outer s H E hr => by
    have nd := sc__law_cell.nd
    exact (b_cons (s_if (t_lt (x_var 1) (x_len z_len (x_var 0))) (b_one (s_ret (x_ixL (x_var 0) (x_var 1)))) b_nil)
      (b_cons (s_if (t_eqS (x_len z_len (x_var 0)) x_int) (b_one (s_ret (x_mul x_int (x_add (x_var 1) x_int)))) b_nil)
      (b_one (s_ret (x_add (x_ixL (x_var 0) (x_mod (x_var 1) (x_len z_len (x_var 0)))) (x_mul x_int (x_var 1)))))))), gm, F.kp, hb⟩
theorem ok__law_mixed {f : Addr} {fd : FuncData} (F : Fun K "_law_mixed" "_law_mixed" s__law_mixed f fd) (gm : mg "_law_mixed" = some (.ref f)) (hb : Binds K fd ["_law_cell_here", "_law_k", "_law_salt"] []) : Cal P w K mg base "_law_mixed" 1 m__law_mixed :=
  ⟨f, fd, _, d_ok (k := 0) F sc__law_mixed (fun cdv A outer s H E hr => by
    have nd := sc__law_mixed.nd
    exact (b_cons (s_set 3 nd (x_lst (a_cons x_int (a_cons x_int (a_cons x_int (a_cons x_int (a_cons x_int (a_cons x_int (a_cons x_int (a_cons x_int a_nil))))))))))
      (b_cons (s_set 4 nd (x_mod (x_add (x_add (x_add (x_var 0) (x_mul x_int (x_var 2))) (x_mul x_int (x_var 1))) x_int) x_int))
      (b_cons (s_set 4 nd (x_mod (x_pow (x_var 4) x_int) (x_ixL (x_var 3) (x_mod (x_var 1) x_int))))
      (b_cons (s_set 5 nd (x_mod (x_add (x_add (x_var 4) (x_mul x_int (x_var 2))) (x_var 1)) x_int))
      (b_one (s_ret (x_add (x_mul (x_mod (x_pow (x_var 5) x_int) x_int) x_int) (x_var 4))))))))), gm, F.kp, hb⟩
theorem ok__law_draws {f : Addr} {fd : FuncData} (h__law_mixed : Cal P w K mg base "_law_mixed" 1 m__law_mixed) (z_abs : mg "abs" = none) (z_range : mg "range" = none) (z_len : mg "len" = none) (F : Fun K "_law_draws" "_law_draws" s__law_draws f fd) (gm : mg "_law_draws" = some (.ref f)) (hb : Binds K fd ["_law_cell_here", "_law_salt", "_law_widths"] []) : Cal P w K mg base "_law_draws" 2 m__law_draws :=
  ⟨f, fd, _, d_ok (k := 1) F sc__law_draws (fun cdv A outer s H E hr => by
    have nd := sc__law_draws.nd
    exact (b_cons (s_set 3 nd (x_lst a_nil))
      (b_cons (s_set 4 nd x_int)
      (b_cons (s_if (t_ge (x_abs z_abs (x_var 0)) (x_pow x_int x_int)) (b_one (s_set 4 nd (x_abs z_abs (x_var 0)))) b_nil)
      (b_cons (s_for (i_r1 z_range (x_len z_len (x_var 2))) (g_nm 5 nd)
      (b_one (s_if (t_gt (x_var 4) x_int) (b_cons (s_app 3 (x_mod (x_var 4) (x_ixL (x_var 2) (x_var 5))))
      (b_one (s_set 4 nd (x_div (x_var 4) (x_ixL (x_var 2) (x_var 5)))))) (b_one (s_app 3 (x_mod (x_cal h__law_mixed (hr.mono (by decide)) (a_cons (x_var 0) (a_cons (x_var 5) (a_cons (x_var 1) a_nil)))) (x_ixL (x_var 2) (x_var 5))))))))
      (b_one (s_retV 3))))))), gm, F.kp, hb⟩
theorem ok__law_power {f : Addr} {fd : FuncData} (z_range : mg "range" = none) (F : Fun K "_law_power" "_law_power" s__law_power f fd) (gm : mg "_law_power" = some (.ref f)) (hb : Binds K fd ["_law_base", "_law_many"] []) : Cal P w K mg base "_law_power" 1 m__law_power :=
  ⟨f, fd, _, d_ok (k := 0) F sc__law_power (fun cdv A outer s H E hr => by
    have nd := sc__law_power.nd
    exact (b_cons (s_set 2 nd x_int)
      (b_cons (s_for (i_r1 z_range (x_var 1)) (g_nm 3 nd)
      (b_one (s_set 2 nd (x_mul (x_var 2) (x_var 0)))))
      (b_one (s_retV 2))))), gm, F.kp, hb⟩
theorem ok__law_form {f : Addr} {fd : FuncData} (F : Fun K "_law_form" "_law_form" s__law_form f fd) (gm : mg "_law_form" = some (.ref f)) (hb : Binds K fd ["_law_kind", "_law_many", "_law_sign"] []) : Cal P w K mg base "_law_form" 1 m__law_form :=
  ⟨f, fd, _, d_ok (k := 0) F sc__law_form (fun cdv A outer s H E hr => by
    have nd := sc__law_form.nd
    exact (b_cons (s_set 3 nd (x_mod (x_add (x_add (x_mul x_int (x_var 1)) (x_mul x_int (x_var 0))) (x_var 2)) (x_add (x_var 1) x_int)))
      (b_one (s_ret (x_tup (a_cons (x_ixL (x_lst (a_cons x_str (a_cons x_str a_nil))) (x_var 0)) (a_cons (x_add x_int (x_var 1)) (a_cons (x_ixL (x_lst (a_cons x_str (a_cons x_str (a_cons x_str a_nil)))) (x_var 2)) (a_cons (x_var 3) a_nil))))))))), gm, F.kp, hb⟩
theorem ok__law_ends {f : Addr} {fd : FuncData} (h__law_power : Cal P w K mg base "_law_power" 1 m__law_power) (F : Fun K "_law_ends" "_law_ends" s__law_ends f fd) (gm : mg "_law_ends" = some (.ref f)) (hb : Binds K fd ["_law_form_here"] []) : Cal P w K mg base "_law_ends" 2 m__law_ends :=
  ⟨f, fd, _, d_ok (k := 1) F sc__law_ends (fun cdv A outer s H E hr => by
    have nd := sc__law_ends.nd
    exact (b_cons (s_set 1 nd (x_cal h__law_power (hr.mono (by decide)) (a_cons x_int (a_cons (x_ixT (x_var 0) x_int) a_nil))))
      (b_cons (s_if (t_eqS (x_ixT (x_var 0) x_int) x_str) (b_one (s_ret (x_tup (a_cons x_int (a_cons (x_sub (x_var 1) x_int) a_nil))))) b_nil)
      (b_cons (s_if (t_eqS (x_ixT (x_var 0) x_int) x_str) (b_one (s_ret (x_tup (a_cons (x_sub x_int (x_var 1)) (a_cons (x_sub (x_var 1) x_int) a_nil))))) b_nil)
      (b_one (s_ret (x_tup (a_cons (x_sub x_int (x_div (x_var 1) x_int)) (a_cons (x_sub (x_div (x_var 1) x_int) x_int) a_nil))))))))), gm, F.kp, hb⟩
theorem ok__law_number {f : Addr} {fd : FuncData} (h__law_ends : Cal P w K mg base "_law_ends" 2 m__law_ends) (h__law_power : Cal P w K mg base "_law_power" 1 m__law_power) (z_max : mg "max" = none) (z_min : mg "min" = none) (F : Fun K "_law_number" "_law_number" s__law_number f fd) (gm : mg "_law_number" = some (.ref f)) (hb : Binds K fd ["_law_form_here", "_law_way", "_law_far"] []) : Cal P w K mg base "_law_number" 3 m__law_number :=
  ⟨f, fd, _, d_ok (k := 2) F sc__law_number (fun cdv A outer s H E hr => by
    have nd := sc__law_number.nd
    exact (b_cons (s_asg (x_cal h__law_ends (hr.mono (by decide)) (a_cons (x_var 0) a_nil)) (g_tp rfl (gs_cons (g_nm 6 nd) (gs_cons (g_nm 7 nd) gs_nil)) (hl := (gs_lenS (gs_lenS gs_len0)))))
      (b_cons (s_if (t_gt (x_var 1) x_int) (b_one (s_ret (x_add (x_var 6) (x_mod (x_var 2) (x_add (x_sub (x_var 7) (x_var 6)) x_int))))) b_nil)
      (b_cons (s_set 3 nd (x_cal h__law_power (hr.mono (by decide)) (a_cons x_int (a_cons (x_mod (x_var 2) (x_ixT (x_var 0) x_int)) a_nil))))
      (b_cons (s_set 4 nd (x_lst (a_cons x_int (a_cons x_int (a_cons (x_var 7) (a_cons (x_var 6) (a_cons (x_var 3) (a_cons (x_sub (x_var 3) x_int) (a_cons (x_mul x_int (x_var 3)) (a_cons (x_mul x_int (x_var 3)) (a_cons (x_add (x_var 3) x_int) a_nil)))))))))))
      (b_cons (s_app 4 (x_mod (x_div (x_var 2) x_int) (x_mul x_int (x_var 3))))
      (b_cons (s_set 5 nd (x_ixL (x_var 4) (x_var 1)))
      (b_cons (s_if (t_and (t_lt (x_var 6) x_int) (w_and1 (t_eqS (x_mod (x_div (x_var 2) x_int) x_int) x_int))) (b_one (s_set 5 nd (x_sub x_int (x_var 5)))) b_nil)
      (b_one (s_ret (x_max rfl z_max (x_var 6) (x_min rfl z_min (x_var 7) (x_var 5))))))))))))), gm, F.kp, hb⟩
theorem ok__law_text {f : Addr} {fd : FuncData} (z_abs : mg "abs" = none) (z_len : mg "len" = none) (z_int : mg "int" = none) (F : Fun K "_law_text" "_law_text" s__law_text f fd) (gm : mg "_law_text" = some (.ref f)) (hb : Binds K fd ["_law_form_here", "_law_number_here"] []) : Cal P w K mg base "_law_text" 1 m__law_text :=
  ⟨f, fd, _, d_ok (k := 0) F sc__law_text (fun cdv A outer s H E hr => by
    have nd := sc__law_text.nd
    exact (b_cons (s_set 2 nd x_str)
      (b_cons (s_set 3 nd (x_abs z_abs (x_var 1)))
      (b_cons (s_while (t_or (t_gt (x_var 3) x_int) (w_or1 (t_lt (x_len z_len (x_var 2)) (x_add (x_ixT (x_var 0) x_int) x_int))))
      (b_cons (s_set 2 nd (x_catS (x_ixS x_str (x_mod (x_var 3) x_int)) (x_var 2)))
      (b_one (s_set 3 nd (x_div (x_var 3) x_int)))))
      (b_cons (s_if (t_gt (x_ixT (x_var 0) x_int) x_int) (b_cons (s_set 4 nd (x_sub (x_len z_len (x_var 2)) (x_ixT (x_var 0) x_int)))
      (b_one (s_set 2 nd (x_catS (x_catS (x_slS (x_var 2) o_none (o_some (x_var 4))) x_str) (x_slS (x_var 2) (o_some (x_var 4)) o_none))))) b_nil)
      (b_one (s_ret (x_catS (x_repS x_str (x_intOf z_int (x_lt (x_var 1) x_int))) (x_var 2))))))))), gm, F.kp, hb⟩
theorem ok__law_refused {f : Addr} {fd : FuncData} {A_NoFit : Addr} {A_LoftError : Addr} {A_NoText : Addr} (h_written : CalX P w K mg base "written" 4 m_written) (z_isinstance : mg "isinstance" = none) (q_NoFit : ExK K mg "NoFit" A_NoFit) (x_NoFit : PySem.W.exmOne K (.ref A_NoFit) (.ref A_NoFit) = some true) (no_NoFit_number : PySem.W.findIn K (.ref A_NoFit) "number" = some none) (n_LoftError : mg "LoftError" = some (.ref A_LoftError)) (n_NoText : mg "NoText" = some (.ref A_NoText)) (k_NoFit_LoftError : PySem.W.kitOne K (.ref A_NoFit) (.ref A_LoftError) = some true) (k_NoFit_NoText : PySem.W.kitOne K (.ref A_NoFit) (.ref A_NoText) = some false) (F : Fun K "_law_refused" "_law_refused" s__law_refused f fd) (gm : mg "_law_refused" = some (.ref f)) (hb : Binds K fd ["_law_form_here", "_law_number_here"] []) : Cal P w K mg base "_law_refused" 5 m__law_refused :=
  ⟨f, fd, _, d_ok (k := 4) F sc__law_refused (fun cdv A outer s H E hr => by
    have nd := sc__law_refused.nd
    exact (b_cons (s_set 2 nd x_bl)
      (b_cons (s_tryAs 3 (fun c => if c = "NoFit" then some true else none) nd ⟨rfl, by decide, .inl q_NoFit.gC⟩ takes0 (mt_one q_NoFit.gC x_NoFit) (fun W' pn xe tk po => (b_one (s_exprX h_written (hr.mono (by decide)) tk (a_cons (x_var 0) (a_cons (x_var 1) a_nil)))))
      (fun a oe cls d pn hz hf => (b_one (s_set 2 nd (x_andV (x_exI 3 q_NoFit z_isinstance n_LoftError k_NoFit_LoftError hz hf) (x_andV (x_notV (x_exI 3 q_NoFit z_isinstance n_NoText k_NoFit_NoText hz hf)) (x_one (x_eqS (x_exF 3 q_NoFit no_NoFit_number hz hf) (x_var 1)))))))))
      (b_one (s_retV 2))))), gm, F.kp, hb⟩
theorem ok_law {f : Addr} {fd : FuncData} (h__law_draws : Cal P w K mg base "_law_draws" 2 m__law_draws) (h__law_cell : Cal P w K mg base "_law_cell" 1 m__law_cell) (h__law_form : Cal P w K mg base "_law_form" 1 m__law_form) (h__law_ends : Cal P w K mg base "_law_ends" 2 m__law_ends) (h__law_number : Cal P w K mg base "_law_number" 3 m__law_number) (h__law_power : Cal P w K mg base "_law_power" 1 m__law_power) (h_written : CalX P w K mg base "written" 4 m_written) (h__law_text : Cal P w K mg base "_law_text" 1 m__law_text) (h__law_refused : Cal P w K mg base "_law_refused" 5 m__law_refused) (z_range : mg "range" = none) (z_max : mg "max" = none) (z_min : mg "min" = none) (F : Fun K "law" "law" s_law f fd) (gm : mg "law" = some (.ref f)) (hb : Binds K fd ["_law_script"] []) : Cal P w K mg base "law" 6 m_law :=
  ⟨f, fd, _, d_ok (k := 5) F sc_law (fun cdv A outer s H E hr => by
    have nd := sc_law.nd
    exact (b_cons (s_asgL rfl (x_cal h__law_draws (hr.mono (by decide)) (a_cons (x_cal h__law_cell (hr.mono (by decide)) (a_cons (x_var 0) (a_cons x_int a_nil))) (a_cons x_int (a_cons (x_lst (a_cons x_int (a_cons x_int a_nil))) a_nil)))) (gs_cons (g_nm 2 nd) (gs_cons (g_nm 3 nd) gs_nil)) (hl := (gs_lenS (gs_lenS gs_len0))))
      (b_cons (s_for (i_r1 z_range x_int) (g_nm 1 nd)
      (b_cons (s_set 4 nd (x_cal h__law_draws (hr.mono (by decide)) (a_cons (x_cal h__law_cell (hr.mono (by decide)) (a_cons (x_var 0) (a_cons (x_add x_int (x_var 1)) a_nil))) (a_cons (x_add x_int (x_var 1)) (a_cons (x_lst (a_cons x_int (a_cons (x_pow x_int x_int) (a_cons (x_add x_int (x_var 1)) (a_cons x_int (a_cons (x_pow x_int x_int) a_nil)))))) a_nil)))))
      (b_cons (s_set 5 nd (x_catT (x_slT (x_cal h__law_form (hr.mono (by decide)) (a_cons (x_var 2) (a_cons (x_var 1) (a_cons (x_var 3) a_nil)))) o_none (o_some x_int)) (x_tup (a_cons (x_ixL (x_var 4) x_int) a_nil))))
      (b_cons (s_asg (x_cal h__law_ends (hr.mono (by decide)) (a_cons (x_var 5) a_nil)) (g_tp rfl (gs_cons (g_nm 10 nd) (gs_cons (g_nm 11 nd) gs_nil)) (hl := (gs_lenS (gs_lenS gs_len0)))))
      (b_cons (s_set 6 nd (x_cal h__law_number (hr.mono (by decide)) (a_cons (x_var 5) (a_cons (x_ixL (x_var 4) x_int) (a_cons (x_ixL (x_var 4) x_int) a_nil)))))
      (b_cons (s_set 7 nd (x_max rfl z_max (x_var 10) (x_min rfl z_min (x_var 11) (x_div (x_var 6) (x_cal h__law_power (hr.mono (by decide)) (a_cons x_int (a_cons (x_ixL (x_var 4) x_int) a_nil)))))))
      (b_cons (s_for (i_t (x_tup (a_cons (x_var 6) (a_cons (x_var 7) (a_cons x_int a_nil))))) (g_nm 8 nd)
      (b_one (s_if (t_neS (x_calX h_written (hr.mono (by decide)) (a_cons (x_var 5) (a_cons (x_var 8) a_nil))) (x_cal h__law_text (hr.mono (by decide)) (a_cons (x_var 5) (a_cons (x_var 8) a_nil)))) (b_one (s_ret x_bl)) b_nil)))
      (b_cons (s_set 9 nd (x_mul (x_ixL (x_var 4) x_int) (x_mod (x_ixL (x_var 4) x_int) x_int)))
      (b_one (s_if (t_or (t_not (t_val (x_cal h__law_refused (hr.mono (by decide)) (a_cons (x_var 5) (a_cons (x_add (x_add (x_var 11) x_int) (x_var 9)) a_nil))))) (w_or1 (t_not (t_val (x_cal h__law_refused (hr.mono (by decide)) (a_cons (x_var 5) (a_cons (x_sub (x_sub (x_var 10) x_int) (x_var 9)) a_nil))))))) (b_one (s_ret x_bl)) b_nil))))))))))
      (b_one (s_ret x_bl))))), gm, F.kp, hb⟩
end
abbrev si_NoFit : Stmt := inClass (topS 2) 0
theorem sci_NoFit : FnScope ["self", "number"] ["self", "number"] (defScope si_NoFit) := ⟨rfl, rfl, rfl, by decide +kernel, rfl, by decide +kernel, by decide +kernel⟩
theorem ini_NoFit {P : Program} {w : World} {K : PySem.W.Frag} {mg : Str → Option Value} {base : Heap} {f : Addr} {fd : FuncData} (F : Fun K "__init__" "NoFit.__init__" si_NoFit f fd) : FnOk P w K mg base CX0 1 f fd ["self", "number"] (spI1 K "number") := by
  refine F.ok sci_NoFit (fun vs H Q E h => ?_) (fun cdv A outer s H vs Q E hr h => ?_)
  · obtain ⟨a, C, y, rfl, _⟩ := h
    rfl
  · obtain ⟨a, C, y, rfl, T, hno, ha, q⟩ := h
    exact ⟨_, pss_one (ps_ost (pv 0) (pv 1)), ⟨_, rfl, _, rfl, a, C, rfl, T, hno, .inl ⟨ha, q⟩⟩⟩
theorem fn_law {P : Program} {w : World} {K : PySem.W.Frag} {mg : Str → Option Value} {base : Heap} {f : Addr} {fd : FuncData} (h__law_draws : Cal P w K mg base "_law_draws" 2 m__law_draws) (h__law_cell : Cal P w K mg base "_law_cell" 1 m__law_cell) (h__law_form : Cal P w K mg base "_law_form" 1 m__law_form) (h__law_ends : Cal P w K mg base "_law_ends" 2 m__law_ends) (h__law_number : Cal P w K mg base "_law_number" 3 m__law_number) (h__law_power : Cal P w K mg base "_law_power" 1 m__law_power) (h_written : CalX P w K mg base "written" 4 m_written) (h__law_text : Cal P w K mg base "_law_text" 1 m__law_text) (h__law_refused : Cal P w K mg base "_law_refused" 5 m__law_refused) (z_range : mg "range" = none) (z_max : mg "max" = none) (z_min : mg "min" = none) (F : Fun K "law" "law" s_law f fd) : FnOk P w K mg base CX0 6 f fd ["_law_script"] (spM K m_law) :=
  d_ok F sc_law (fun cdv A outer s H E hr => by
    have nd := sc_law.nd
    exact (b_cons (s_asgL rfl (x_cal h__law_draws (hr.mono (by decide)) (a_cons (x_cal h__law_cell (hr.mono (by decide)) (a_cons (x_var 0) (a_cons x_int a_nil))) (a_cons x_int (a_cons (x_lst (a_cons x_int (a_cons x_int a_nil))) a_nil)))) (gs_cons (g_nm 2 nd) (gs_cons (g_nm 3 nd) gs_nil)) (hl := (gs_lenS (gs_lenS gs_len0))))
      (b_cons (s_for (i_r1 z_range x_int) (g_nm 1 nd)
      (b_cons (s_set 4 nd (x_cal h__law_draws (hr.mono (by decide)) (a_cons (x_cal h__law_cell (hr.mono (by decide)) (a_cons (x_var 0) (a_cons (x_add x_int (x_var 1)) a_nil))) (a_cons (x_add x_int (x_var 1)) (a_cons (x_lst (a_cons x_int (a_cons (x_pow x_int x_int) (a_cons (x_add x_int (x_var 1)) (a_cons x_int (a_cons (x_pow x_int x_int) a_nil)))))) a_nil)))))
      (b_cons (s_set 5 nd (x_catT (x_slT (x_cal h__law_form (hr.mono (by decide)) (a_cons (x_var 2) (a_cons (x_var 1) (a_cons (x_var 3) a_nil)))) o_none (o_some x_int)) (x_tup (a_cons (x_ixL (x_var 4) x_int) a_nil))))
      (b_cons (s_asg (x_cal h__law_ends (hr.mono (by decide)) (a_cons (x_var 5) a_nil)) (g_tp rfl (gs_cons (g_nm 10 nd) (gs_cons (g_nm 11 nd) gs_nil)) (hl := (gs_lenS (gs_lenS gs_len0)))))
      (b_cons (s_set 6 nd (x_cal h__law_number (hr.mono (by decide)) (a_cons (x_var 5) (a_cons (x_ixL (x_var 4) x_int) (a_cons (x_ixL (x_var 4) x_int) a_nil)))))
      (b_cons (s_set 7 nd (x_max rfl z_max (x_var 10) (x_min rfl z_min (x_var 11) (x_div (x_var 6) (x_cal h__law_power (hr.mono (by decide)) (a_cons x_int (a_cons (x_ixL (x_var 4) x_int) a_nil)))))))
      (b_cons (s_for (i_t (x_tup (a_cons (x_var 6) (a_cons (x_var 7) (a_cons x_int a_nil))))) (g_nm 8 nd)
      (b_one (s_if (t_neS (x_calX h_written (hr.mono (by decide)) (a_cons (x_var 5) (a_cons (x_var 8) a_nil))) (x_cal h__law_text (hr.mono (by decide)) (a_cons (x_var 5) (a_cons (x_var 8) a_nil)))) (b_one (s_ret x_bl)) b_nil)))
      (b_cons (s_set 9 nd (x_mul (x_ixL (x_var 4) x_int) (x_mod (x_ixL (x_var 4) x_int) x_int)))
      (b_one (s_if (t_or (t_not (t_val (x_cal h__law_refused (hr.mono (by decide)) (a_cons (x_var 5) (a_cons (x_add (x_add (x_var 11) x_int) (x_var 9)) a_nil))))) (w_or1 (t_not (t_val (x_cal h__law_refused (hr.mono (by decide)) (a_cons (x_var 5) (a_cons (x_sub (x_sub (x_var 10) x_int) (x_var 9)) a_nil))))))) (b_one (s_ret x_bl)) b_nil))))))))))
      (b_one (s_ret x_bl)))))
end Lw

namespace Lw
open PySem PySem.Spec PyProof.Rows L2 Evl Tl TL
theorem cell_ok (ns : List Int) (k : Int) (h0 : 0 ≤ k) : ∃ c, m__law_cell [.ro (ns.map .int), .dat (.int k)] = some (.dat (.int c)) := by
  by_cases h1 : k < (ns.length : Int)
  · obtain ⟨v, hv⟩ := atI_in h0 h1
    exact ⟨v, by simp [m__law_cell, b__law_cell, mDef, okP_iff, okP_iffF, okP_T, okP_F, startC, argC, argN, outR, mSeq, mIf, mT, mLt, mLe, mGt, mGe, mII, cT, mVar, mC, mLen, aCons, aNil, gLen, asInt, asBl, asDat, asStr, asTup, asLst, asTrk, mRet, retR, mRetV, mSet, setR, mIxL, mIxT, mSkip, mEqS, mNeS, eqS, mMul, mAdd, mSub, mDiv, mMod, mPow, mNeg, cMul, cDiv, cMod, cPow, mTup, mLst, dats, szOk, mCall, mAbs', gAbs, mChain, tAndM, tOrM, tNotM, mIfE, mAndV, mOrV, mNotV, mApp, mAug, gNm, gTp, gCons', gNil', mAsg, mAsgL, mFor, iR1, iR2, bnd62, mDrop, mCatS, mCatT, mCatL, mSlT, mSlL, oNone, oSome, mIsi, isiD, mIsN, mNotN, Tl.isNon, mIntOf, gIntB, mMax', mMin', gMax2, gMin2, mEqD, mNeD, mIn, mNi, inF, eqF, mSlS, mIxS, mRaise1, mRaise2, mDefX, outX, okX, callX, mSetX, mExprX, mRetX, mTry, endT, dropX, mExF, mExI, mRevL, mRepL, mStr, gStr, mZf, mRepS, iN, iV, iT, frzV, h1, atI_map hv]⟩
  · by_cases h2 : (ns.length : Int) = 0
    · exact ⟨7919 * (k + 1), by simp [m__law_cell, b__law_cell, mDef, okP_iff, okP_iffF, okP_T, okP_F, startC, argC, argN, outR, mSeq, mIf, mT, mLt, mLe, mGt, mGe, mII, cT, mVar, mC, mLen, aCons, aNil, gLen, asInt, asBl, asDat, asStr, asTup, asLst, asTrk, mRet, retR, mRetV, mSet, setR, mIxL, mIxT, mSkip, mEqS, mNeS, eqS, mMul, mAdd, mSub, mDiv, mMod, mPow, mNeg, cMul, cDiv, cMod, cPow, mTup, mLst, dats, szOk, mCall, mAbs', gAbs, mChain, tAndM, tOrM, tNotM, mIfE, mAndV, mOrV, mNotV, mApp, mAug, gNm, gTp, gCons', gNil', mAsg, mAsgL, mFor, iR1, iR2, bnd62, mDrop, mCatS, mCatT, mCatL, mSlT, mSlL, oNone, oSome, mIsi, isiD, mIsN, mNotN, Tl.isNon, mIntOf, gIntB, mMax', mMin', gMax2, gMin2, mEqD, mNeD, mIn, mNi, inF, eqF, mSlS, mIxS, mRaise1, mRaise2, mDefX, outX, okX, callX, mSetX, mExprX, mRetX, mTry, endT, dropX, mExF, mExI, mRevL, mRepL, mStr, gStr, mZf, mRepS, iN, iV, iT, frzV, h1, h2, show ¬ k < 0 by omega]⟩
    · have h3 : 0 < (ns.length : Int) := by omega
      obtain ⟨v, hv⟩ := atI_in (ns := ns) (i := k % (ns.length : Int)) (Int.emod_nonneg _ h2) (Int.emod_lt_of_pos _ h3)
      exact ⟨v + 104729 * k, by simp [m__law_cell, b__law_cell, mDef, okP_iff, okP_iffF, okP_T, okP_F, startC, argC, argN, outR, mSeq, mIf, mT, mLt, mLe, mGt, mGe, mII, cT, mVar, mC, mLen, aCons, aNil, gLen, asInt, asBl, asDat, asStr, asTup, asLst, asTrk, mRet, retR, mRetV, mSet, setR, mIxL, mIxT, mSkip, mEqS, mNeS, eqS, mMul, mAdd, mSub, mDiv, mMod, mPow, mNeg, cMul, cDiv, cMod, cPow, mTup, mLst, dats, szOk, mCall, mAbs', gAbs, mChain, tAndM, tOrM, tNotM, mIfE, mAndV, mOrV, mNotV, mApp, mAug, gNm, gTp, gCons', gNil', mAsg, mAsgL, mFor, iR1, iR2, bnd62, mDrop, mCatS, mCatT, mCatL, mSlT, mSlL, oNone, oSome, mIsi, isiD, mIsN, mNotN, Tl.isNon, mIntOf, gIntB, mMax', mMin', gMax2, gMin2, mEqD, mNeD, mIn, mNi, inF, eqF, mSlS, mIxS, mRaise1, mRaise2, mDefX, outX, okX, callX, mSetX, mExprX, mRetX, mTry, endT, dropX, mExF, mExI, mRevL, mRepL, mStr, gStr, mZf, mRepS, iN, iV, iT, frzV, h1, h2, h3, show 0 < ns.length by omega, atI_map hv, show ¬ ns = [] by intro e; subst e; exact h2 rfl]⟩
theorem pow5 {a p : Int} (h0 : 0 ≤ a) (h1 : a < 2147483647) : a.natAbs < 18446744073709551616 := by omega
theorem mixed_ok (c k s : Int) (h0 : 0 ≤ k) : ∃ v, m__law_mixed [.dat (.int c), .dat (.int k), .dat (.int s)] = some (.dat (.int v)) := by
  have hk0 : 0 ≤ k % 8 := Int.emod_nonneg _ (by decide)
  have hk1 : k % 8 < 8 := Int.emod_lt_of_pos _ (by decide)
  have hp : ∃ p : Int, 0 < p ∧ p < 2147483648 ∧ atI [D.int 2147483629, D.int 2147483587, D.int 2147483579, D.int 2147483563, D.int 2147483549, D.int 2147483543, D.int 2147483497, D.int 2147483489] (k % 8) = some (.int p) := by
    have : k % 8 = 0 ∨ k % 8 = 1 ∨ k % 8 = 2 ∨ k % 8 = 3 ∨ k % 8 = 4 ∨ k % 8 = 5 ∨ k % 8 = 6 ∨ k % 8 = 7 := by omega
    rcases this with e | e | e | e | e | e | e | e <;> rw [e] <;> exact ⟨_, by decide, by decide, rfl⟩
  obtain ⟨p, hp0, hp1, hp⟩ := hp
  have a1 : ∀ x : Int, (x % 2147483647).natAbs < 18446744073709551616 := fun x => by
    have := Int.emod_nonneg x (b := 2147483647) (by decide)
    have := Int.emod_lt_of_pos x (b := 2147483647) (by decide)
    omega
  simp [m__law_mixed, b__law_mixed, mDef, okP_iff, okP_iffF, okP_T, okP_F, startC, argC, argN, outR, mSeq, mIf, mT, mLt, mLe, mGt, mGe, mII, cT, mVar, mC, mLen, aCons, aNil, gLen, asInt, asBl, asDat, asStr, asTup, asLst, asTrk, mRet, retR, mRetV, mSet, setR, mIxL, mIxT, mSkip, mEqS, mNeS, eqS, mMul, mAdd, mSub, mDiv, mMod, mPow, mNeg, cMul, cDiv, cMod, cPow, mTup, mLst, dats, szOk, mCall, mAbs', gAbs, mChain, tAndM, tOrM, tNotM, mIfE, mAndV, mOrV, mNotV, mApp, mAug, gNm, gTp, gCons', gNil', mAsg, mAsgL, mFor, iR1, iR2, bnd62, mDrop, mCatS, mCatT, mCatL, mSlT, mSlL, oNone, oSome, mIsi, isiD, mIsN, mNotN, Tl.isNon, mIntOf, gIntB, mMax', mMin', gMax2, gMin2, mEqD, mNeD, mIn, mNi, inF, eqF, mSlS, mIxS, mRaise1, mRaise2, mDefX, outX, okX, callX, mSetX, mExprX, mRetX, mTry, endT, dropX, mExF, mExI, mRevL, mRepL, mStr, gStr, mZf, mRepS, iN, iV, iT, frzV, hp, hp0, a1]
theorem draws_turn (c s left k w : Int) (ws ds : List Int) (x : C) (hk : 0 ≤ k) (hw : atI ws k = some w) (hwo : WOk w) (hl : ds.length < 1000) :
    ∃ d left', 0 ≤ d ∧ d < w ∧ f__law_draws_1 [.dat (.int c), .dat (.int s), .bor (ws.map .int), .own (ds.map .int), .dat (.int left), .dat (.int k)] = some (.nx [.dat (.int c), .dat (.int s), .bor (ws.map .int), .own ((ds ++ [d]).map .int), .dat (.int left'), .dat (.int k)]) := by
  have m0 : ∀ x : Int, 0 ≤ x % w ∧ x % w < w := fun x => ⟨Int.emod_nonneg _ (by have := hwo.1; omega), Int.emod_lt_of_pos _ hwo.1⟩
  by_cases hlf : 0 < left
  · exact ⟨left % w, left / w, (m0 _).1, (m0 _).2, by simp [f__law_draws_1, mDef, okP_iff, okP_iffF, okP_T, okP_F, startC, argC, argN, outR, mSeq, mIf, mT, mLt, mLe, mGt, mGe, mII, cT, mVar, mC, mLen, aCons, aNil, gLen, asInt, asBl, asDat, asStr, asTup, asLst, asTrk, mRet, retR, mRetV, mSet, setR, mIxL, mIxT, mSkip, mEqS, mNeS, eqS, mMul, mAdd, mSub, mDiv, mMod, mPow, mNeg, cMul, cDiv, cMod, cPow, mTup, mLst, dats, szOk, mCall, mAbs', gAbs, mChain, tAndM, tOrM, tNotM, mIfE, mAndV, mOrV, mNotV, mApp, mAug, gNm, gTp, gCons', gNil', mAsg, mAsgL, mFor, iR1, iR2, bnd62, mDrop, mCatS, mCatT, mCatL, mSlT, mSlL, oNone, oSome, mIsi, isiD, mIsN, mNotN, Tl.isNon, mIntOf, gIntB, mMax', mMin', gMax2, gMin2, mEqD, mNeD, mIn, mNi, inF, eqF, mSlS, mIxS, mRaise1, mRaise2, mDefX, outX, okX, callX, mSetX, mExprX, mRetX, mTry, endT, dropX, mExF, mExI, mRevL, mRepL, mStr, gStr, mZf, mRepS, iN, iV, iT, frzV, hlf, atI_map hw, hwo.1, hwo.2, show ds.length + 1 ≤ 100000 by omega]⟩
  · obtain ⟨v, hv⟩ := mixed_ok c k s hk
    exact ⟨v % w, left, (m0 _).1, (m0 _).2, by simp [f__law_draws_1, mDef, okP_iff, okP_iffF, okP_T, okP_F, startC, argC, argN, outR, mSeq, mIf, mT, mLt, mLe, mGt, mGe, mII, cT, mVar, mC, mLen, aCons, aNil, gLen, asInt, asBl, asDat, asStr, asTup, asLst, asTrk, mRet, retR, mRetV, mSet, setR, mIxL, mIxT, mSkip, mEqS, mNeS, eqS, mMul, mAdd, mSub, mDiv, mMod, mPow, mNeg, cMul, cDiv, cMod, cPow, mTup, mLst, dats, szOk, mCall, mAbs', gAbs, mChain, tAndM, tOrM, tNotM, mIfE, mAndV, mOrV, mNotV, mApp, mAug, gNm, gTp, gCons', gNil', mAsg, mAsgL, mFor, iR1, iR2, bnd62, mDrop, mCatS, mCatT, mCatL, mSlT, mSlL, oNone, oSome, mIsi, isiD, mIsN, mNotN, Tl.isNon, mIntOf, gIntB, mMax', mMin', gMax2, gMin2, mEqD, mNeD, mIn, mNi, inF, eqF, mSlS, mIxS, mRaise1, mRaise2, mDefX, outX, okX, callX, mSetX, mExprX, mRetX, mTry, endT, dropX, mExF, mExI, mRevL, mRepL, mStr, gStr, mZf, mRepS, iN, iV, iT, frzV, hlf, atI_map hw, hwo.1, hv, show ds.length + 1 ≤ 100000 by omega]⟩
theorem loop_draws (c s : Int) (ws : List Int) (hws : ∀ w ∈ ws, WOk w) (hlen : ws.length ≤ 500) : ∀ (m i : Nat) (ds : List Int) (left : Int) (x : C), i + m = ws.length → Drawn ds (ws.take i) →
    ∃ ds' left' x', Drawn ds' ws ∧ loopM (gNm 5) f__law_draws_1 ((rngD 0 ws.length).drop i) [.dat (.int c), .dat (.int s), .bor (ws.map .int), .own (ds.map .int), .dat (.int left), x] = some (.nx [.dat (.int c), .dat (.int s), .bor (ws.map .int), .own (ds'.map .int), .dat (.int left'), x'])
  | 0, i, ds, left, x, h, hd => by
    have e : i = ws.length := by omega
    subst e
    rw [List.take_length] at hd
    refine ⟨ds, left, x, hd, ?_⟩
    rw [show (rngD 0 ws.length).drop ws.length = [] by rw [List.drop_eq_nil_iff, rngD_len]; exact Nat.le_refl _]
    rfl
  | m + 1, i, ds, left, x, h, hd => by
    have hi : i < ws.length := by omega
    have hdl : ds.length = i := by rw [hd.length, List.length_take]; omega
    obtain ⟨w, hw⟩ : ∃ w, ws[i]? = some w := ⟨ws[i], List.getElem?_eq_getElem hi⟩
    have hat : atI ws ((i : Nat) : Int) = some w := atI_nat hw
    have hmem : w ∈ ws := List.mem_of_getElem? hw
    obtain ⟨d, left', h0, h1, hb⟩ := draws_turn c s left i w ws ds x (by omega) hat (hws w hmem) (by omega)
    obtain ⟨ds', l2, x2, hd2, hl2⟩ := loop_draws c s ws hws hlen m (i + 1) (ds ++ [d]) left' (.dat (.int i)) (by omega) (by rw [take_snoc hw]; exact hd.snoc h0 h1)
    refine ⟨ds', l2, x2, hd2, ?_⟩
    rw [drop_rng hi]
    unfold loopM
    have e0 : (0 : Int) + (i : Nat) = (i : Nat) := Int.zero_add _
    rw [e0]
    show (match f__law_draws_1 [.dat (.int c), .dat (.int s), .bor (ws.map .int), .own (ds.map .int), .dat (.int left), .dat (.int i)] with | some (.nx ρ') => loopM (gNm 5) f__law_draws_1 _ ρ' | some (.cnt ρ') => loopM (gNm 5) f__law_draws_1 _ ρ' | some (.brk ρ') => some (.nx ρ') | r => r) = _
    rw [hb]
    exact hl2
theorem draws_key (c s : Int) (ws : List Int) (hws : ∀ w ∈ ws, WOk w) (hlen : ws.length ≤ 500) : ∀ left : Int, ∃ ds, Drawn ds ws ∧ outR (mSeq (mFor (iR1 (mLen (mVar 2))) (gNm 5) f__law_draws_1) (mRetV 3) [.dat (.int c), .dat (.int s), .bor (ws.map .int), .own [], .dat (.int left), .un]) = some (.new (ds.map .int)) := fun left => by
    obtain ⟨ds, l2, x2, hd, hl⟩ := loop_draws c s ws hws hlen ws.length 0 [] left .un (by omega) (by rw [List.take_zero]; exact .nil)
    refine ⟨ds, hd, ?_⟩
    rw [List.drop_zero] at hl
    have hl' : loopM (gNm 5) f__law_draws_1 (rngD 0 ws.length) [.dat (.int c), .dat (.int s), .bor (ws.map .int), .own [], .dat (.int left), .un] = _ := hl
    have hf : mFor (iR1 (mLen (mVar 2))) (gNm 5) f__law_draws_1 [.dat (.int c), .dat (.int s), .bor (ws.map .int), .own [], .dat (.int left), .un] = some (.nx [.dat (.int c), .dat (.int s), .bor (ws.map .int), .own (ds.map .int), .dat (.int l2), x2]) := by
      have hb : bnd62 (ws.length : Int) = true := by unfold bnd62; exact okP_t (by omega)
      simp only [mFor, iR1, mLen, aCons, mVar, aNil, gLen, List.getElem?_cons_succ, List.getElem?_cons_zero, Option.bind_some, Option.map_some, asInt, List.length_map, hb, if_true, Int.toNat_natCast]
      exact hl'
    simp only [mSeq, hf, mRetV, List.getElem?_cons_succ, List.getElem?_cons_zero, outR]
theorem p18 (ρ : Rho) : mPow (mC (.int 10)) (mC (.int 18)) ρ = some (R.dat (D.int (10 ^ (18 : Int).toNat))) := by
  simp [mPow, mII, mC, asInt, cPow, okP_iff]
theorem draws_ok (c s : Int) (ws : List Int) (hws : ∀ w ∈ ws, WOk w) (hlen : ws.length ≤ 500) : ∃ ds, Drawn ds ws ∧ m__law_draws [.dat (.int c), .dat (.int s), .ro (ws.map .int)] = some (.new (ds.map .int)) := by
  have key := draws_key c s ws hws hlen
  have h18 := p18
  generalize (10 : Int) ^ (18 : Int).toNat = q at h18
  by_cases hc : q ≤ (if c < 0 then -c else c)
  · obtain ⟨ds, hd, h⟩ := key (if c < 0 then -c else c)
    refine ⟨ds, hd, ?_⟩
    rw [← h]
    simp only [m__law_draws, b__law_draws]
    simp [mDef, startC, argC, mSeq, mSet, mLst, aNil, dats, setR, mIf, mT, mGe, mII, mAbs', aCons, mVar, gAbs, asInt, cT, asBl, hc, szOk, okP_iff, okP_iffF, h18, mC]
  · obtain ⟨ds, hd, h⟩ := key 0
    refine ⟨ds, hd, ?_⟩
    rw [← h]
    simp only [m__law_draws, b__law_draws]
    simp [mDef, startC, argC, mSeq, mSet, mLst, aNil, dats, setR, mIf, mT, mGe, mII, mAbs', aCons, mVar, gAbs, asInt, cT, asBl, hc, szOk, okP_iff, okP_iffF, h18, mSkip, mC]
/-! powers of ten -/
theorem loop_ten (n : C) : ∀ (ds : List D) (p : Int) (x : C), ∃ x', loopM (gNm 2) f_ten_to_1 ds [n, .dat (.int p), x] = some (.nx [n, .dat (.int (p * 10 ^ ds.length)), x'])
  | [], p, x => ⟨x, by simp [loopM]⟩
  | d :: ds, p, x => by
    obtain ⟨x', h⟩ := loop_ten n ds (p * 10) (.dat d)
    refine ⟨x', ?_⟩
    simp only [loopM]
    simp [f_ten_to_1, f__law_power_1, mDef, okP_iff, okP_iffF, okP_T, okP_F, startC, argC, argN, outR, mSeq, mIf, mT, mLt, mLe, mGt, mGe, mII, cT, mVar, mC, mLen, aCons, aNil, gLen, asInt, asBl, asDat, asStr, asTup, asLst, asTrk, mRet, retR, mRetV, mSet, setR, mIxL, mIxT, mSkip, mEqS, mNeS, eqS, mMul, mAdd, mSub, mDiv, mMod, mPow, mNeg, cMul, cDiv, cMod, cPow, mTup, mLst, dats, szOk, mCall, mAbs', gAbs, mChain, tAndM, tOrM, tNotM, mIfE, mAndV, mOrV, mNotV, mApp, mAug, gNm, gTp, gCons', gNil', mAsg, mAsgL, mFor, iR1, iR2, bnd62, mDrop, mCatS, mCatT, mCatL, mSlT, mSlL, oNone, oSome, mIsi, isiD, mIsN, mNotN, Tl.isNon, mIntOf, gIntB, mMax', mMin', gMax2, gMin2, mEqD, mNeD, mIn, mNi, inF, eqF, mSlS, mIxS, mRaise1, mRaise2, mDefX, outX, okX, callX, mSetX, mExprX, mRetX, mTry, endT, dropX, mExF, mExI, mRevL, mRepL, mStr, gStr, mZf, mRepS, iN, iV, iT, frzV]
    simp only [f_ten_to_1, f__law_power_1] at h
    rw [h]
    simp [Int.pow_succ, Int.mul_comm, Int.mul_left_comm, Int.mul_assoc]
theorem ten_ok (n : Nat) (hn : n ≤ 1000) : m_ten_to [.dat (.int n)] = some (.dat (.int (10 ^ n))) := by
  obtain ⟨x', h⟩ := loop_ten (.dat (.int n)) (rngD 0 n) 1 .un
  rw [rngD_len] at h
  have hb : bnd62 (n : Int) = true := okP_t (by omega)
  refine v_def rfl ?_
  simp [b_ten_to, startC, argC, mSeq, mSet, mC, setR, mFor, iR1, mVar, asInt, hb, h, mRetV, outR]
theorem loop_pow (n : C) : ∀ (ds : List D) (p : Int) (x : C), ∃ x', loopM (gNm 3) f__law_power_1 ds [.dat (.int 10), n, .dat (.int p), x] = some (.nx [.dat (.int 10), n, .dat (.int (p * 10 ^ ds.length)), x'])
  | [], p, x => ⟨x, by simp [loopM]⟩
  | d :: ds, p, x => by
    obtain ⟨x', h⟩ := loop_pow n ds (p * 10) (.dat d)
    refine ⟨x', ?_⟩
    simp only [loopM]
    simp [f_ten_to_1, f__law_power_1, mDef, okP_iff, okP_iffF, okP_T, okP_F, startC, argC, argN, outR, mSeq, mIf, mT, mLt, mLe, mGt, mGe, mII, cT, mVar, mC, mLen, aCons, aNil, gLen, asInt, asBl, asDat, asStr, asTup, asLst, asTrk, mRet, retR, mRetV, mSet, setR, mIxL, mIxT, mSkip, mEqS, mNeS, eqS, mMul, mAdd, mSub, mDiv, mMod, mPow, mNeg, cMul, cDiv, cMod, cPow, mTup, mLst, dats, szOk, mCall, mAbs', gAbs, mChain, tAndM, tOrM, tNotM, mIfE, mAndV, mOrV, mNotV, mApp, mAug, gNm, gTp, gCons', gNil', mAsg, mAsgL, mFor, iR1, iR2, bnd62, mDrop, mCatS, mCatT, mCatL, mSlT, mSlL, oNone, oSome, mIsi, isiD, mIsN, mNotN, Tl.isNon, mIntOf, gIntB, mMax', mMin', gMax2, gMin2, mEqD, mNeD, mIn, mNi, inF, eqF, mSlS, mIxS, mRaise1, mRaise2, mDefX, outX, okX, callX, mSetX, mExprX, mRetX, mTry, endT, dropX, mExF, mExI, mRevL, mRepL, mStr, gStr, mZf, mRepS, iN, iV, iT, frzV]
    simp only [f_ten_to_1, f__law_power_1] at h
    rw [h]
    simp [Int.pow_succ, Int.mul_comm, Int.mul_left_comm, Int.mul_assoc]
theorem pow_ok (n : Nat) (hn : n ≤ 1000) : m__law_power [.dat (.int 10), .dat (.int n)] = some (.dat (.int (10 ^ n))) := by
  obtain ⟨x', h⟩ := loop_pow (.dat (.int n)) (rngD 0 n) 1 .un
  rw [rngD_len] at h
  have hb : bnd62 (n : Int) = true := okP_t (by omega)
  refine v_def rfl ?_
  simp [b__law_power, startC, argC, mSeq, mSet, mC, setR, mFor, iR1, mVar, asInt, hb, h, mRetV, outR]
/-! the three signs -/
theorem ne1 : ¬ (("none" : Str) = "end") := by decide
theorem ne2 : ¬ (("none" : Str) = "tens") := by decide
theorem ne3 : ¬ (("end" : Str) = "none") := by decide
theorem ne4 : ¬ (("end" : Str) = "tens") := by decide
theorem ne5 : ¬ (("tens" : Str) = "none") := by decide
theorem ne6 : ¬ (("tens" : Str) = "end") := by decide
/-- a shape, as data -/
def shape4 (kd : Str) (n : Nat) (sg : Str) (pt : Int) : D := .tup [.str kd, .int n, .str sg, .int pt]
inductive Sg : Str → Prop
  | n : Sg "none"
  | e : Sg "end"
  | t : Sg "tens"
/-- least, most, folded -/
def leastI (sg : Str) (n : Nat) : Int := if sg = "none" then 0 else if sg = "end" then 1 - 10 ^ n else -5 * 10 ^ (n - 1)
def mostI (sg : Str) (n : Nat) : Int := if sg = "tens" then 5 * 10 ^ (n - 1) - 1 else 10 ^ n - 1
theorem pw_pos (n : Nat) : (0 : Int) < 10 ^ n := Int.pow_pos (by decide)
theorem pw_succ {n : Nat} (h : 1 ≤ n) : (10 : Int) ^ n = 10 * 10 ^ (n - 1) := by
  obtain ⟨m, rfl⟩ : ∃ m, n = m + 1 := ⟨n - 1, by omega⟩
  rw [Nat.add_sub_cancel, Int.pow_succ]
  omega
theorem sub1 {n : Nat} (h : 1 ≤ n) : (n : Int) - 1 = ((n - 1 : Nat) : Int) := by omega
theorem least_ok (kd : Str) (n : Nat) (sg : Str) (pt : Int) (hs : Sg sg) (h1 : 1 ≤ n) (h2 : n ≤ 100) : m_least_of [.dat (shape4 kd n sg pt)] = some (.dat (.int (leastI sg n))) := by
  have t1 := ten_ok n (by omega)
  have t2 := ten_ok (n - 1) (by omega)
  refine v_def rfl ?_
  cases hs <;> simp [b_least_of, shape4, mDef, okP_iff, okP_iffF, okP_T, okP_F, startC, argC, argN, outR, mSeq, mIf, mT, mLt, mLe, mGt, mGe, mII, cT, mVar, mC, mLen, aCons, aNil, gLen, asInt, asBl, asDat, asStr, asTup, asLst, asTrk, mRet, retR, mRetV, mSet, setR, mIxL, mIxT, mSkip, mEqS, mNeS, eqS, mMul, mAdd, mSub, mDiv, mMod, mPow, mNeg, cMul, cDiv, cMod, cPow, mTup, mLst, dats, szOk, mCall, mAbs', gAbs, mChain, tAndM, tOrM, tNotM, mIfE, mAndV, mOrV, mNotV, mApp, mAug, gNm, gTp, gCons', gNil', mAsg, mAsgL, mFor, iR1, iR2, bnd62, mDrop, mCatS, mCatT, mCatL, mSlT, mSlL, oNone, oSome, mIsi, isiD, mIsN, mNotN, Tl.isNon, mIntOf, gIntB, mMax', mMin', gMax2, gMin2, mEqD, mNeD, mIn, mNi, inF, eqF, mSlS, mIxS, mRaise1, mRaise2, mDefX, outX, okX, callX, mSetX, mExprX, mRetX, mTry, endT, dropX, mExF, mExI, mRevL, mRepL, mStr, gStr, mZf, mRepS, iN, iV, iT, frzV, ne1, ne2, ne3, ne4, ne5, ne6, leastI, t1, sub1 h1, t2]
theorem most_ok (kd : Str) (n : Nat) (sg : Str) (pt : Int) (hs : Sg sg) (h1 : 1 ≤ n) (h2 : n ≤ 100) : m_most_of [.dat (shape4 kd n sg pt)] = some (.dat (.int (mostI sg n))) := by
  have t1 := ten_ok n (by omega)
  have t2 := ten_ok (n - 1) (by omega)
  refine v_def rfl ?_
  cases hs <;> simp [b_most_of, shape4, mDef, okP_iff, okP_iffF, okP_T, okP_F, startC, argC, argN, outR, mSeq, mIf, mT, mLt, mLe, mGt, mGe, mII, cT, mVar, mC, mLen, aCons, aNil, gLen, asInt, asBl, asDat, asStr, asTup, asLst, asTrk, mRet, retR, mRetV, mSet, setR, mIxL, mIxT, mSkip, mEqS, mNeS, eqS, mMul, mAdd, mSub, mDiv, mMod, mPow, mNeg, cMul, cDiv, cMod, cPow, mTup, mLst, dats, szOk, mCall, mAbs', gAbs, mChain, tAndM, tOrM, tNotM, mIfE, mAndV, mOrV, mNotV, mApp, mAug, gNm, gTp, gCons', gNil', mAsg, mAsgL, mFor, iR1, iR2, bnd62, mDrop, mCatS, mCatT, mCatL, mSlT, mSlL, oNone, oSome, mIsi, isiD, mIsN, mNotN, Tl.isNon, mIntOf, gIntB, mMax', mMin', gMax2, gMin2, mEqD, mNeD, mIn, mNi, inF, eqF, mSlS, mIxS, mRaise1, mRaise2, mDefX, outX, okX, callX, mSetX, mExprX, mRetX, mTry, endT, dropX, mExF, mExI, mRevL, mRepL, mStr, gStr, mZf, mRepS, iN, iV, iT, frzV, ne1, ne2, ne3, ne4, ne5, ne6, mostI, t1, sub1 h1, t2]
def lowI (sg : Str) (n : Nat) : Int := if sg = "none" then 0 else if sg = "end" then 1 - 10 ^ n else 0 - 10 ^ n / 2
def highI (sg : Str) (n : Nat) : Int := if sg = "none" then 10 ^ n - 1 else if sg = "end" then 10 ^ n - 1 else 10 ^ n / 2 - 1
theorem ends_ok (kd : Str) (n : Nat) (sg : Str) (pt : Int) (hs : Sg sg) (h2 : n ≤ 100) : m__law_ends [.dat (shape4 kd n sg pt)] = some (.dat (.tup [.int (lowI sg n), .int (highI sg n)])) := by
  have t1 := pow_ok n (by omega)
  refine v_def rfl ?_
  cases hs <;> simp [b__law_ends, shape4, mDef, okP_iff, okP_iffF, okP_T, okP_F, startC, argC, argN, outR, mSeq, mIf, mT, mLt, mLe, mGt, mGe, mII, cT, mVar, mC, mLen, aCons, aNil, gLen, asInt, asBl, asDat, asStr, asTup, asLst, asTrk, mRet, retR, mRetV, mSet, setR, mIxL, mIxT, mSkip, mEqS, mNeS, eqS, mMul, mAdd, mSub, mDiv, mMod, mPow, mNeg, cMul, cDiv, cMod, cPow, mTup, mLst, dats, szOk, mCall, mAbs', gAbs, mChain, tAndM, tOrM, tNotM, mIfE, mAndV, mOrV, mNotV, mApp, mAug, gNm, gTp, gCons', gNil', mAsg, mAsgL, mFor, iR1, iR2, bnd62, mDrop, mCatS, mCatT, mCatL, mSlT, mSlL, oNone, oSome, mIsi, isiD, mIsN, mNotN, Tl.isNon, mIntOf, gIntB, mMax', mMin', gMax2, gMin2, mEqD, mNeD, mIn, mNi, inF, eqF, mSlS, mIxS, mRaise1, mRaise2, mDefX, outX, okX, callX, mSetX, mExprX, mRetX, mTry, endT, dropX, mExF, mExI, mRevL, mRepL, mStr, gStr, mZf, mRepS, iN, iV, iT, frzV, atI_1, atI_2, ne1, ne2, ne3, ne4, ne5, ne6, lowI, highI, t1, show Nat.log2 2 < 9000 by decide]
theorem half_pw {n : Nat} (h : 1 ≤ n) : (10 : Int) ^ n / 2 = 5 * 10 ^ (n - 1) := by
  rw [pw_succ h]
  omega
theorem least_low (sg : Str) (n : Nat) (hs : Sg sg) (h : 1 ≤ n) : leastI sg n = lowI sg n := by
  cases hs with
  | n => rfl
  | e => rfl
  | t =>
    simp only [leastI, lowI, if_neg ne5, if_neg ne6, half_pw h]
    omega
theorem most_high (sg : Str) (n : Nat) (hs : Sg sg) (h : 1 ≤ n) : mostI sg n = highI sg n := by
  cases hs with
  | n => simp [mostI, highI, ne2]
  | e => simp [mostI, highI, ne3, ne4]
  | t => simp only [mostI, highI, if_neg ne5, if_neg ne6, if_pos, half_pw h]
theorem form_ok (kind many sign : Int) (hk : 0 ≤ kind ∧ kind < 2) (hm : 0 ≤ many ∧ many < 12) (hs : 0 ≤ sign ∧ sign < 3) : ∃ kd sg pt, Sg sg ∧ m__law_form [.dat (.int kind), .dat (.int many), .dat (.int sign)] = some (.dat (shape4 kd (many + 1).toNat sg pt)) := by
  have e : 1 + many = (((many + 1).toNat : Nat) : Int) := by omega
  have hk' : kind = 0 ∨ kind = 1 := by omega
  have hs' : sign = 0 ∨ sign = 1 ∨ sign = 2 := by omega
  have h2 : 0 < many + 2 := by omega
  have key : ∀ kd sg, atI [D.str "packed", D.str "spread"] kind = some (.str kd) → atI [D.str "none", D.str "end", D.str "tens"] sign = some (.str sg) → Sg sg → ∃ kd sg pt, Sg sg ∧ m__law_form [.dat (.int kind), .dat (.int many), .dat (.int sign)] = some (.dat (shape4 kd (many + 1).toNat sg pt)) := by
    intro kd sg q1 q2 q3
    refine ⟨kd, sg, (7 * many + 3 * kind + sign) % (many + 2), q3, ?_⟩
    refine v_def rfl ?_
    simp [b__law_form, shape4, mDef, okP_iff, okP_iffF, okP_T, okP_F, startC, argC, argN, outR, mSeq, mIf, mT, mLt, mLe, mGt, mGe, mII, cT, mVar, mC, mLen, aCons, aNil, gLen, asInt, asBl, asDat, asStr, asTup, asLst, asTrk, mRet, retR, mRetV, mSet, setR, mIxL, mIxT, mSkip, mEqS, mNeS, eqS, mMul, mAdd, mSub, mDiv, mMod, mPow, mNeg, cMul, cDiv, cMod, cPow, mTup, mLst, dats, szOk, mCall, mAbs', gAbs, mChain, tAndM, tOrM, tNotM, mIfE, mAndV, mOrV, mNotV, mApp, mAug, gNm, gTp, gCons', gNil', mAsg, mAsgL, mFor, iR1, iR2, bnd62, mDrop, mCatS, mCatT, mCatL, mSlT, mSlL, oNone, oSome, mIsi, isiD, mIsN, mNotN, Tl.isNon, mIntOf, gIntB, mMax', mMin', gMax2, gMin2, mEqD, mNeD, mIn, mNi, inF, eqF, mSlS, mIxS, mRaise1, mRaise2, mDefX, outX, okX, callX, mSetX, mExprX, mRetX, mTry, endT, dropX, mExF, mExI, mRevL, mRepL, mStr, gStr, mZf, mRepS, iN, iV, iT, frzV, q1, q2, h2, e]
  rcases hk' with rfl | rfl <;> rcases hs' with rfl | rfl | rfl <;> exact key _ _ rfl rfl (by constructor)

end Lw

namespace Lw
open PySem PySem.Spec PyProof.Rows L2 Evl Tl TL
theorem wok_pow (k : Nat) (h : k ≤ 40) : WOk ((10 : Int) ^ k) := by
  refine wok_of (b := 200) (pw_pos k) ?_ (by decide) (by decide)
  have e : ((10 : Int) ^ k).natAbs = 10 ^ k := by rw [Int.natAbs_pow]; rfl
  rw [e]
  exact Nat.lt_of_le_of_lt (Nat.pow_le_pow_right (by decide) h) (by decide)
theorem wok_small {w : Int} (h : 0 < w) (h2 : w < 1000) : WOk w := wok_of (b := 10) h (by omega) (by decide) (by decide)
theorem low_high (sg : Str) (n : Nat) (hs : Sg sg) (h1 : 1 ≤ n) : lowI sg n ≤ highI sg n := by
  have p0 := pw_pos (n - 1)
  have e := pw_succ h1
  cases hs with
  | n => simp only [lowI, highI, if_true]; omega
  | e => simp only [lowI, highI, if_neg ne3, if_true]; omega
  | t => simp only [lowI, highI, if_neg ne5, if_neg ne6]; omega
theorem number_ok (kd : Str) (n : Nat) (sg : Str) (pt way far : Int) (hs : Sg sg) (h1 : 1 ≤ n) (h2 : n ≤ 100) (hw : 0 ≤ way) (hf : 0 ≤ far) : ∃ x, (leastI sg n ≤ x ∧ x ≤ mostI sg n) ∧ m__law_number [.dat (shape4 kd n sg pt), .dat (.int way), .dat (.int far)] = some (.dat (.int x)) := by
  have t1 := ends_ok kd n sg pt hs h2
  have lh := low_high sg n hs h1
  rw [least_low sg n hs h1, most_high sg n hs h1]
  generalize hlo : lowI sg n = lo at t1 lh
  generalize hhi : highI sg n = hi at t1 lh
  by_cases h9 : 9 < way
  · have m0 := Int.emod_nonneg far (b := hi - lo + 1) (by omega)
    have m1 := Int.emod_lt_of_pos far (b := hi - lo + 1) (by omega)
    refine ⟨lo + far % (hi - lo + 1), by omega, ?_⟩
    refine v_def rfl ?_
    simp [b__law_number, mDef, okP_iff, okP_iffF, okP_T, okP_F, startC, argC, argN, outR, mSeq, mIf, mT, mLt, mLe, mGt, mGe, mII, cT, mVar, mC, mLen, aCons, aNil, gLen, asInt, asBl, asDat, asStr, asTup, asLst, asTrk, mRet, retR, mRetV, mSet, setR, mIxL, mIxT, mSkip, mEqS, mNeS, eqS, mMul, mAdd, mSub, mDiv, mMod, mPow, mNeg, cMul, cDiv, cMod, cPow, mTup, mLst, dats, szOk, mCall, mAbs', gAbs, mChain, tAndM, tOrM, tNotM, mIfE, mAndV, mOrV, mNotV, mApp, mAug, gNm, gTp, gCons', gNil', mAsg, mAsgL, mFor, iR1, iR2, bnd62, mDrop, mCatS, mCatT, mCatL, mSlT, mSlL, oNone, oSome, mIsi, isiD, mIsN, mNotN, Tl.isNon, mIntOf, gIntB, mMax', mMin', gMax2, gMin2, mEqD, mNeD, mIn, mNi, inF, eqF, mSlS, mIxS, mRaise1, mRaise2, mDefX, outX, okX, callX, mSetX, mExprX, mRetX, mTry, endT, dropX, mExF, mExI, mRevL, mRepL, mStr, gStr, mZf, mRepS, iN, iV, iT, frzV, t1, h9, show 0 < hi - lo + 1 by omega]
  · have f0 := Int.emod_nonneg far (b := (n : Int)) (by omega)
    have f1 := Int.emod_lt_of_pos far (b := (n : Int)) (by omega)
    obtain ⟨k, hk⟩ : ∃ k : Nat, far % (n : Int) = (k : Int) := ⟨(far % (n : Int)).toNat, by omega⟩
    have t2 := pow_ok k (by omega)
    have p0 := pw_pos k
    generalize (10 : Int) ^ k = s at t2 p0
    obtain ⟨v, hv⟩ := atI_ints (ns := [0, 1, hi, lo, s, s - 1, 5 * s, 9 * s, s + 1, far / 16 % (10 * s)]) (i := way) hw (by simp; omega)
    simp only [List.map_cons, List.map_nil] at hv
    have fin : ∀ u : Int, ∃ x, (lo ≤ x ∧ x ≤ hi) ∧ (if (if u < hi then u else hi) > lo then (if u < hi then u else hi) else lo) = x := fun u => by
      by_cases a : u < hi
      · by_cases b : u > lo
        · exact ⟨u, by omega, by rw [if_pos a, if_pos b]⟩
        · exact ⟨lo, by omega, by rw [if_pos a, if_neg b]⟩
      · by_cases b : hi > lo
        · exact ⟨hi, by omega, by rw [if_neg a, if_pos b]⟩
        · exact ⟨lo, by omega, by rw [if_neg a, if_neg b]⟩
    have cm : ∀ (a b : Int), (-(2 ^ 64) < a ∧ a < 2 ^ 64) → cMul a b = true := fun a b h => okP_t (.inl h)
    by_cases hg : lo < 0 ∧ far / 13 % 2 = 1
    · obtain ⟨x, hx, ex⟩ := fin (0 - v)
      refine ⟨x, hx, ?_⟩
      refine v_def rfl ?_
      unfold shape4 at t1 ⊢
      simp [b__law_number, mDef, okP_iff, okP_iffF, okP_T, okP_F, startC, argC, argN, outR, mSeq, mIf, mT, mLt, mLe, mGt, mGe, mII, cT, mVar, mC, mLen, aCons, aNil, gLen, asInt, asBl, asDat, asStr, asTup, asLst, asTrk, mRet, retR, mRetV, mSet, setR, mIxL, mIxT, mSkip, mEqS, mNeS, eqS, mMul, mAdd, mSub, mDiv, mMod, mNeg, cDiv, mTup, mLst, dats, szOk, mCall, mAbs', gAbs, mChain, tAndM, tOrM, tNotM, mIfE, mAndV, mOrV, mNotV, mApp, mAug, gNm, gTp, gCons', gNil', mAsg, mAsgL, mFor, iR1, iR2, bnd62, mDrop, mCatS, mCatT, mCatL, mSlT, mSlL, oNone, oSome, mIsi, isiD, mIsN, mNotN, Tl.isNon, mIntOf, gIntB, mMax', mMin', gMax2, gMin2, mEqD, mNeD, mIn, mNi, inF, eqF, mSlS, mIxS, mRaise1, mRaise2, mDefX, outX, okX, callX, mSetX, mExprX, mRetX, mTry, endT, dropX, mExF, mExI, mRevL, mRepL, mStr, gStr, mZf, mRepS, iN, iV, iT, frzV, cm 5 s (by decide), cm 9 s (by decide), cm 10 s (by decide), show cMod far (n : Int) = true from okP_t (by omega), show ∀ q, cMod q (10 * s) = true from fun q => okP_t (by omega), show ∀ q, cMod q 2 = true from fun q => okP_t (by omega), t1, h9, atI_1, hk, t2, hv, hg.1, hg.2, show Nat.log2 16 < 9000 by decide, show Nat.log2 13 < 9000 by decide]
      simpa using ex
    · obtain ⟨x, hx, ex⟩ := fin v
      refine ⟨x, hx, ?_⟩
      refine v_def rfl ?_
      unfold shape4 at t1 ⊢
      by_cases hl : lo < 0
      · have hg2 : ¬ far / 13 % 2 = 1 := fun z => hg ⟨hl, z⟩
        simp [b__law_number, mDef, okP_iff, okP_iffF, okP_T, okP_F, startC, argC, argN, outR, mSeq, mIf, mT, mLt, mLe, mGt, mGe, mII, cT, mVar, mC, mLen, aCons, aNil, gLen, asInt, asBl, asDat, asStr, asTup, asLst, asTrk, mRet, retR, mRetV, mSet, setR, mIxL, mIxT, mSkip, mEqS, mNeS, eqS, mMul, mAdd, mSub, mDiv, mMod, mNeg, cDiv, mTup, mLst, dats, szOk, mCall, mAbs', gAbs, mChain, tAndM, tOrM, tNotM, mIfE, mAndV, mOrV, mNotV, mApp, mAug, gNm, gTp, gCons', gNil', mAsg, mAsgL, mFor, iR1, iR2, bnd62, mDrop, mCatS, mCatT, mCatL, mSlT, mSlL, oNone, oSome, mIsi, isiD, mIsN, mNotN, Tl.isNon, mIntOf, gIntB, mMax', mMin', gMax2, gMin2, mEqD, mNeD, mIn, mNi, inF, eqF, mSlS, mIxS, mRaise1, mRaise2, mDefX, outX, okX, callX, mSetX, mExprX, mRetX, mTry, endT, dropX, mExF, mExI, mRevL, mRepL, mStr, gStr, mZf, mRepS, iN, iV, iT, frzV, cm 5 s (by decide), cm 9 s (by decide), cm 10 s (by decide), show cMod far (n : Int) = true from okP_t (by omega), show ∀ q, cMod q (10 * s) = true from fun q => okP_t (by omega), show ∀ q, cMod q 2 = true from fun q => okP_t (by omega), t1, h9, atI_1, hk, t2, hv, hl, hg2, show Nat.log2 16 < 9000 by decide, show Nat.log2 13 < 9000 by decide]
        simpa using ex
      · simp [b__law_number, mDef, okP_iff, okP_iffF, okP_T, okP_F, startC, argC, argN, outR, mSeq, mIf, mT, mLt, mLe, mGt, mGe, mII, cT, mVar, mC, mLen, aCons, aNil, gLen, asInt, asBl, asDat, asStr, asTup, asLst, asTrk, mRet, retR, mRetV, mSet, setR, mIxL, mIxT, mSkip, mEqS, mNeS, eqS, mMul, mAdd, mSub, mDiv, mMod, mNeg, cDiv, mTup, mLst, dats, szOk, mCall, mAbs', gAbs, mChain, tAndM, tOrM, tNotM, mIfE, mAndV, mOrV, mNotV, mApp, mAug, gNm, gTp, gCons', gNil', mAsg, mAsgL, mFor, iR1, iR2, bnd62, mDrop, mCatS, mCatT, mCatL, mSlT, mSlL, oNone, oSome, mIsi, isiD, mIsN, mNotN, Tl.isNon, mIntOf, gIntB, mMax', mMin', gMax2, gMin2, mEqD, mNeD, mIn, mNi, inF, eqF, mSlS, mIxS, mRaise1, mRaise2, mDefX, outX, okX, callX, mSetX, mExprX, mRetX, mTry, endT, dropX, mExF, mExI, mRevL, mRepL, mStr, gStr, mZf, mRepS, iN, iV, iT, frzV, cm 5 s (by decide), cm 9 s (by decide), cm 10 s (by decide), show cMod far (n : Int) = true from okP_t (by omega), show ∀ q, cMod q (10 * s) = true from fun q => okP_t (by omega), show ∀ q, cMod q 2 = true from fun q => okP_t (by omega), t1, h9, atI_1, hk, t2, hv, hl, show Nat.log2 16 < 9000 by decide, show Nat.log2 13 < 9000 by decide]
        simpa using ex
/-! ### the text of a number -/
def dotL (l : List Nat) (pt : Nat) : List Nat := if 0 < pt then l.take (l.length - pt) ++ [46] ++ l.drop (l.length - pt) else l
def txtL (pt : Nat) (x : Int) : List Nat := (if x < 0 then [45] else []) ++ dotL (padL x.natAbs (pt + 1)) pt
theorem dot_S : ("." : Str) = S [46] := S_ext (by decide +kernel)
theorem min_S : ("-" : Str) = S [45] := S_ext (by decide +kernel)
theorem fits_d (kd : Str) (n : Nat) (sg : Str) (pt x : Int) (hs : Sg sg) (h1 : 1 ≤ n) (h2 : n ≤ 100) : m_fits [.dat (shape4 kd n sg pt), .dat (.int x)] = some (.dat (.bl (decide (leastI sg n ≤ x ∧ x ≤ mostI sg n)))) := by
  have t1 := least_ok kd n sg pt hs h1 h2
  have t2 := most_ok kd n sg pt hs h1 h2
  refine v_def rfl ?_
  by_cases h : leastI sg n ≤ x <;> by_cases h' : x ≤ mostI sg n <;> simp [b_fits, mDef, okP_iff, okP_iffF, okP_T, okP_F, startC, argC, argN, outR, mSeq, mIf, mT, mLt, mLe, mGt, mGe, mII, cT, mVar, mC, mLen, aCons, aNil, gLen, asInt, asBl, asDat, asStr, asTup, asLst, asTrk, mRet, retR, mRetV, mSet, setR, mIxL, mIxT, mSkip, mEqS, mNeS, eqS, mMul, mAdd, mSub, mDiv, mMod, mPow, mNeg, cMul, cDiv, cMod, cPow, mTup, mLst, dats, szOk, mCall, mAbs', gAbs, mChain, tAndM, tOrM, tNotM, mIfE, mAndV, mOrV, mNotV, mApp, mAug, gNm, gTp, gCons', gNil', mAsg, mAsgL, mFor, iR1, iR2, bnd62, mDrop, mCatS, mCatT, mCatL, mSlT, mSlL, oNone, oSome, mIsi, isiD, mIsN, mNotN, Tl.isNon, mIntOf, gIntB, mMax', mMin', gMax2, gMin2, mEqD, mNeD, mIn, mNi, inF, eqF, mSlS, mIxS, mRaise1, mRaise2, mDefX, outX, okX, callX, mSetX, mExprX, mRetX, mTry, endT, dropX, mExF, mExI, mRevL, mRepL, mStr, gStr, mZf, mRepS, iN, iV, iT, frzV, t1, t2, h, h']
theorem pw_le {n m : Nat} (h : n ≤ m) : (10 : Int) ^ n ≤ 10 ^ m := by
  have := Nat.pow_le_pow_right (n := 10) (by decide) h
  have e : ∀ k : Nat, ((10 : Int) ^ k) = ((10 ^ k : Nat) : Int) := fun k => by push_cast; rfl
  rw [e, e]
  exact Int.ofNat_le.mpr this
theorem rng_abs (sg : Str) (n : Nat) (x : Int) (hs : Sg sg) (h1 : 1 ≤ n) (hx : leastI sg n ≤ x ∧ x ≤ mostI sg n) : x.natAbs < 10 ^ n := by
  have e : ((10 ^ n : Nat) : Int) = (10 : Int) ^ n := by push_cast; rfl
  have p0 := pw_pos (n - 1)
  have e1 := pw_succ h1
  have : (x.natAbs : Int) < ((10 ^ n : Nat) : Int) := by
    rw [e]
    obtain ⟨h3, h4⟩ := hx
    cases hs with
    | n => simp only [leastI, mostI, if_true, if_neg ne2] at h3 h4; omega
    | e => simp only [leastI, mostI, if_neg ne3, if_neg ne4, if_true] at h3 h4; omega
    | t => simp only [leastI, mostI, if_neg ne5, if_neg ne6, if_true] at h3 h4; omega
  exact Int.ofNat_lt.mp this
theorem abs_nat (x : Int) : (if x < 0 then -x else x) = (x.natAbs : Int) := by split <;> omega
theorem numL_le (x : Nat) (h : x < 10 ^ 50) : (numL x).length ≤ 50 := numL_len (by decide) h
theorem padL_le (n k : Nat) (h : n < 10 ^ 50) : (padL n k).length ≤ k + 50 := by
  have := numL_le n h
  unfold padL
  rw [List.length_append, List.length_replicate]
  omega
theorem dotL_le (l : List Nat) (pt : Nat) : (dotL l pt).length ≤ l.length + 1 := by
  unfold dotL
  split
  · simp only [List.length_append, List.length_take, List.length_drop, List.length_cons, List.length_nil]; omega
  · omega
theorem p50 {n : Nat} (x : Nat) (h2 : n ≤ 50) (h : x < 10 ^ n) : x < 10 ^ 50 := Nat.lt_of_lt_of_le h (Nat.pow_le_pow_right (by decide) h2)
theorem written_ok (kd : Str) (n : Nat) (sg : Str) (pt : Nat) (x : Int) (hs : Sg sg) (h1 : 1 ≤ n) (h2 : n ≤ 50) (hp : pt ≤ 50) (hx : leastI sg n ≤ x ∧ x ≤ mostI sg n) : m_written [.dat (shape4 kd n sg pt), .dat (.int x)] = some (.ok (.dat (.str (S (txtL pt x))))) := by
  have t1 := fits_d kd n sg pt x hs h1 (by omega)
  rw [decide_eq_true hx] at t1
  have hb := p50 x.natAbs h2 (rng_abs sg n x hs h1 hx)
  have lg : x.natAbs.log2 < 1920 := log_small (Nat.lt_trans hb (by decide +kernel))
  have lp := padL_le x.natAbs (pt + 1) hb
  have lk := padL_len x.natAbs (pt + 1)
  have zf := zfill_S x.natAbs (pt + 1)
  rw [← num_S] at zf
  have zf : Txt.zfill (Str.ofString (toString ((x.natAbs : Nat) : Int))) ((pt : Int) + 1) = S (padL x.natAbs (pt + 1)) := zf
  unfold txtL
  generalize hl : padL x.natAbs (pt + 1) = l at lp lk zf
  have dl := dotL_le l pt
  have dd : 0 < pt → dotL l pt = l.take (l.length - pt) ++ [46] ++ l.drop (l.length - pt) := fun h => if_pos h
  have d0 : ¬ 0 < pt → dotL l pt = l := fun h => if_neg h
  refine v_outX rfl ?_
  unfold b_written
  refine v_seq (ρ' := [.dat (shape4 kd n sg pt), .dat (.int x), .un, .dat (.str kd), .dat (.int n), .dat (.str sg), .dat (.int pt)]) (by simp [shape4, mDef, okP_iff, okP_iffF, okP_T, okP_F, startC, argC, argN, outR, mSeq, mIf, mT, mLt, mLe, mGt, mGe, mII, cT, mVar, mC, mLen, aCons, aNil, gLen, asInt, asBl, asDat, asStr, asTup, asLst, asTrk, mRet, retR, mRetV, mSet, setR, mIxL, mIxT, mSkip, mEqS, mNeS, eqS, mMul, mAdd, mSub, mDiv, mMod, mPow, mNeg, cMul, cDiv, cMod, cPow, mTup, mLst, dats, szOk, mCall, mAbs', gAbs, mChain, tAndM, tOrM, tNotM, mIfE, mAndV, mOrV, mNotV, mApp, mAug, gNm, gTp, gCons', gNil', mAsg, mAsgL, mFor, iR1, iR2, bnd62, mDrop, mCatS, mCatT, mCatL, mSlT, mSlL, oNone, oSome, mIsi, isiD, mIsN, mNotN, Tl.isNon, mIntOf, gIntB, mMax', mMin', gMax2, gMin2, mEqD, mNeD, mIn, mNi, inF, eqF, mSlS, mIxS, mRaise1, mRaise2, mDefX, outX, okX, callX, mSetX, mExprX, mRetX, mTry, endT, dropX, mExF, mExI, mRevL, mRepL, mStr, gStr, mZf, mRepS, iN, iV, iT, frzV]) ?_
  refine v_seq (ρ' := [.dat (shape4 kd n sg pt), .dat (.int x), .un, .dat (.str kd), .dat (.int n), .dat (.str sg), .dat (.int pt)]) (by simp [mDef, okP_iff, okP_iffF, okP_T, okP_F, startC, argC, argN, outR, mSeq, mIf, mT, mLt, mLe, mGt, mGe, mII, cT, mVar, mC, mLen, aCons, aNil, gLen, asInt, asBl, asDat, asStr, asTup, asLst, asTrk, mRet, retR, mRetV, mSet, setR, mIxL, mIxT, mSkip, mEqS, mNeS, eqS, mMul, mAdd, mSub, mDiv, mMod, mPow, mNeg, cMul, cDiv, cMod, cPow, mTup, mLst, dats, szOk, mCall, mAbs', gAbs, mChain, tAndM, tOrM, tNotM, mIfE, mAndV, mOrV, mNotV, mApp, mAug, gNm, gTp, gCons', gNil', mAsg, mAsgL, mFor, iR1, iR2, bnd62, mDrop, mCatS, mCatT, mCatL, mSlT, mSlL, oNone, oSome, mIsi, isiD, mIsN, mNotN, Tl.isNon, mIntOf, gIntB, mMax', mMin', gMax2, gMin2, mEqD, mNeD, mIn, mNi, inF, eqF, mSlS, mIxS, mRaise1, mRaise2, mDefX, outX, okX, callX, mSetX, mExprX, mRetX, mTry, endT, dropX, mExF, mExI, mRevL, mRepL, mStr, gStr, mZf, mRepS, iN, iV, iT, frzV, t1]) ?_
  refine v_seq (ρ' := [.dat (shape4 kd n sg pt), .dat (.int x), .dat (.str (S l)), .dat (.str kd), .dat (.int n), .dat (.str sg), .dat (.int pt)]) (by simp only [mDef, okP_iff, okP_iffF, okP_T, okP_F, startC, argC, argN, outR, mSeq, mIf, mT, mLt, mLe, mGt, mGe, mII, cT, mVar, mC, mLen, aCons, aNil, gLen, asInt, asBl, asDat, asStr, asTup, asLst, asTrk, mRet, retR, mRetV, mSet, setR, mIxL, mIxT, mSkip, mEqS, mNeS, eqS, mMul, mAdd, mSub, mDiv, mMod, mPow, mNeg, cMul, cDiv, cMod, cPow, mTup, mLst, dats, szOk, mCall, mAbs', gAbs, mChain, tAndM, tOrM, tNotM, mIfE, mAndV, mOrV, mNotV, mApp, mAug, gNm, gTp, gCons', gNil', mAsg, mAsgL, mFor, iR1, iR2, bnd62, mDrop, mCatS, mCatT, mCatL, mSlT, mSlL, oNone, oSome, mIsi, isiD, mIsN, mNotN, Tl.isNon, mIntOf, gIntB, mMax', mMin', gMax2, gMin2, mEqD, mNeD, mIn, mNi, inF, eqF, mSlS, mIxS, mRaise1, mRaise2, mDefX, outX, okX, callX, mSetX, mExprX, mRetX, mTry, endT, dropX, mExF, mExI, mRevL, mRepL, mStr, gStr, mZf, mRepS, iN, iV, iT, frzV, abs_nat, Int.natAbs_natCast, lg, zf, show ((pt : Int) + 1 ≤ 1000) by omega, show (0 ≤ (pt : Int) + 1) by omega, List.getElem?_cons_succ, List.getElem?_cons_zero, Option.bind_some, Option.map_some, if_true, and_self, List.set_cons_succ, List.set_cons_zero]) ?_
  refine v_seq (ρ' := [.dat (shape4 kd n sg pt), .dat (.int x), .dat (.str (S (dotL l pt))), .dat (.str kd), .dat (.int n), .dat (.str sg), .dat (.int pt)]) ?_ ?_
  · by_cases hp0 : 0 < pt
    · rw [dd hp0]
      have la : (l.take (l.length - pt)).length ≤ 101 := by rw [List.length_take]; omega
      have lb : (l.drop (l.length - pt)).length ≤ 101 := by rw [List.length_drop]; omega
      have c1 := cut_loN l pt hp0
      have c2 := cut_hiN l pt hp0
      generalize l.take (l.length - pt) = A at c1 la ⊢
      generalize l.drop (l.length - pt) = B at c2 lb ⊢
      simp only [mDef, okP_iff, okP_iffF, okP_T, okP_F, startC, argC, argN, outR, mSeq, mIf, mT, mLt, mLe, mGt, mGe, mII, cT, mVar, mC, mLen, aCons, aNil, gLen, asInt, asBl, asDat, asStr, asTup, asLst, asTrk, mRet, retR, mRetV, mSet, setR, mIxL, mIxT, mSkip, mEqS, mNeS, eqS, mMul, mAdd, mSub, mDiv, mMod, mPow, mNeg, cMul, cDiv, cMod, cPow, mTup, mLst, dats, szOk, mCall, mAbs', gAbs, mChain, tAndM, tOrM, tNotM, mIfE, mAndV, mOrV, mNotV, mApp, mAug, gNm, gTp, gCons', gNil', mAsg, mAsgL, mFor, iR1, iR2, bnd62, mDrop, mCatS, mCatT, mCatL, mSlT, mSlL, oNone, oSome, mIsi, isiD, mIsN, mNotN, Tl.isNon, mIntOf, gIntB, mMax', mMin', gMax2, gMin2, mEqD, mNeD, mIn, mNi, inF, eqF, mSlS, mIxS, mRaise1, mRaise2, mDefX, outX, okX, callX, mSetX, mExprX, mRetX, mTry, endT, dropX, mExF, mExI, mRevL, mRepL, mStr, gStr, mZf, mRepS, iN, iV, iT, frzV, show (0 : Int) < (pt : Int) by omega, c1, c2, dot_S, S_app, S_len, List.getElem?_cons_succ, List.getElem?_cons_zero, Option.bind_some, Option.map_some, if_true, show l.length ≤ 100000 by omega, List.length_append, List.length_cons, List.length_nil, show A.length + (0 + 1) ≤ 100000 by omega, show A.length + (0 + 1) + B.length ≤ 100000 by omega, List.set_cons_succ, List.set_cons_zero]
    · rw [d0 hp0]
      simp [mDef, okP_iff, okP_iffF, okP_T, okP_F, startC, argC, argN, outR, mSeq, mIf, mT, mLt, mLe, mGt, mGe, mII, cT, mVar, mC, mLen, aCons, aNil, gLen, asInt, asBl, asDat, asStr, asTup, asLst, asTrk, mRet, retR, mRetV, mSet, setR, mIxL, mIxT, mSkip, mEqS, mNeS, eqS, mMul, mAdd, mSub, mDiv, mMod, mPow, mNeg, cMul, cDiv, cMod, cPow, mTup, mLst, dats, szOk, mCall, mAbs', gAbs, mChain, tAndM, tOrM, tNotM, mIfE, mAndV, mOrV, mNotV, mApp, mAug, gNm, gTp, gCons', gNil', mAsg, mAsgL, mFor, iR1, iR2, bnd62, mDrop, mCatS, mCatT, mCatL, mSlT, mSlL, oNone, oSome, mIsi, isiD, mIsN, mNotN, Tl.isNon, mIntOf, gIntB, mMax', mMin', gMax2, gMin2, mEqD, mNeD, mIn, mNi, inF, eqF, mSlS, mIxS, mRaise1, mRaise2, mDefX, outX, okX, callX, mSetX, mExprX, mRetX, mTry, endT, dropX, mExF, mExI, mRevL, mRepL, mStr, gStr, mZf, mRepS, iN, iV, iT, frzV, hp0]
  · generalize dotL l pt = A at dl
    by_cases hn : x < 0
    · simp [mDef, okP_iff, okP_iffF, okP_T, okP_F, startC, argC, argN, outR, mSeq, mIf, mT, mLt, mLe, mGt, mGe, mII, cT, mVar, mC, mLen, aCons, aNil, gLen, asInt, asBl, asDat, asStr, asTup, asLst, asTrk, mRet, retR, mRetV, mSet, setR, mIxL, mIxT, mSkip, mEqS, mNeS, eqS, mMul, mAdd, mSub, mDiv, mMod, mPow, mNeg, cMul, cDiv, cMod, cPow, mTup, mLst, dats, szOk, mCall, mAbs', gAbs, mChain, tAndM, tOrM, tNotM, mIfE, mAndV, mOrV, mNotV, mApp, mAug, gNm, gTp, gCons', gNil', mAsg, mAsgL, mFor, iR1, iR2, bnd62, mDrop, mCatS, mCatT, mCatL, mSlT, mSlL, oNone, oSome, mIsi, isiD, mIsN, mNotN, Tl.isNon, mIntOf, gIntB, mMax', mMin', gMax2, gMin2, mEqD, mNeD, mIn, mNi, inF, eqF, mSlS, mIxS, mRaise1, mRaise2, mDefX, outX, okX, callX, mSetX, mExprX, mRetX, mTry, endT, dropX, mExF, mExI, mRevL, mRepL, mStr, gStr, mZf, mRepS, iN, iV, iT, frzV, hn, min_S, S_app, S_len, show 1 + A.length ≤ 100000 by omega]
    · simp [mDef, okP_iff, okP_iffF, okP_T, okP_F, startC, argC, argN, outR, mSeq, mIf, mT, mLt, mLe, mGt, mGe, mII, cT, mVar, mC, mLen, aCons, aNil, gLen, asInt, asBl, asDat, asStr, asTup, asLst, asTrk, mRet, retR, mRetV, mSet, setR, mIxL, mIxT, mSkip, mEqS, mNeS, eqS, mMul, mAdd, mSub, mDiv, mMod, mPow, mNeg, cMul, cDiv, cMod, cPow, mTup, mLst, dats, szOk, mCall, mAbs', gAbs, mChain, tAndM, tOrM, tNotM, mIfE, mAndV, mOrV, mNotV, mApp, mAug, gNm, gTp, gCons', gNil', mAsg, mAsgL, mFor, iR1, iR2, bnd62, mDrop, mCatS, mCatT, mCatL, mSlT, mSlL, oNone, oSome, mIsi, isiD, mIsN, mNotN, Tl.isNon, mIntOf, gIntB, mMax', mMin', gMax2, gMin2, mEqD, mNeD, mIn, mNi, inF, eqF, mSlS, mIxS, mRaise1, mRaise2, mDefX, outX, okX, callX, mSetX, mExprX, mRetX, mTry, endT, dropX, mExF, mExI, mRevL, mRepL, mStr, gStr, mZf, mRepS, iN, iV, iT, frzV, hn]
theorem written_bad (kd : Str) (n : Nat) (sg : Str) (pt x : Int) (hs : Sg sg) (h1 : 1 ≤ n) (h2 : n ≤ 100) (hf : ¬ (leastI sg n ≤ x ∧ x ≤ mostI sg n)) : m_written [.dat (shape4 kd n sg pt), .dat (.int x)] = some (.exc "NoFit" [("number", .int x)]) := by
  have t1 := fits_d kd n sg pt x hs h1 h2
  rw [decide_eq_false hf] at t1
  unfold shape4 at t1 ⊢
  refine v_defX rfl ?_
  simp [b_written, mDef, okP_iff, okP_iffF, okP_T, okP_F, startC, argC, argN, outR, mSeq, mIf, mT, mLt, mLe, mGt, mGe, mII, cT, mVar, mC, mLen, aCons, aNil, gLen, asInt, asBl, asDat, asStr, asTup, asLst, asTrk, mRet, retR, mRetV, mSet, setR, mIxL, mIxT, mSkip, mEqS, mNeS, eqS, mMul, mAdd, mSub, mDiv, mMod, mPow, mNeg, cMul, cDiv, cMod, cPow, mTup, mLst, dats, szOk, mCall, mAbs', gAbs, mChain, tAndM, tOrM, tNotM, mIfE, mAndV, mOrV, mNotV, mApp, mAug, gNm, gTp, gCons', gNil', mAsg, mAsgL, mFor, iR1, iR2, bnd62, mDrop, mCatS, mCatT, mCatL, mSlT, mSlL, oNone, oSome, mIsi, isiD, mIsN, mNotN, Tl.isNon, mIntOf, gIntB, mMax', mMin', gMax2, gMin2, mEqD, mNeD, mIn, mNi, inF, eqF, mSlS, mIxS, mRaise1, mRaise2, mDefX, outX, okX, callX, mSetX, mExprX, mRetX, mTry, endT, dropX, mExF, mExI, mRevL, mRepL, mStr, gStr, mZf, mRepS, iN, iV, iT, frzV, t1]
/-! the law's text, figure by figure -/
theorem loop_text (sh x a : C) (pt : Nat) (hpt : pt ≤ 50) : ∀ (f n : Nat) (l : List Nat), l.length + f ≤ 200 → n < 10 ^ f → pt + 1 - l.length ≤ f →
    whM (tOrM (mT (mGt (mVar 3) (mC (.int 0)))) (mT (mLt (mLen (mVar 2)) (mAdd (mIxT (mVar 0) (mC (.int 3))) (mC (.int 1)))))) f__law_text_1 (f + 1) [.dat (shape4 kd n' sg pt), x, .dat (.str (S l)), .dat (.int n), a] = some (.nx [.dat (shape4 kd n' sg pt), x, .dat (.str (S (figW f n (pt + 1 - l.length) ++ l))), .dat (.int 0), a])
  | 0, n, l, h0, h1, h2 => by
    have e : (10 : Nat) ^ 0 = 1 := rfl
    have hn : n = 0 := by omega
    subst hn
    unfold whM
    simp [mDef, okP_iff, okP_iffF, okP_T, okP_F, startC, argC, argN, outR, mSeq, mIf, mT, mLt, mLe, mGt, mGe, mII, cT, mVar, mC, mLen, aCons, aNil, gLen, asInt, asBl, asDat, asStr, asTup, asLst, asTrk, mRet, retR, mRetV, mSet, setR, mIxL, mIxT, mSkip, mEqS, mNeS, eqS, mMul, mAdd, mSub, mDiv, mMod, mPow, mNeg, cMul, cDiv, cMod, cPow, mTup, mLst, dats, szOk, mCall, mAbs', gAbs, mChain, tAndM, tOrM, tNotM, mIfE, mAndV, mOrV, mNotV, mApp, mAug, gNm, gTp, gCons', gNil', mAsg, mAsgL, mFor, iR1, iR2, bnd62, mDrop, mCatS, mCatT, mCatL, mSlT, mSlL, oNone, oSome, mIsi, isiD, mIsN, mNotN, Tl.isNon, mIntOf, gIntB, mMax', mMin', gMax2, gMin2, mEqD, mNeD, mIn, mNi, inF, eqF, mSlS, mIxS, mRaise1, mRaise2, mDefX, outX, okX, callX, mSetX, mExprX, mRetX, mTry, endT, dropX, mExF, mExI, mRevL, mRepL, mStr, gStr, mZf, mRepS, iN, iV, iT, frzV, shape4, atI_3, figW, S_len, show l.length ≤ 100000 by omega, show ¬ ((l.length : Int) < (pt : Int) + 1) by omega]
  | f + 1, n, l, h0, h1, h2 => by
    unfold whM figW
    have e10 : (10 : Nat) ^ (f + 1) = 10 * 10 ^ f := by rw [Nat.pow_succ, Nat.mul_comm]
    by_cases h : 0 < n ∨ 0 < pt + 1 - l.length
    · have tt : (tOrM (mT (mGt (mVar 3) (mC (.int 0)))) (mT (mLt (mLen (mVar 2)) (mAdd (mIxT (mVar 0) (mC (.int 3))) (mC (.int 1)))))) [.dat (shape4 kd n' sg pt), x, .dat (.str (S l)), .dat (.int n), a] = some true := by
        by_cases hn : 0 < n
        · simp [mDef, okP_iff, okP_iffF, okP_T, okP_F, startC, argC, argN, outR, mSeq, mIf, mT, mLt, mLe, mGt, mGe, mII, cT, mVar, mC, mLen, aCons, aNil, gLen, asInt, asBl, asDat, asStr, asTup, asLst, asTrk, mRet, retR, mRetV, mSet, setR, mIxL, mIxT, mSkip, mEqS, mNeS, eqS, mMul, mAdd, mSub, mDiv, mMod, mPow, mNeg, cMul, cDiv, cMod, cPow, mTup, mLst, dats, szOk, mCall, mAbs', gAbs, mChain, tAndM, tOrM, tNotM, mIfE, mAndV, mOrV, mNotV, mApp, mAug, gNm, gTp, gCons', gNil', mAsg, mAsgL, mFor, iR1, iR2, bnd62, mDrop, mCatS, mCatT, mCatL, mSlT, mSlL, oNone, oSome, mIsi, isiD, mIsN, mNotN, Tl.isNon, mIntOf, gIntB, mMax', mMin', gMax2, gMin2, mEqD, mNeD, mIn, mNi, inF, eqF, mSlS, mIxS, mRaise1, mRaise2, mDefX, outX, okX, callX, mSetX, mExprX, mRetX, mTry, endT, dropX, mExF, mExI, mRevL, mRepL, mStr, gStr, mZf, mRepS, iN, iV, iT, frzV, hn]
        · simp [mDef, okP_iff, okP_iffF, okP_T, okP_F, startC, argC, argN, outR, mSeq, mIf, mT, mLt, mLe, mGt, mGe, mII, cT, mVar, mC, mLen, aCons, aNil, gLen, asInt, asBl, asDat, asStr, asTup, asLst, asTrk, mRet, retR, mRetV, mSet, setR, mIxL, mIxT, mSkip, mEqS, mNeS, eqS, mMul, mAdd, mSub, mDiv, mMod, mPow, mNeg, cMul, cDiv, cMod, cPow, mTup, mLst, dats, szOk, mCall, mAbs', gAbs, mChain, tAndM, tOrM, tNotM, mIfE, mAndV, mOrV, mNotV, mApp, mAug, gNm, gTp, gCons', gNil', mAsg, mAsgL, mFor, iR1, iR2, bnd62, mDrop, mCatS, mCatT, mCatL, mSlT, mSlL, oNone, oSome, mIsi, isiD, mIsN, mNotN, Tl.isNon, mIntOf, gIntB, mMax', mMin', gMax2, gMin2, mEqD, mNeD, mIn, mNi, inF, eqF, mSlS, mIxS, mRaise1, mRaise2, mDefX, outX, okX, callX, mSetX, mExprX, mRetX, mTry, endT, dropX, mExF, mExI, mRevL, mRepL, mStr, gStr, mZf, mRepS, iN, iV, iT, frzV, hn, shape4, atI_3, S_len, show l.length ≤ 100000 by omega, show ((l.length : Int) < (pt : Int) + 1) by omega]
      have dg := dig_at (d := n % 10) (Nat.mod_lt _ (by decide))
      rw [show ((n % 10 : Nat) : Int) = (n : Int) % 10 by omega] at dg
      have bb : f__law_text_1 [.dat (shape4 kd n' sg pt), x, .dat (.str (S l)), .dat (.int n), a] = some (.nx [.dat (shape4 kd n' sg pt), x, .dat (.str (S ([48 + n % 10] ++ l))), .dat (.int ((n / 10 : Nat) : Int)), a]) := by
        have l10 : ("0123456789" : Str).length = 10 := by decide +kernel
        simp [f__law_text_1, mDef, okP_iff, okP_iffF, okP_T, okP_F, startC, argC, argN, outR, mSeq, mIf, mT, mLt, mLe, mGt, mGe, mII, cT, mVar, mC, mLen, aCons, aNil, gLen, asInt, asBl, asDat, asStr, asTup, asLst, asTrk, mRet, retR, mRetV, mSet, setR, mIxL, mIxT, mSkip, mEqS, mNeS, eqS, mMul, mAdd, mSub, mDiv, mMod, mPow, mNeg, cMul, cDiv, cMod, cPow, mTup, mLst, dats, szOk, mCall, mAbs', gAbs, mChain, tAndM, tOrM, tNotM, mIfE, mAndV, mOrV, mNotV, mApp, mAug, gNm, gTp, gCons', gNil', mAsg, mAsgL, mFor, iR1, iR2, bnd62, mDrop, mCatS, mCatT, mCatL, mSlT, mSlL, oNone, oSome, mIsi, isiD, mIsN, mNotN, Tl.isNon, mIntOf, gIntB, mMax', mMin', gMax2, gMin2, mEqD, mNeD, mIn, mNi, inF, eqF, mSlS, mIxS, mRaise1, mRaise2, mDefX, outX, okX, callX, mSetX, mExprX, mRetX, mTry, endT, dropX, mExF, mExI, mRevL, mRepL, mStr, gStr, mZf, mRepS, iN, iV, iT, frzV, dg, S_one, S_app, S_len, l10, show 1 + l.length ≤ 100000 by omega, show Nat.log2 10 < 9000 by decide]
      rw [tt]
      show (match f__law_text_1 _ with | some (.nx ρ') => whM _ _ (f + 1) ρ' | some (.cnt ρ') => whM _ _ (f + 1) ρ' | some (.brk ρ') => some (.nx ρ') | r => r) = _
      rw [bb, if_pos h]
      have ih := loop_text (kd := kd) (n' := n') (sg := sg) sh x a pt hpt f (n / 10) ([48 + n % 10] ++ l) (by simp; omega) (by omega) (by simp; omega)
      show whM _ _ (f + 1) _ = _
      rw [ih]
      have el : pt + 1 - ([48 + n % 10] ++ l).length = pt + 1 - l.length - 1 := by simp; omega
      rw [el, List.append_assoc]
    · have hn : n = 0 := by omega
      subst hn
      rw [if_neg h]
      simp [mDef, okP_iff, okP_iffF, okP_T, okP_F, startC, argC, argN, outR, mSeq, mIf, mT, mLt, mLe, mGt, mGe, mII, cT, mVar, mC, mLen, aCons, aNil, gLen, asInt, asBl, asDat, asStr, asTup, asLst, asTrk, mRet, retR, mRetV, mSet, setR, mIxL, mIxT, mSkip, mEqS, mNeS, eqS, mMul, mAdd, mSub, mDiv, mMod, mPow, mNeg, cMul, cDiv, cMod, cPow, mTup, mLst, dats, szOk, mCall, mAbs', gAbs, mChain, tAndM, tOrM, tNotM, mIfE, mAndV, mOrV, mNotV, mApp, mAug, gNm, gTp, gCons', gNil', mAsg, mAsgL, mFor, iR1, iR2, bnd62, mDrop, mCatS, mCatT, mCatL, mSlT, mSlL, oNone, oSome, mIsi, isiD, mIsN, mNotN, Tl.isNon, mIntOf, gIntB, mMax', mMin', gMax2, gMin2, mEqD, mNeD, mIn, mNi, inF, eqF, mSlS, mIxS, mRaise1, mRaise2, mDefX, outX, okX, callX, mSetX, mExprX, mRetX, mTry, endT, dropX, mExF, mExI, mRevL, mRepL, mStr, gStr, mZf, mRepS, iN, iV, iT, frzV, shape4, atI_3, S_len, show l.length ≤ 100000 by omega, show ¬ ((l.length : Int) < (pt : Int) + 1) by omega]
theorem text_ok (kd : Str) (n : Nat) (sg : Str) (pt : Nat) (x : Int) (hp : pt ≤ 50) (hx : x.natAbs < 10 ^ 50) : m__law_text [.dat (shape4 kd n sg pt), .dat (.int x)] = some (.dat (.str (S (txtL pt x)))) := by
  have L := loop_text (kd := kd) (n' := n) (sg := sg) .un (.dat (.int x)) .un pt hp 51 x.natAbs [] (by simp) (Nat.lt_trans hx (by decide +kernel)) (by simp; omega)
  rw [List.append_nil, List.length_nil, Nat.sub_zero, figW_pad 51 x.natAbs (pt + 1) (Nat.lt_trans hx (by decide +kernel)) (by omega) (.inr (by omega))] at L
  have L := whM_more 52 1948 _ _ L
  have lp := padL_le x.natAbs (pt + 1) hx
  have lk := padL_len x.natAbs (pt + 1)
  unfold txtL
  generalize hl : padL x.natAbs (pt + 1) = l at lp lk L
  have dl := dotL_le l pt
  have dd : 0 < pt → dotL l pt = l.take (l.length - pt) ++ [46] ++ l.drop (l.length - pt) := fun h => if_pos h
  have d0 : ¬ 0 < pt → dotL l pt = l := fun h => if_neg h
  have n0 : ("" : Str) = S [] := S_ext (by decide +kernel)
  refine v_out rfl ?_
  unfold b__law_text
  refine v_seq (ρ' := [.dat (shape4 kd n sg pt), .dat (.int x), .dat (.str (S [])), .un, .un]) (by simp [mDef, okP_iff, okP_iffF, okP_T, okP_F, startC, argC, argN, outR, mSeq, mIf, mT, mLt, mLe, mGt, mGe, mII, cT, mVar, mC, mLen, aCons, aNil, gLen, asInt, asBl, asDat, asStr, asTup, asLst, asTrk, mRet, retR, mRetV, mSet, setR, mIxL, mIxT, mSkip, mEqS, mNeS, eqS, mMul, mAdd, mSub, mDiv, mMod, mPow, mNeg, cMul, cDiv, cMod, cPow, mTup, mLst, dats, szOk, mCall, mAbs', gAbs, mChain, tAndM, tOrM, tNotM, mIfE, mAndV, mOrV, mNotV, mApp, mAug, gNm, gTp, gCons', gNil', mAsg, mAsgL, mFor, iR1, iR2, bnd62, mDrop, mCatS, mCatT, mCatL, mSlT, mSlL, oNone, oSome, mIsi, isiD, mIsN, mNotN, Tl.isNon, mIntOf, gIntB, mMax', mMin', gMax2, gMin2, mEqD, mNeD, mIn, mNi, inF, eqF, mSlS, mIxS, mRaise1, mRaise2, mDefX, outX, okX, callX, mSetX, mExprX, mRetX, mTry, endT, dropX, mExF, mExI, mRevL, mRepL, mStr, gStr, mZf, mRepS, iN, iV, iT, frzV, n0]) ?_
  refine v_seq (ρ' := [.dat (shape4 kd n sg pt), .dat (.int x), .dat (.str (S [])), .dat (.int x.natAbs), .un]) (by simp [mDef, okP_iff, okP_iffF, okP_T, okP_F, startC, argC, argN, outR, mSeq, mIf, mT, mLt, mLe, mGt, mGe, mII, cT, mVar, mC, mLen, aCons, aNil, gLen, asInt, asBl, asDat, asStr, asTup, asLst, asTrk, mRet, retR, mRetV, mSet, setR, mIxL, mIxT, mSkip, mEqS, mNeS, eqS, mMul, mAdd, mSub, mDiv, mMod, mPow, mNeg, cMul, cDiv, cMod, cPow, mTup, mLst, dats, szOk, mCall, mAbs', gAbs, mChain, tAndM, tOrM, tNotM, mIfE, mAndV, mOrV, mNotV, mApp, mAug, gNm, gTp, gCons', gNil', mAsg, mAsgL, mFor, iR1, iR2, bnd62, mDrop, mCatS, mCatT, mCatL, mSlT, mSlL, oNone, oSome, mIsi, isiD, mIsN, mNotN, Tl.isNon, mIntOf, gIntB, mMax', mMin', gMax2, gMin2, mEqD, mNeD, mIn, mNi, inF, eqF, mSlS, mIxS, mRaise1, mRaise2, mDefX, outX, okX, callX, mSetX, mExprX, mRetX, mTry, endT, dropX, mExF, mExI, mRevL, mRepL, mStr, gStr, mZf, mRepS, iN, iV, iT, frzV, abs_nat]) ?_
  refine v_seq (ρ' := [.dat (shape4 kd n sg pt), .dat (.int x), .dat (.str (S l)), .dat (.int 0), .un]) (by unfold mWh; exact L) ?_
  by_cases hp0 : 0 < pt
  · refine v_seq (ρ' := [.dat (shape4 kd n sg pt), .dat (.int x), .dat (.str (S (dotL l pt))), .dat (.int 0), .dat (.int ((l.length - pt : Nat) : Int))]) ?_ ?_
    · rw [dd hp0]
      have la : (l.take (l.length - pt)).length ≤ 101 := by rw [List.length_take]; omega
      have lb : (l.drop (l.length - pt)).length ≤ 101 := by rw [List.length_drop]; omega
      have c1 := cut_lo l (l.length - pt)
      have c2 := cut_hi l (l.length - pt)
      have es : (l.length : Int) - (pt : Int) = ((l.length - pt : Nat) : Int) := by omega
      generalize l.take (l.length - pt) = A at c1 la ⊢
      generalize l.drop (l.length - pt) = B at c2 lb ⊢
      simp only [mDef, okP_iff, okP_iffF, okP_T, okP_F, startC, argC, argN, outR, mSeq, mIf, mT, mLt, mLe, mGt, mGe, mII, cT, mVar, mC, mLen, aCons, aNil, gLen, asInt, asBl, asDat, asStr, asTup, asLst, asTrk, mRet, retR, mRetV, mSet, setR, mIxL, mIxT, mSkip, mEqS, mNeS, eqS, mMul, mAdd, mSub, mDiv, mMod, mPow, mNeg, cMul, cDiv, cMod, cPow, mTup, mLst, dats, szOk, mCall, mAbs', gAbs, mChain, tAndM, tOrM, tNotM, mIfE, mAndV, mOrV, mNotV, mApp, mAug, gNm, gTp, gCons', gNil', mAsg, mAsgL, mFor, iR1, iR2, bnd62, mDrop, mCatS, mCatT, mCatL, mSlT, mSlL, oNone, oSome, mIsi, isiD, mIsN, mNotN, Tl.isNon, mIntOf, gIntB, mMax', mMin', gMax2, gMin2, mEqD, mNeD, mIn, mNi, inF, eqF, mSlS, mIxS, mRaise1, mRaise2, mDefX, outX, okX, callX, mSetX, mExprX, mRetX, mTry, endT, dropX, mExF, mExI, mRevL, mRepL, mStr, gStr, mZf, mRepS, iN, iV, iT, frzV, shape4, atI_3, show (0 : Int) < (pt : Int) by omega, es, c1, c2, dot_S, S_app, S_len, List.getElem?_cons_succ, List.getElem?_cons_zero, Option.bind_some, Option.map_some, if_true, show l.length ≤ 100000 by omega, List.length_append, List.length_cons, List.length_nil, show A.length + (0 + 1) ≤ 100000 by omega, show A.length + (0 + 1) + B.length ≤ 100000 by omega, List.set_cons_succ, List.set_cons_zero]
    · generalize dotL l pt = A at dl
      by_cases hn : x < 0
      · simp [mDef, okP_iff, okP_iffF, okP_T, okP_F, startC, argC, argN, outR, mSeq, mIf, mT, mLt, mLe, mGt, mGe, mII, cT, mVar, mC, mLen, aCons, aNil, gLen, asInt, asBl, asDat, asStr, asTup, asLst, asTrk, mRet, retR, mRetV, mSet, setR, mIxL, mIxT, mSkip, mEqS, mNeS, eqS, mMul, mAdd, mSub, mDiv, mMod, mPow, mNeg, cMul, cDiv, cMod, cPow, mTup, mLst, dats, szOk, mCall, mAbs', gAbs, mChain, tAndM, tOrM, tNotM, mIfE, mAndV, mOrV, mNotV, mApp, mAug, gNm, gTp, gCons', gNil', mAsg, mAsgL, mFor, iR1, iR2, bnd62, mDrop, mCatS, mCatT, mCatL, mSlT, mSlL, oNone, oSome, mIsi, isiD, mIsN, mNotN, Tl.isNon, mIntOf, gIntB, mMax', mMin', gMax2, gMin2, mEqD, mNeD, mIn, mNi, inF, eqF, mSlS, mIxS, mRaise1, mRaise2, mDefX, outX, okX, callX, mSetX, mExprX, mRetX, mTry, endT, dropX, mExF, mExI, mRevL, mRepL, mStr, gStr, mZf, mRepS, iN, iV, iT, frzV, hn, min_S, S_app, S_len, show 1 + A.length ≤ 100000 by omega]
      · simp [mDef, okP_iff, okP_iffF, okP_T, okP_F, startC, argC, argN, outR, mSeq, mIf, mT, mLt, mLe, mGt, mGe, mII, cT, mVar, mC, mLen, aCons, aNil, gLen, asInt, asBl, asDat, asStr, asTup, asLst, asTrk, mRet, retR, mRetV, mSet, setR, mIxL, mIxT, mSkip, mEqS, mNeS, eqS, mMul, mAdd, mSub, mDiv, mMod, mPow, mNeg, cMul, cDiv, cMod, cPow, mTup, mLst, dats, szOk, mCall, mAbs', gAbs, mChain, tAndM, tOrM, tNotM, mIfE, mAndV, mOrV, mNotV, mApp, mAug, gNm, gTp, gCons', gNil', mAsg, mAsgL, mFor, iR1, iR2, bnd62, mDrop, mCatS, mCatT, mCatL, mSlT, mSlL, oNone, oSome, mIsi, isiD, mIsN, mNotN, Tl.isNon, mIntOf, gIntB, mMax', mMin', gMax2, gMin2, mEqD, mNeD, mIn, mNi, inF, eqF, mSlS, mIxS, mRaise1, mRaise2, mDefX, outX, okX, callX, mSetX, mExprX, mRetX, mTry, endT, dropX, mExF, mExI, mRevL, mRepL, mStr, gStr, mZf, mRepS, iN, iV, iT, frzV, hn, S_nil, S_app, S_len, show A.length ≤ 100000 by omega]
  · rw [d0 hp0]
    refine v_seq (ρ' := [.dat (shape4 kd n sg pt), .dat (.int x), .dat (.str (S l)), .dat (.int 0), .un]) (by simp [mDef, okP_iff, okP_iffF, okP_T, okP_F, startC, argC, argN, outR, mSeq, mIf, mT, mLt, mLe, mGt, mGe, mII, cT, mVar, mC, mLen, aCons, aNil, gLen, asInt, asBl, asDat, asStr, asTup, asLst, asTrk, mRet, retR, mRetV, mSet, setR, mIxL, mIxT, mSkip, mEqS, mNeS, eqS, mMul, mAdd, mSub, mDiv, mMod, mPow, mNeg, cMul, cDiv, cMod, cPow, mTup, mLst, dats, szOk, mCall, mAbs', gAbs, mChain, tAndM, tOrM, tNotM, mIfE, mAndV, mOrV, mNotV, mApp, mAug, gNm, gTp, gCons', gNil', mAsg, mAsgL, mFor, iR1, iR2, bnd62, mDrop, mCatS, mCatT, mCatL, mSlT, mSlL, oNone, oSome, mIsi, isiD, mIsN, mNotN, Tl.isNon, mIntOf, gIntB, mMax', mMin', gMax2, gMin2, mEqD, mNeD, mIn, mNi, inF, eqF, mSlS, mIxS, mRaise1, mRaise2, mDefX, outX, okX, callX, mSetX, mExprX, mRetX, mTry, endT, dropX, mExF, mExI, mRevL, mRepL, mStr, gStr, mZf, mRepS, iN, iV, iT, frzV, shape4, atI_3, hp0]) ?_
    by_cases hn : x < 0
    · simp [mDef, okP_iff, okP_iffF, okP_T, okP_F, startC, argC, argN, outR, mSeq, mIf, mT, mLt, mLe, mGt, mGe, mII, cT, mVar, mC, mLen, aCons, aNil, gLen, asInt, asBl, asDat, asStr, asTup, asLst, asTrk, mRet, retR, mRetV, mSet, setR, mIxL, mIxT, mSkip, mEqS, mNeS, eqS, mMul, mAdd, mSub, mDiv, mMod, mPow, mNeg, cMul, cDiv, cMod, cPow, mTup, mLst, dats, szOk, mCall, mAbs', gAbs, mChain, tAndM, tOrM, tNotM, mIfE, mAndV, mOrV, mNotV, mApp, mAug, gNm, gTp, gCons', gNil', mAsg, mAsgL, mFor, iR1, iR2, bnd62, mDrop, mCatS, mCatT, mCatL, mSlT, mSlL, oNone, oSome, mIsi, isiD, mIsN, mNotN, Tl.isNon, mIntOf, gIntB, mMax', mMin', gMax2, gMin2, mEqD, mNeD, mIn, mNi, inF, eqF, mSlS, mIxS, mRaise1, mRaise2, mDefX, outX, okX, callX, mSetX, mExprX, mRetX, mTry, endT, dropX, mExF, mExI, mRevL, mRepL, mStr, gStr, mZf, mRepS, iN, iV, iT, frzV, hn, min_S, S_app, S_len, show 1 + l.length ≤ 100000 by omega]
    · simp [mDef, okP_iff, okP_iffF, okP_T, okP_F, startC, argC, argN, outR, mSeq, mIf, mT, mLt, mLe, mGt, mGe, mII, cT, mVar, mC, mLen, aCons, aNil, gLen, asInt, asBl, asDat, asStr, asTup, asLst, asTrk, mRet, retR, mRetV, mSet, setR, mIxL, mIxT, mSkip, mEqS, mNeS, eqS, mMul, mAdd, mSub, mDiv, mMod, mPow, mNeg, cMul, cDiv, cMod, cPow, mTup, mLst, dats, szOk, mCall, mAbs', gAbs, mChain, tAndM, tOrM, tNotM, mIfE, mAndV, mOrV, mNotV, mApp, mAug, gNm, gTp, gCons', gNil', mAsg, mAsgL, mFor, iR1, iR2, bnd62, mDrop, mCatS, mCatT, mCatL, mSlT, mSlL, oNone, oSome, mIsi, isiD, mIsN, mNotN, Tl.isNon, mIntOf, gIntB, mMax', mMin', gMax2, gMin2, mEqD, mNeD, mIn, mNi, inF, eqF, mSlS, mIxS, mRaise1, mRaise2, mDefX, outX, okX, callX, mSetX, mExprX, mRetX, mTry, endT, dropX, mExF, mExI, mRevL, mRepL, mStr, gStr, mZf, mRepS, iN, iV, iT, frzV, hn, S_nil, S_app, S_len, show l.length ≤ 100000 by omega]

end Lw

namespace Lw
open PySem PySem.Spec PyProof.Rows L2 Evl Tl TL
theorem refused_ok (kd : Str) (n : Nat) (sg : Str) (pt x : Int) (hs : Sg sg) (h1 : 1 ≤ n) (h2 : n ≤ 100) (hf : ¬ (leastI sg n ≤ x ∧ x ≤ mostI sg n)) : m__law_refused [.dat (shape4 kd n sg pt), .dat (.int x)] = some (.dat (.bl true)) := by
  have t1 := written_bad kd n sg pt x hs h1 h2 hf
  refine v_def rfl ?_
  simp [b__law_refused, t__law_refused_1, u__law_refused_2, mDef, okP_iff, okP_iffF, okP_T, okP_F, startC, argC, argN, outR, mSeq, mIf, mT, mLt, mLe, mGt, mGe, mII, cT, mVar, mC, mLen, aCons, aNil, gLen, asInt, asBl, asDat, asStr, asTup, asLst, asTrk, mRet, retR, mRetV, mSet, setR, mIxL, mIxT, mSkip, mEqS, mNeS, eqS, mMul, mAdd, mSub, mDiv, mMod, mPow, mNeg, cMul, cDiv, cMod, cPow, mTup, mLst, dats, szOk, mCall, mAbs', gAbs, mChain, tAndM, tOrM, tNotM, mIfE, mAndV, mOrV, mNotV, mApp, mAug, gNm, gTp, gCons', gNil', mAsg, mAsgL, mFor, iR1, iR2, bnd62, mDrop, mCatS, mCatT, mCatL, mSlT, mSlL, oNone, oSome, mIsi, isiD, mIsN, mNotN, Tl.isNon, mIntOf, gIntB, mMax', mMin', gMax2, gMin2, mEqD, mNeD, mIn, mNi, inF, eqF, mSlS, mIxS, mRaise1, mRaise2, mDefX, outX, okX, callX, mSetX, mExprX, mRetX, mTry, endT, dropX, mExF, mExI, mRevL, mRepL, mStr, gStr, mZf, mRepS, iN, iV, iT, frzV, t1, List.lookup]
theorem law_turn (ns : List Int) (kind sign : Int) (hk : 0 ≤ kind ∧ kind < 2) (hs : 0 ≤ sign ∧ sign < 3) (i : Nat) (hi : i < 12) (x4 x5 x6 x7 x8 x9 x10 x11 : C) : ∃ y4 y5 y6 y7 y8 y9 y10 y11 : C,
    f_law_2 [.bor (ns.map D.int), .dat (.int i), .dat (.int kind), .dat (.int sign), x4, x5, x6, x7, x8, x9, x10, x11] = some (.nx [.bor (ns.map D.int), .dat (.int i), .dat (.int kind), .dat (.int sign), y4, y5, y6, y7, y8, y9, y10, y11]) := by
  obtain ⟨c1, hc1⟩ := cell_ok ns (1 + (i : Int)) (by omega)
  obtain ⟨kd, sg, pt, hsg, hf⟩ := form_ok kind i sign hk (by omega) hs
  have en : ((i : Int) + 1).toNat = i + 1 := by omega
  rw [en] at hf
  obtain ⟨ds, hd, hds⟩ := draws_ok c1 (3 + (i : Int)) [16, 10 ^ (14 : Int).toNat, 2 + (i : Int), 13, 10 ^ (39 : Int).toNat] (by
    intro w hw
    simp only [List.mem_cons, List.not_mem_nil, or_false] at hw
    rcases hw with rfl | rfl | rfl | rfl | rfl
    · exact wok_small (by decide) (by decide)
    · exact wok_pow _ (by decide)
    · exact wok_small (by omega) (by omega)
    · exact wok_small (by decide) (by decide)
    · exact wok_pow _ (by decide)) (by simp)
  cases hd with
  | cons a1 b1 hd =>
  cases hd with
  | cons a2 b2 hd =>
  cases hd with
  | cons a3 b3 hd =>
  cases hd with
  | cons a4 b4 hd =>
  cases hd with
  | cons a5 b5 hd =>
  cases hd
  rename_i d0 d1 d2 d3 d4
  simp only [List.map_cons, List.map_nil] at hds
  have q14 : ∀ ρ, mPow (mC (.int 10)) (mC (.int 14)) ρ = some (.dat (.int (10 ^ (14 : Int).toNat))) := fun ρ => by simp only [mPow, mII, mC, asInt, Option.bind_some, show cPow 10 14 = true from okP_t (by decide), if_true]
  have q39 : ∀ ρ, mPow (mC (.int 10)) (mC (.int 39)) ρ = some (.dat (.int (10 ^ (39 : Int).toNat))) := fun ρ => by simp only [mPow, mII, mC, asInt, Option.bind_some, show cPow 10 39 = true from okP_t (by decide), if_true]
  generalize (10 : Int) ^ (14 : Int).toNat = p14 at hds q14
  generalize (10 : Int) ^ (39 : Int).toNat = p39 at hds q39
  obtain ⟨p, rfl⟩ : ∃ p : Nat, d2 = (p : Int) := ⟨d2.toNat, by omega⟩
  obtain ⟨x, hx, hnum⟩ := number_ok kd (i + 1) sg p d0 d1 hsg (by omega) (by omega) a1 a2
  obtain ⟨m3, rfl⟩ : ∃ p : Nat, d3 = (p : Int) := ⟨d3.toNat, by omega⟩
  have tp := pow_ok m3 (by omega)
  have p3 := pw_pos m3
  have pw9 : ((10 : Int) ^ m3).natAbs.log2 < 9000 := (wok_pow m3 (by omega)).2
  generalize (10 : Int) ^ m3 = P at tp p3 pw9
  have t6 := ends_ok kd (i + 1) sg p hsg (by omega)
  have lh := low_high sg (i + 1) hsg (by omega)
  have el := least_low sg (i + 1) hsg (by omega)
  have em := most_high sg (i + 1) hsg (by omega)
  have h0 : lowI sg (i + 1) ≤ 0 ∧ 0 ≤ highI sg (i + 1) := by
    have p0 := pw_pos i
    have e := pw_succ (n := i + 1) (by omega)
    rw [Nat.add_sub_cancel] at e
    cases hsg with
    | n => simp only [lowI, highI, if_true]; omega
    | e => simp only [lowI, highI, if_neg ne3, if_true]; omega
    | t => simp only [lowI, highI, if_neg ne5, if_neg ne6]; omega
  have same : ∀ z, (lowI sg (i + 1) ≤ z ∧ z ≤ highI sg (i + 1)) → m_written [.dat (shape4 kd (i + 1) sg p), .dat (.int z)] = some (.ok (.dat (.str (S (txtL p z))))) ∧ m__law_text [.dat (shape4 kd (i + 1) sg p), .dat (.int z)] = some (.dat (.str (S (txtL p z)))) := fun z hz => by
    rw [← el, ← em] at hz
    have t1 := written_ok kd (i + 1) sg p z hsg (by omega) (by omega) (by omega) hz
    exact ⟨t1, text_ok kd (i + 1) sg p z (by omega) (p50 (n := i + 1) _ (by omega) (rng_abs sg (i + 1) z hsg (by omega) hz))⟩
  have rb : ∀ z, ¬ (lowI sg (i + 1) ≤ z ∧ z ≤ highI sg (i + 1)) → m__law_refused [.dat (shape4 kd (i + 1) sg p), .dat (.int z)] = some (.dat (.bl true)) := fun z hz => refused_ok kd (i + 1) sg p z hsg (by omega) (by omega) (by rw [el, em]; exact hz)
  rw [el, em] at hx
  generalize lowI sg (i + 1) = lo at t6 lh rb same hx h0
  generalize highI sg (i + 1) = hi' at t6 lh rb same hx h0
  obtain ⟨z, hz, ez⟩ : ∃ z, (lo ≤ z ∧ z ≤ hi') ∧ (if (if x / P < hi' then x / P else hi') > lo then (if x / P < hi' then x / P else hi') else lo) = z := by
    by_cases a : x / P < hi'
    · by_cases b : x / P > lo
      · exact ⟨x / P, by omega, by rw [if_pos a, if_pos b]⟩
      · exact ⟨lo, by omega, by rw [if_pos a, if_neg b]⟩
    · by_cases b : hi' > lo
      · exact ⟨hi', by omega, by rw [if_neg a, if_pos b]⟩
      · exact ⟨lo, by omega, by rw [if_neg a, if_neg b]⟩
  have r1 := rb (hi' + 1 + d4 * ((m3 : Int) % 2)) (by
    have := Int.emod_nonneg (m3 : Int) (b := 2) (by decide)
    have := Int.mul_nonneg a5 this
    omega)
  have r2 := rb (lo - 1 - d4 * ((m3 : Int) % 2)) (by
    have := Int.emod_nonneg (m3 : Int) (b := 2) (by decide)
    have := Int.mul_nonneg a5 this
    omega)
  obtain ⟨s1, s1'⟩ := same x hx
  obtain ⟨s2, s2'⟩ := same z hz
  obtain ⟨s3, s3'⟩ := same 0 h0
  have e5 : WOk p39 → True := fun _ => trivial
  have c9 : cMul d4 ((m3 : Int) % 2) = true := by
    refine okP_t (.inr ?_)
    have := Int.emod_nonneg (m3 : Int) (b := 2) (by decide)
    have := Int.emod_lt_of_pos (m3 : Int) (b := 2) (by decide)
    omega
  refine ⟨.own [.int d0, .int d1, .int p, .int m3, .int d4], .dat (shape4 kd (i + 1) sg p), .dat (.int x), .dat (.int z), .dat (.int 0), .dat (.int (d4 * ((m3 : Int) % 2))), .dat (.int lo), .dat (.int hi'), ?_⟩
  unfold f_law_2
  refine v_seq (ρ' := [.bor (ns.map D.int), .dat (.int i), .dat (.int kind), .dat (.int sign), .own [.int d0, .int d1, .int p, .int m3, .int d4], x5, x6, x7, x8, x9, x10, x11]) (by simp [mDef, okP_iff, okP_iffF, okP_T, okP_F, startC, argC, argN, outR, mSeq, mIf, mT, mLt, mLe, mGt, mGe, mII, cT, mVar, mC, mLen, aCons, aNil, gLen, asInt, asBl, asDat, asStr, asTup, asLst, asTrk, mRet, retR, mRetV, mSet, setR, mIxL, mIxT, mSkip, mEqS, mNeS, eqS, mMul, mAdd, mSub, mDiv, mMod, mNeg, cDiv, mTup, mLst, dats, szOk, mCall, mAbs', gAbs, mChain, tAndM, tOrM, tNotM, mIfE, mAndV, mOrV, mNotV, mApp, mAug, gNm, gTp, gCons', gNil', mAsg, mAsgL, mFor, iR1, iR2, bnd62, mDrop, mCatS, mCatT, mCatL, mSlT, mSlL, oNone, oSome, mIsi, isiD, mIsN, mNotN, Tl.isNon, mIntOf, gIntB, mMax', mMin', gMax2, gMin2, mEqD, mNeD, mIn, mNi, inF, eqF, mSlS, mIxS, mRaise1, mRaise2, mDefX, outX, okX, callX, mSetX, mExprX, mRetX, mTry, endT, dropX, mExF, mExI, mRevL, mRepL, mStr, gStr, mZf, mRepS, iN, iV, iT, frzV, q14, q39, hc1, hds]) ?_
  refine v_seq (ρ' := [.bor (ns.map D.int), .dat (.int i), .dat (.int kind), .dat (.int sign), .own [.int d0, .int d1, .int p, .int m3, .int d4], .dat (shape4 kd (i + 1) sg p), x6, x7, x8, x9, x10, x11]) (by
    unfold shape4 at hf ⊢
    simp [mDef, okP_iff, okP_iffF, okP_T, okP_F, startC, argC, argN, outR, mSeq, mIf, mT, mLt, mLe, mGt, mGe, mII, cT, mVar, mC, mLen, aCons, aNil, gLen, asInt, asBl, asDat, asStr, asTup, asLst, asTrk, mRet, retR, mRetV, mSet, setR, mIxL, mIxT, mSkip, mEqS, mNeS, eqS, mMul, mAdd, mSub, mDiv, mMod, mPow, mNeg, cMul, cDiv, cMod, cPow, mTup, mLst, dats, szOk, mCall, mAbs', gAbs, mChain, tAndM, tOrM, tNotM, mIfE, mAndV, mOrV, mNotV, mApp, mAug, gNm, gTp, gCons', gNil', mAsg, mAsgL, mFor, iR1, iR2, bnd62, mDrop, mCatS, mCatT, mCatL, mSlT, mSlL, oNone, oSome, mIsi, isiD, mIsN, mNotN, Tl.isNon, mIntOf, gIntB, mMax', mMin', gMax2, gMin2, mEqD, mNeD, mIn, mNi, inF, eqF, mSlS, mIxS, mRaise1, mRaise2, mDefX, outX, okX, callX, mSetX, mExprX, mRetX, mTry, endT, dropX, mExF, mExI, mRevL, mRepL, mStr, gStr, mZf, mRepS, iN, iV, iT, frzV, hf, cut3, atI_2]) ?_
  refine v_seq (ρ' := [.bor (ns.map D.int), .dat (.int i), .dat (.int kind), .dat (.int sign), .own [.int d0, .int d1, .int p, .int m3, .int d4], .dat (shape4 kd (i + 1) sg p), x6, x7, x8, x9, .dat (.int lo), .dat (.int hi')]) (by simp [mDef, okP_iff, okP_iffF, okP_T, okP_F, startC, argC, argN, outR, mSeq, mIf, mT, mLt, mLe, mGt, mGe, mII, cT, mVar, mC, mLen, aCons, aNil, gLen, asInt, asBl, asDat, asStr, asTup, asLst, asTrk, mRet, retR, mRetV, mSet, setR, mIxL, mIxT, mSkip, mEqS, mNeS, eqS, mMul, mAdd, mSub, mDiv, mMod, mPow, mNeg, cMul, cDiv, cMod, cPow, mTup, mLst, dats, szOk, mCall, mAbs', gAbs, mChain, tAndM, tOrM, tNotM, mIfE, mAndV, mOrV, mNotV, mApp, mAug, gNm, gTp, gCons', gNil', mAsg, mAsgL, mFor, iR1, iR2, bnd62, mDrop, mCatS, mCatT, mCatL, mSlT, mSlL, oNone, oSome, mIsi, isiD, mIsN, mNotN, Tl.isNon, mIntOf, gIntB, mMax', mMin', gMax2, gMin2, mEqD, mNeD, mIn, mNi, inF, eqF, mSlS, mIxS, mRaise1, mRaise2, mDefX, outX, okX, callX, mSetX, mExprX, mRetX, mTry, endT, dropX, mExF, mExI, mRevL, mRepL, mStr, gStr, mZf, mRepS, iN, iV, iT, frzV, t6]) ?_
  refine v_seq (ρ' := [.bor (ns.map D.int), .dat (.int i), .dat (.int kind), .dat (.int sign), .own [.int d0, .int d1, .int p, .int m3, .int d4], .dat (shape4 kd (i + 1) sg p), .dat (.int x), x7, x8, x9, .dat (.int lo), .dat (.int hi')]) (by simp [mDef, okP_iff, okP_iffF, okP_T, okP_F, startC, argC, argN, outR, mSeq, mIf, mT, mLt, mLe, mGt, mGe, mII, cT, mVar, mC, mLen, aCons, aNil, gLen, asInt, asBl, asDat, asStr, asTup, asLst, asTrk, mRet, retR, mRetV, mSet, setR, mIxL, mIxT, mSkip, mEqS, mNeS, eqS, mMul, mAdd, mSub, mDiv, mMod, mPow, mNeg, cMul, cDiv, cMod, cPow, mTup, mLst, dats, szOk, mCall, mAbs', gAbs, mChain, tAndM, tOrM, tNotM, mIfE, mAndV, mOrV, mNotV, mApp, mAug, gNm, gTp, gCons', gNil', mAsg, mAsgL, mFor, iR1, iR2, bnd62, mDrop, mCatS, mCatT, mCatL, mSlT, mSlL, oNone, oSome, mIsi, isiD, mIsN, mNotN, Tl.isNon, mIntOf, gIntB, mMax', mMin', gMax2, gMin2, mEqD, mNeD, mIn, mNi, inF, eqF, mSlS, mIxS, mRaise1, mRaise2, mDefX, outX, okX, callX, mSetX, mExprX, mRetX, mTry, endT, dropX, mExF, mExI, mRevL, mRepL, mStr, gStr, mZf, mRepS, iN, iV, iT, frzV, atI_0, atI_1, hnum]) ?_
  refine v_seq (ρ' := [.bor (ns.map D.int), .dat (.int i), .dat (.int kind), .dat (.int sign), .own [.int d0, .int d1, .int p, .int m3, .int d4], .dat (shape4 kd (i + 1) sg p), .dat (.int x), .dat (.int z), x8, x9, .dat (.int lo), .dat (.int hi')]) (by
    simp [mDef, okP_iff, okP_iffF, okP_T, okP_F, startC, argC, argN, outR, mSeq, mIf, mT, mLt, mLe, mGt, mGe, mII, cT, mVar, mC, mLen, aCons, aNil, gLen, asInt, asBl, asDat, asStr, asTup, asLst, asTrk, mRet, retR, mRetV, mSet, setR, mIxL, mIxT, mSkip, mEqS, mNeS, eqS, mMul, mAdd, mSub, mDiv, mMod, mPow, mNeg, cMul, cDiv, cMod, cPow, mTup, mLst, dats, szOk, mCall, mAbs', gAbs, mChain, tAndM, tOrM, tNotM, mIfE, mAndV, mOrV, mNotV, mApp, mAug, gNm, gTp, gCons', gNil', mAsg, mAsgL, mFor, iR1, iR2, bnd62, mDrop, mCatS, mCatT, mCatL, mSlT, mSlL, oNone, oSome, mIsi, isiD, mIsN, mNotN, Tl.isNon, mIntOf, gIntB, mMax', mMin', gMax2, gMin2, mEqD, mNeD, mIn, mNi, inF, eqF, mSlS, mIxS, mRaise1, mRaise2, mDefX, outX, okX, callX, mSetX, mExprX, mRetX, mTry, endT, dropX, mExF, mExI, mRevL, mRepL, mStr, gStr, mZf, mRepS, iN, iV, iT, frzV, atI_3, tp, p3, pw9]
    simpa using ez) ?_
  refine v_seq (ρ' := [.bor (ns.map D.int), .dat (.int i), .dat (.int kind), .dat (.int sign), .own [.int d0, .int d1, .int p, .int m3, .int d4], .dat (shape4 kd (i + 1) sg p), .dat (.int x), .dat (.int z), .dat (.int 0), x9, .dat (.int lo), .dat (.int hi')]) (v_for (ds := [.int x, .int z, .int 0]) (ρ' := [.bor (ns.map D.int), .dat (.int i), .dat (.int kind), .dat (.int sign), .own [.int d0, .int d1, .int p, .int m3, .int d4], .dat (shape4 kd (i + 1) sg p), .dat (.int x), .dat (.int z), x8, x9, .dat (.int lo), .dat (.int hi')]) (by simp [mDef, okP_iff, okP_iffF, okP_T, okP_F, startC, argC, argN, outR, mSeq, mIf, mT, mLt, mLe, mGt, mGe, mII, cT, mVar, mC, mLen, aCons, aNil, gLen, asInt, asBl, asDat, asStr, asTup, asLst, asTrk, mRet, retR, mRetV, mSet, setR, mIxL, mIxT, mSkip, mEqS, mNeS, eqS, mMul, mAdd, mSub, mDiv, mMod, mPow, mNeg, cMul, cDiv, cMod, cPow, mTup, mLst, dats, szOk, mCall, mAbs', gAbs, mChain, tAndM, tOrM, tNotM, mIfE, mAndV, mOrV, mNotV, mApp, mAug, gNm, gTp, gCons', gNil', mAsg, mAsgL, mFor, iR1, iR2, bnd62, mDrop, mCatS, mCatT, mCatL, mSlT, mSlL, oNone, oSome, mIsi, isiD, mIsN, mNotN, Tl.isNon, mIntOf, gIntB, mMax', mMin', gMax2, gMin2, mEqD, mNeD, mIn, mNi, inF, eqF, mSlS, mIxS, mRaise1, mRaise2, mDefX, outX, okX, callX, mSetX, mExprX, mRetX, mTry, endT, dropX, mExF, mExI, mRevL, mRepL, mStr, gStr, mZf, mRepS, iN, iV, iT, frzV]) (by
    simp [loopM, f_law_1, mDef, okP_iff, okP_iffF, okP_T, okP_F, startC, argC, argN, outR, mSeq, mIf, mT, mLt, mLe, mGt, mGe, mII, cT, mVar, mC, mLen, aCons, aNil, gLen, asInt, asBl, asDat, asStr, asTup, asLst, asTrk, mRet, retR, mRetV, mSet, setR, mIxL, mIxT, mSkip, mEqS, mNeS, eqS, mMul, mAdd, mSub, mDiv, mMod, mPow, mNeg, cMul, cDiv, cMod, cPow, mTup, mLst, dats, szOk, mCall, mAbs', gAbs, mChain, tAndM, tOrM, tNotM, mIfE, mAndV, mOrV, mNotV, mApp, mAug, gNm, gTp, gCons', gNil', mAsg, mAsgL, mFor, iR1, iR2, bnd62, mDrop, mCatS, mCatT, mCatL, mSlT, mSlL, oNone, oSome, mIsi, isiD, mIsN, mNotN, Tl.isNon, mIntOf, gIntB, mMax', mMin', gMax2, gMin2, mEqD, mNeD, mIn, mNi, inF, eqF, mSlS, mIxS, mRaise1, mRaise2, mDefX, outX, okX, callX, mSetX, mExprX, mRetX, mTry, endT, dropX, mExF, mExI, mRevL, mRepL, mStr, gStr, mZf, mRepS, iN, iV, iT, frzV, s1, s1', s2, s2', s3, s3'])) ?_
  refine v_seq (ρ' := [.bor (ns.map D.int), .dat (.int i), .dat (.int kind), .dat (.int sign), .own [.int d0, .int d1, .int p, .int m3, .int d4], .dat (shape4 kd (i + 1) sg p), .dat (.int x), .dat (.int z), .dat (.int 0), .dat (.int (d4 * ((m3 : Int) % 2))), .dat (.int lo), .dat (.int hi')]) (by simp [mDef, okP_iff, okP_iffF, okP_T, okP_F, startC, argC, argN, outR, mSeq, mIf, mT, mLt, mLe, mGt, mGe, mII, cT, mVar, mC, mLen, aCons, aNil, gLen, asInt, asBl, asDat, asStr, asTup, asLst, asTrk, mRet, retR, mRetV, mSet, setR, mIxL, mIxT, mSkip, mEqS, mNeS, eqS, mMul, mAdd, mSub, mDiv, mMod, mNeg, cDiv, mTup, mLst, dats, szOk, mCall, mAbs', gAbs, mChain, tAndM, tOrM, tNotM, mIfE, mAndV, mOrV, mNotV, mApp, mAug, gNm, gTp, gCons', gNil', mAsg, mAsgL, mFor, iR1, iR2, bnd62, mDrop, mCatS, mCatT, mCatL, mSlT, mSlL, oNone, oSome, mIsi, isiD, mIsN, mNotN, Tl.isNon, mIntOf, gIntB, mMax', mMin', gMax2, gMin2, mEqD, mNeD, mIn, mNi, inF, eqF, mSlS, mIxS, mRaise1, mRaise2, mDefX, outX, okX, callX, mSetX, mExprX, mRetX, mTry, endT, dropX, mExF, mExI, mRevL, mRepL, mStr, gStr, mZf, mRepS, iN, iV, iT, frzV, atI_3, atI_4, c9, show cMod (m3 : Int) 2 = true from okP_t (by omega)]) ?_
  simp [mDef, okP_iff, okP_iffF, okP_T, okP_F, startC, argC, argN, outR, mSeq, mIf, mT, mLt, mLe, mGt, mGe, mII, cT, mVar, mC, mLen, aCons, aNil, gLen, asInt, asBl, asDat, asStr, asTup, asLst, asTrk, mRet, retR, mRetV, mSet, setR, mIxL, mIxT, mSkip, mEqS, mNeS, eqS, mMul, mAdd, mSub, mDiv, mMod, mPow, mNeg, cMul, cDiv, cMod, cPow, mTup, mLst, dats, szOk, mCall, mAbs', gAbs, mChain, tAndM, tOrM, tNotM, mIfE, mAndV, mOrV, mNotV, mApp, mAug, gNm, gTp, gCons', gNil', mAsg, mAsgL, mFor, iR1, iR2, bnd62, mDrop, mCatS, mCatT, mCatL, mSlT, mSlL, oNone, oSome, mIsi, isiD, mIsN, mNotN, Tl.isNon, mIntOf, gIntB, mMax', mMin', gMax2, gMin2, mEqD, mNeD, mIn, mNi, inF, eqF, mSlS, mIxS, mRaise1, mRaise2, mDefX, outX, okX, callX, mSetX, mExprX, mRetX, mTry, endT, dropX, mExF, mExI, mRevL, mRepL, mStr, gStr, mZf, mRepS, iN, iV, iT, frzV, r1, r2]
theorem law_true (ns : List Int) (h : ns.length ≤ 63) : m_law [.ro (ns.map D.int)] = some (.dat (.bl true)) := by
  obtain ⟨c0, hc0⟩ := cell_ok ns 0 (by decide)
  obtain ⟨ds, hd, hds⟩ := draws_ok c0 2 [2, 3] (by intro w hw; simp only [List.mem_cons, List.not_mem_nil, or_false] at hw; exact wok_small (by omega) (by omega)) (by decide)
  cases hd with
  | cons a1 b1 hd =>
  cases hd with
  | cons a2 b2 hd =>
  cases hd
  rename_i kind sign
  simp only [List.map_cons, List.map_nil] at hds
  refine v_out rfl ?_
  unfold b_law
  refine v_seq (ρ' := [.bor (ns.map D.int), .un, .dat (.int kind), .dat (.int sign), .un, .un, .un, .un, .un, .un, .un, .un]) (by simp [mDef, okP_iff, okP_iffF, okP_T, okP_F, startC, argC, argN, outR, mSeq, mIf, mT, mLt, mLe, mGt, mGe, mII, cT, mVar, mC, mLen, aCons, aNil, gLen, asInt, asBl, asDat, asStr, asTup, asLst, asTrk, mRet, retR, mRetV, mSet, setR, mIxL, mIxT, mSkip, mEqS, mNeS, eqS, mMul, mAdd, mSub, mDiv, mMod, mPow, mNeg, cMul, cDiv, cMod, cPow, mTup, mLst, dats, szOk, mCall, mAbs', gAbs, mChain, tAndM, tOrM, tNotM, mIfE, mAndV, mOrV, mNotV, mApp, mAug, gNm, gTp, gCons', gNil', mAsg, mAsgL, mFor, iR1, iR2, bnd62, mDrop, mCatS, mCatT, mCatL, mSlT, mSlL, oNone, oSome, mIsi, isiD, mIsN, mNotN, Tl.isNon, mIntOf, gIntB, mMax', mMin', gMax2, gMin2, mEqD, mNeD, mIn, mNi, inF, eqF, mSlS, mIxS, mRaise1, mRaise2, mDefX, outX, okX, callX, mSetX, mExprX, mRetX, mTry, endT, dropX, mExF, mExI, mRevL, mRepL, mStr, gStr, mZf, mRepS, iN, iV, iT, frzV, hc0, hds]) ?_
  have L : ∃ ρ', loopM (gNm 1) f_law_2 (rngD 0 12) [.bor (ns.map D.int), .un, .dat (.int kind), .dat (.int sign), .un, .un, .un, .un, .un, .un, .un, .un] = some (.nx ρ') ∧ ∃ x1 x4 x5 x6 x7 x8 x9 x10 x11 : C, ρ' = [.bor (ns.map D.int), x1, .dat (.int kind), .dat (.int sign), x4, x5, x6, x7, x8, x9, x10, x11] := by
    refine loop_all (fun ρ => ∃ x1 x4 x5 x6 x7 x8 x9 x10 x11 : C, ρ = [.bor (ns.map D.int), x1, .dat (.int kind), .dat (.int sign), x4, x5, x6, x7, x8, x9, x10, x11]) ?_ _ ⟨_, _, _, _, _, _, _, _, _, rfl⟩
    rintro d hdm ρ ⟨x1, x4, x5, x6, x7, x8, x9, x10, x11, rfl⟩
    obtain ⟨i, hi, rfl⟩ := mem_rngD hdm
    rw [Int.zero_add]
    obtain ⟨y4, y5, y6, y7, y8, y9, y10, y11, ht⟩ := law_turn ns kind sign ⟨a1, b1⟩ ⟨a2, b2⟩ i hi x4 x5 x6 x7 x8 x9 x10 x11
    exact ⟨_, _, rfl, ht, .dat (.int i), y4, y5, y6, y7, y8, y9, y10, y11, rfl⟩
  obtain ⟨ρ', hl, x1, x4, x5, x6, x7, x8, x9, x10, x11, rfl⟩ := L
  refine v_seq (v_for (ds := rngD 0 12) (by simp [mDef, okP_iff, okP_iffF, okP_T, okP_F, startC, argC, argN, outR, mSeq, mIf, mT, mLt, mLe, mGt, mGe, mII, cT, mVar, mC, mLen, aCons, aNil, gLen, asInt, asBl, asDat, asStr, asTup, asLst, asTrk, mRet, retR, mRetV, mSet, setR, mIxL, mIxT, mSkip, mEqS, mNeS, eqS, mMul, mAdd, mSub, mDiv, mMod, mPow, mNeg, cMul, cDiv, cMod, cPow, mTup, mLst, dats, szOk, mCall, mAbs', gAbs, mChain, tAndM, tOrM, tNotM, mIfE, mAndV, mOrV, mNotV, mApp, mAug, gNm, gTp, gCons', gNil', mAsg, mAsgL, mFor, iR1, iR2, bnd62, mDrop, mCatS, mCatT, mCatL, mSlT, mSlL, oNone, oSome, mIsi, isiD, mIsN, mNotN, Tl.isNon, mIntOf, gIntB, mMax', mMin', gMax2, gMin2, mEqD, mNeD, mIn, mNi, inF, eqF, mSlS, mIxS, mRaise1, mRaise2, mDefX, outX, okX, callX, mSetX, mExprX, mRetX, mTry, endT, dropX, mExF, mExI, mRevL, mRepL, mStr, gStr, mZf, mRepS, iN, iV, iT, frzV]) hl) ?_
  rfl

end Lw

namespace Lw
open PySem PySem.Spec PyProof.Rows L2 Evl Tl
theorem all_mk {l : PySem.W.OpenLaw} {w : World} {K : PySem.W.Frag} {h : Heap} {mg : Str → Option Value} {fa : Addr} (X : K.In h) (G : h.Ns mainGlobals mg) (hfa : mg "law" = some (.ref fa))
    {f0 : Addr} {od0 an0 : Option Addr} {sl0 : Array (Option Value)} {oc0 kV0 dc0 pm0 cd0 ct0 : Value} {f1 : Addr} {od1 an1 : Option Addr} {sl1 : Array (Option Value)} {oc1 kV1 dc1 pm1 cd1 ct1 : Value} {f2 : Addr} {od2 an2 : Option Addr} {sl2 : Array (Option Value)} {oc2 kV2 dc2 pm2 cd2 ct2 : Value} {f3 : Addr} {od3 an3 : Option Addr} {sl3 : Array (Option Value)} {oc3 kV3 dc3 pm3 cd3 ct3 : Value} {f4 : Addr} {od4 an4 : Option Addr} {sl4 : Array (Option Value)} {oc4 kV4 dc4 pm4 cd4 ct4 : Value} {f5 : Addr} {od5 an5 : Option Addr} {sl5 : Array (Option Value)} {oc5 kV5 dc5 pm5 cd5 ct5 : Value} {f6 : Addr} {od6 an6 : Option Addr} {sl6 : Array (Option Value)} {oc6 kV6 dc6 pm6 cd6 ct6 : Value} {f7 : Addr} {od7 an7 : Option Addr} {sl7 : Array (Option Value)} {oc7 kV7 dc7 pm7 cd7 ct7 : Value} {f8 : Addr} {od8 an8 : Option Addr} {sl8 : Array (Option Value)} {oc8 kV8 dc8 pm8 cd8 ct8 : Value} {f9 : Addr} {od9 an9 : Option Addr} {sl9 : Array (Option Value)} {oc9 kV9 dc9 pm9 cd9 ct9 : Value} {f10 : Addr} {od10 an10 : Option Addr} {sl10 : Array (Option Value)} {oc10 kV10 dc10 pm10 cd10 ct10 : Value} {f11 : Addr} {od11 an11 : Option Addr} {sl11 : Array (Option Value)} {oc11 kV11 dc11 pm11 cd11 ct11 : Value} {f12 : Addr} {od12 an12 : Option Addr} {sl12 : Array (Option Value)} {oc12 kV12 dc12 pm12 cd12 ct12 : Value} {f13 : Addr} {od13 an13 : Option Addr} {sl13 : Array (Option Value)} {oc13 kV13 dc13 pm13 cd13 ct13 : Value} {f14 : Addr} {od14 an14 : Option Addr} {sl14 : Array (Option Value)} {oc14 kV14 dc14 pm14 cd14 ct14 : Value} {A_NoFit : Addr} {A_LoftError : Addr} {A_NoText : Addr} {nm_NoFit qn_NoFit : Str} {N_NoFit : Addr} {bs_NoFit : List Value} {sn_NoFit : List Str} {sb_NoFit : List Value} {ab_NoFit : Bool} {co_NoFit : Option Bool} {dd_NoFit : Option Addr} {m0_NoFit m1_NoFit m2_NoFit m3_NoFit m5_NoFit : Option Value} {fi_NoFit : Addr} {odi_NoFit ani_NoFit : Option Addr} {sli_NoFit : Array (Option Value)} {oci_NoFit kVi_NoFit dci_NoFit pmi_NoFit cdi_NoFit cti_NoFit : Value}
    (a0 : PySem.W.nsIn K mainGlobals "ten_to" = some (some (.ref f0))) (l0 : K.lookup f0 = some ⟨oc0, od0, .func (PySem.W.fnOf "ten_to" "ten_to" (defArgs s_ten_to) (defBody s_ten_to) (defScope s_ten_to) .none kV0 dc0 pm0 an0 cd0 ct0), sl0⟩) (c0 : PySem.W.codeIn K cd0 "ten_to" = true) (k0 : PySem.W.keepIn K (.ref f0) = true)
    (a1 : PySem.W.nsIn K mainGlobals "least_of" = some (some (.ref f1))) (l1 : K.lookup f1 = some ⟨oc1, od1, .func (PySem.W.fnOf "least_of" "least_of" (defArgs s_least_of) (defBody s_least_of) (defScope s_least_of) .none kV1 dc1 pm1 an1 cd1 ct1), sl1⟩) (c1 : PySem.W.codeIn K cd1 "least_of" = true) (k1 : PySem.W.keepIn K (.ref f1) = true)
    (a2 : PySem.W.nsIn K mainGlobals "most_of" = some (some (.ref f2))) (l2 : K.lookup f2 = some ⟨oc2, od2, .func (PySem.W.fnOf "most_of" "most_of" (defArgs s_most_of) (defBody s_most_of) (defScope s_most_of) .none kV2 dc2 pm2 an2 cd2 ct2), sl2⟩) (c2 : PySem.W.codeIn K cd2 "most_of" = true) (k2 : PySem.W.keepIn K (.ref f2) = true)
    (a3 : PySem.W.nsIn K mainGlobals "fits" = some (some (.ref f3))) (l3 : K.lookup f3 = some ⟨oc3, od3, .func (PySem.W.fnOf "fits" "fits" (defArgs s_fits) (defBody s_fits) (defScope s_fits) .none kV3 dc3 pm3 an3 cd3 ct3), sl3⟩) (c3 : PySem.W.codeIn K cd3 "fits" = true) (k3 : PySem.W.keepIn K (.ref f3) = true)
    (a4 : PySem.W.nsIn K mainGlobals "written" = some (some (.ref f4))) (l4 : K.lookup f4 = some ⟨oc4, od4, .func (PySem.W.fnOf "written" "written" (defArgs s_written) (defBody s_written) (defScope s_written) .none kV4 dc4 pm4 an4 cd4 ct4), sl4⟩) (c4 : PySem.W.codeIn K cd4 "written" = true) (k4 : PySem.W.keepIn K (.ref f4) = true)
    (a5 : PySem.W.nsIn K mainGlobals "_law_cell" = some (some (.ref f5))) (l5 : K.lookup f5 = some ⟨oc5, od5, .func (PySem.W.fnOf "_law_cell" "_law_cell" (defArgs s__law_cell) (defBody s__law_cell) (defScope s__law_cell) .none kV5 dc5 pm5 an5 cd5 ct5), sl5⟩) (c5 : PySem.W.codeIn K cd5 "_law_cell" = true) (k5 : PySem.W.keepIn K (.ref f5) = true)
    (a6 : PySem.W.nsIn K mainGlobals "_law_mixed" = some (some (.ref f6))) (l6 : K.lookup f6 = some ⟨oc6, od6, .func (PySem.W.fnOf "_law_mixed" "_law_mixed" (defArgs s__law_mixed) (defBody s__law_mixed) (defScope s__law_mixed) .none kV6 dc6 pm6 an6 cd6 ct6), sl6⟩) (c6 : PySem.W.codeIn K cd6 "_law_mixed" = true) (k6 : PySem.W.keepIn K (.ref f6) = true)
    (a7 : PySem.W.nsIn K mainGlobals "_law_draws" = some (some (.ref f7))) (l7 : K.lookup f7 = some ⟨oc7, od7, .func (PySem.W.fnOf "_law_draws" "_law_draws" (defArgs s__law_draws) (defBody s__law_draws) (defScope s__law_draws) .none kV7 dc7 pm7 an7 cd7 ct7), sl7⟩) (c7 : PySem.W.codeIn K cd7 "_law_draws" = true) (k7 : PySem.W.keepIn K (.ref f7) = true)
    (a8 : PySem.W.nsIn K mainGlobals "_law_power" = some (some (.ref f8))) (l8 : K.lookup f8 = some ⟨oc8, od8, .func (PySem.W.fnOf "_law_power" "_law_power" (defArgs s__law_power) (defBody s__law_power) (defScope s__law_power) .none kV8 dc8 pm8 an8 cd8 ct8), sl8⟩) (c8 : PySem.W.codeIn K cd8 "_law_power" = true) (k8 : PySem.W.keepIn K (.ref f8) = true)
    (a9 : PySem.W.nsIn K mainGlobals "_law_form" = some (some (.ref f9))) (l9 : K.lookup f9 = some ⟨oc9, od9, .func (PySem.W.fnOf "_law_form" "_law_form" (defArgs s__law_form) (defBody s__law_form) (defScope s__law_form) .none kV9 dc9 pm9 an9 cd9 ct9), sl9⟩) (c9 : PySem.W.codeIn K cd9 "_law_form" = true) (k9 : PySem.W.keepIn K (.ref f9) = true)
    (a10 : PySem.W.nsIn K mainGlobals "_law_ends" = some (some (.ref f10))) (l10 : K.lookup f10 = some ⟨oc10, od10, .func (PySem.W.fnOf "_law_ends" "_law_ends" (defArgs s__law_ends) (defBody s__law_ends) (defScope s__law_ends) .none kV10 dc10 pm10 an10 cd10 ct10), sl10⟩) (c10 : PySem.W.codeIn K cd10 "_law_ends" = true) (k10 : PySem.W.keepIn K (.ref f10) = true)
    (a11 : PySem.W.nsIn K mainGlobals "_law_number" = some (some (.ref f11))) (l11 : K.lookup f11 = some ⟨oc11, od11, .func (PySem.W.fnOf "_law_number" "_law_number" (defArgs s__law_number) (defBody s__law_number) (defScope s__law_number) .none kV11 dc11 pm11 an11 cd11 ct11), sl11⟩) (c11 : PySem.W.codeIn K cd11 "_law_number" = true) (k11 : PySem.W.keepIn K (.ref f11) = true)
    (a12 : PySem.W.nsIn K mainGlobals "_law_text" = some (some (.ref f12))) (l12 : K.lookup f12 = some ⟨oc12, od12, .func (PySem.W.fnOf "_law_text" "_law_text" (defArgs s__law_text) (defBody s__law_text) (defScope s__law_text) .none kV12 dc12 pm12 an12 cd12 ct12), sl12⟩) (c12 : PySem.W.codeIn K cd12 "_law_text" = true) (k12 : PySem.W.keepIn K (.ref f12) = true)
    (a13 : PySem.W.nsIn K mainGlobals "_law_refused" = some (some (.ref f13))) (l13 : K.lookup f13 = some ⟨oc13, od13, .func (PySem.W.fnOf "_law_refused" "_law_refused" (defArgs s__law_refused) (defBody s__law_refused) (defScope s__law_refused) .none kV13 dc13 pm13 an13 cd13 ct13), sl13⟩) (c13 : PySem.W.codeIn K cd13 "_law_refused" = true) (k13 : PySem.W.keepIn K (.ref f13) = true)
    (a14 : PySem.W.nsIn K mainGlobals "law" = some (some (.ref f14))) (l14 : K.lookup f14 = some ⟨oc14, od14, .func (PySem.W.fnOf "law" "law" (defArgs s_law) (defBody s_law) (defScope s_law) .none kV14 dc14 pm14 an14 cd14 ct14), sl14⟩) (c14 : PySem.W.codeIn K cd14 "law" = true) (k14 : PySem.W.keepIn K (.ref f14) = true)
    (g_NoFit : PySem.W.nsIn K mainGlobals "NoFit" = some (some (.ref A_NoFit)))
    (g_LoftError : PySem.W.nsIn K mainGlobals "LoftError" = some (some (.ref A_LoftError)))
    (g_NoText : PySem.W.nsIn K mainGlobals "NoText" = some (some (.ref A_NoText)))
    (xL_NoFit : K.lookup A_NoFit = some (excClassObj nm_NoFit qn_NoFit A_NoFit N_NoFit bs_NoFit [.ref A_LoftError, .type "ValueError", .type "Exception", .type "BaseException", .type "object"] true sn_NoFit sb_NoFit ab_NoFit co_NoFit dd_NoFit m0_NoFit m1_NoFit m2_NoFit m3_NoFit m5_NoFit "ValueError.__new__"))
    (sa_NoFit : PySem.W.findIn K (.ref A_NoFit) "__setattr__" = some (some (.builtin "object.__setattr__")))
    (ga_NoFit : PySem.W.findIn K (.ref A_NoFit) "__getattribute__" = some (some (.builtin "BaseException.__getattribute__")))
    (gg_NoFit : PySem.W.findIn K (.ref A_NoFit) "__getattr__" = some none)
    (kC_NoFit : PySem.W.keepIn K (.ref A_NoFit) = true)
    (eC_NoFit : PySem.W.subIn K (.ref A_NoFit) (.type "BaseException") = some true)
    (tC_NoFit : PySem.W.typeIn K (.ref A_NoFit) = some (.type "type"))
    (hC_NoFit : PySem.W.hasDictIn K A_NoFit = true)
    (iC_NoFit : PySem.W.isClsIn K A_NoFit = true)
    (sC_NoFit : PySem.W.subIn K (.ref A_NoFit) (.ref A_NoFit) = some true)
    (wa_NoFit : PySem.W.findIn K (.ref A_NoFit) "__class__" = some (some (.builtin "object.__class__")))
    (wm_NoFit : PySem.W.mroIn K A_NoFit (.type "object") = some true)
    (no_NoFit_number : PySem.W.findIn K (.ref A_NoFit) "number" = some none)
    (ia_NoFit : PySem.W.findIn K (.ref A_NoFit) "__init__" = some (some (.ref fi_NoFit)))
    (it_NoFit : PySem.W.typeIn K (.ref fi_NoFit) = some (.type "function"))
    (il_NoFit : K.lookup fi_NoFit = some ⟨oci_NoFit, odi_NoFit, .func (PySem.W.fnOf "__init__" "NoFit.__init__" (defArgs si_NoFit) (defBody si_NoFit) (defScope si_NoFit) .none kVi_NoFit dci_NoFit pmi_NoFit ani_NoFit cdi_NoFit cti_NoFit), sli_NoFit⟩)
    (ic_NoFit : PySem.W.codeIn K cdi_NoFit "NoFit.__init__" = true)
    (ik_NoFit : PySem.W.keepIn K (.ref fi_NoFit) = true)
    (hn : PySem.W.specialIn K (.builtin "object.__class__") "__get__" = some (some (.builtin "getset_descriptor.__get__")))
    (ht : PySem.W.takesIn K (.builtin "object.__class__") = some true)
    (iC_LoftError : PySem.W.isClsIn K A_LoftError = true) (tC_LoftError : PySem.W.typeIn K (.ref A_LoftError) = some (.type "type"))
    (sk_NoFit_LoftError : PySem.W.subIn K (.ref A_NoFit) (.ref A_LoftError) = some true)
    (iC_NoText : PySem.W.isClsIn K A_NoText = true) (tC_NoText : PySem.W.typeIn K (.ref A_NoText) = some (.type "type"))
    (sk_NoFit_NoText : PySem.W.subIn K (.ref A_NoFit) (.ref A_NoText) = some false)
    (y_range : PySem.W.nsIn K mainGlobals "range" = some none)
    (y_str : PySem.W.nsIn K mainGlobals "str" = some none)
    (y_abs : PySem.W.nsIn K mainGlobals "abs" = some none)
    (y_len : PySem.W.nsIn K mainGlobals "len" = some none)
    (y_max : PySem.W.nsIn K mainGlobals "max" = some none)
    (y_min : PySem.W.nsIn K mainGlobals "min" = some none)
    (y_int : PySem.W.nsIn K mainGlobals "int" = some none)
    (y_isinstance : PySem.W.nsIn K mainGlobals "isinstance" = some none) :
    ∃ fd : FuncData, (∀ (s : Shared) (v : Value), BindsTo s fd ⟨[v], []⟩ [("_law_script", v)]) ∧ ∀ base : Heap, K.In base → base.Ns mainGlobals mg → FnOk l.prog w K mg base CX0 6 fa fd ["_law_script"] (spM K m_law) := by
  have e := hfa.symm.trans (PySem.W.mg_of X G a14)
  cases e
  have z_range := PySem.W.mg_none_of X G y_range
  have z_str := PySem.W.mg_none_of X G y_str
  have z_abs := PySem.W.mg_none_of X G y_abs
  have z_len := PySem.W.mg_none_of X G y_len
  have z_max := PySem.W.mg_none_of X G y_max
  have z_min := PySem.W.mg_none_of X G y_min
  have z_int := PySem.W.mg_none_of X G y_int
  have z_isinstance := PySem.W.mg_none_of X G y_isinstance
  have n_NoFit := PySem.W.mg_of X G g_NoFit
  have n_LoftError := PySem.W.mg_of X G g_LoftError
  have n_NoText := PySem.W.mg_of X G g_NoText
  have T_NoFit : OexC K A_NoFit := ⟨⟨_, _, _, _, _, _, _, _, _, _, _, _, _, _, _, xL_NoFit, by first | decide +kernel | rfl | simp [PySem.HandSPX.refsVE, PySem.HandSPX.veTail]⟩, sa_NoFit, eC_NoFit, tC_NoFit, kC_NoFit⟩
  have q_NoFit : ExK K mg "NoFit" A_NoFit := ⟨n_NoFit, ⟨ga_NoFit, gg_NoFit, eC_NoFit, hC_NoFit⟩, iC_NoFit, wa_NoFit, hn, ht, wm_NoFit⟩
  have x_NoFit : PySem.W.exmOne K (.ref A_NoFit) (.ref A_NoFit) = some true := PySem.W.exm_ref eC_NoFit hC_NoFit tC_NoFit sC_NoFit
  have k_NoFit_LoftError := kit_one iC_LoftError tC_LoftError sk_NoFit_LoftError sC_NoFit
  have k_NoFit_NoText := kit_one iC_NoText tC_NoText sk_NoFit_NoText sC_NoFit
  have F0 := fun_mk (st := s_ten_to) l0 c0 k0
  have g0 := PySem.W.mg_of X G a0
  have b0 := F0.binds (ps := ["many"]) fun _ _ _ _ _ _ us hl => match us, hl with | [_], _ => rfl
  have F1 := fun_mk (st := s_least_of) l1 c1 k1
  have g1 := PySem.W.mg_of X G a1
  have b1 := F1.binds (ps := ["shape"]) fun _ _ _ _ _ _ us hl => match us, hl with | [_], _ => rfl
  have F2 := fun_mk (st := s_most_of) l2 c2 k2
  have g2 := PySem.W.mg_of X G a2
  have b2 := F2.binds (ps := ["shape"]) fun _ _ _ _ _ _ us hl => match us, hl with | [_], _ => rfl
  have F3 := fun_mk (st := s_fits) l3 c3 k3
  have g3 := PySem.W.mg_of X G a3
  have b3 := F3.binds (ps := ["shape", "number"]) fun _ _ _ _ _ _ us hl => match us, hl with | [_, _], _ => rfl
  have F4 := fun_mk (st := s_written) l4 c4 k4
  have g4 := PySem.W.mg_of X G a4
  have b4 := F4.binds (ps := ["shape", "number"]) fun _ _ _ _ _ _ us hl => match us, hl with | [_, _], _ => rfl
  have F5 := fun_mk (st := s__law_cell) l5 c5 k5
  have g5 := PySem.W.mg_of X G a5
  have b5 := F5.binds (ps := ["_law_script", "_law_k"]) fun _ _ _ _ _ _ us hl => match us, hl with | [_, _], _ => rfl
  have F6 := fun_mk (st := s__law_mixed) l6 c6 k6
  have g6 := PySem.W.mg_of X G a6
  have b6 := F6.binds (ps := ["_law_cell_here", "_law_k", "_law_salt"]) fun _ _ _ _ _ _ us hl => match us, hl with | [_, _, _], _ => rfl
  have F7 := fun_mk (st := s__law_draws) l7 c7 k7
  have g7 := PySem.W.mg_of X G a7
  have b7 := F7.binds (ps := ["_law_cell_here", "_law_salt", "_law_widths"]) fun _ _ _ _ _ _ us hl => match us, hl with | [_, _, _], _ => rfl
  have F8 := fun_mk (st := s__law_power) l8 c8 k8
  have g8 := PySem.W.mg_of X G a8
  have b8 := F8.binds (ps := ["_law_base", "_law_many"]) fun _ _ _ _ _ _ us hl => match us, hl with | [_, _], _ => rfl
  have F9 := fun_mk (st := s__law_form) l9 c9 k9
  have g9 := PySem.W.mg_of X G a9
  have b9 := F9.binds (ps := ["_law_kind", "_law_many", "_law_sign"]) fun _ _ _ _ _ _ us hl => match us, hl with | [_, _, _], _ => rfl
  have F10 := fun_mk (st := s__law_ends) l10 c10 k10
  have g10 := PySem.W.mg_of X G a10
  have b10 := F10.binds (ps := ["_law_form_here"]) fun _ _ _ _ _ _ us hl => match us, hl with | [_], _ => rfl
  have F11 := fun_mk (st := s__law_number) l11 c11 k11
  have g11 := PySem.W.mg_of X G a11
  have b11 := F11.binds (ps := ["_law_form_here", "_law_way", "_law_far"]) fun _ _ _ _ _ _ us hl => match us, hl with | [_, _, _], _ => rfl
  have F12 := fun_mk (st := s__law_text) l12 c12 k12
  have g12 := PySem.W.mg_of X G a12
  have b12 := F12.binds (ps := ["_law_form_here", "_law_number_here"]) fun _ _ _ _ _ _ us hl => match us, hl with | [_, _], _ => rfl
  have F13 := fun_mk (st := s__law_refused) l13 c13 k13
  have g13 := PySem.W.mg_of X G a13
  have b13 := F13.binds (ps := ["_law_form_here", "_law_number_here"]) fun _ _ _ _ _ _ us hl => match us, hl with | [_, _], _ => rfl
  have F14 := fun_mk (st := s_law) l14 c14 k14
  have g14 := PySem.W.mg_of X G a14
  have b14 := F14.binds (ps := ["_law_script"]) fun _ _ _ _ _ _ us hl => match us, hl with | [_], _ => rfl
  have Fi_NoFit := fun_mk (st := si_NoFit) il_NoFit ic_NoFit ik_NoFit
  have bi_NoFit := Fi_NoFit.binds (ps := ["self", "number"]) fun _ _ _ _ _ _ us hl => match us, hl with | [_, _], _ => rfl
  refine ⟨PySem.W.fnOf "law" "law" (defArgs s_law) (defBody s_law) (defScope s_law) .none kV14 dc14 pm14 an14 cd14 ct14, fun s v => .of_eq rfl, fun base _ _ => ?_⟩
  have r_NoFit : Xc1 l.prog w K mg base "NoFit" "number" := ⟨_, _, _, _, n_NoFit, T_NoFit, ia_NoFit, it_NoFit, ini_NoFit Fi_NoFit, bi_NoFit, no_NoFit_number⟩
  have h_ten_to : Cal l.prog w K mg base "ten_to" 1 m_ten_to := ok_ten_to z_range F0 g0 b0
  have h_least_of : Cal l.prog w K mg base "least_of" 2 m_least_of := ok_least_of h_ten_to F1 g1 b1
  have h_most_of : Cal l.prog w K mg base "most_of" 2 m_most_of := ok_most_of h_ten_to F2 g2 b2
  have h_fits : Cal l.prog w K mg base "fits" 3 m_fits := ok_fits h_least_of h_most_of F3 g3 b3
  have h_written : CalX l.prog w K mg base "written" 4 m_written := ok_written h_fits z_str z_abs r_NoFit F4 g4 b4
  have h__law_cell : Cal l.prog w K mg base "_law_cell" 1 m__law_cell := ok__law_cell z_len F5 g5 b5
  have h__law_mixed : Cal l.prog w K mg base "_law_mixed" 1 m__law_mixed := ok__law_mixed F6 g6 b6
  have h__law_draws : Cal l.prog w K mg base "_law_draws" 2 m__law_draws := ok__law_draws h__law_mixed z_abs z_range z_len F7 g7 b7
  have h__law_power : Cal l.prog w K mg base "_law_power" 1 m__law_power := ok__law_power z_range F8 g8 b8
  have h__law_form : Cal l.prog w K mg base "_law_form" 1 m__law_form := ok__law_form F9 g9 b9
  have h__law_ends : Cal l.prog w K mg base "_law_ends" 2 m__law_ends := ok__law_ends h__law_power F10 g10 b10
  have h__law_number : Cal l.prog w K mg base "_law_number" 3 m__law_number := ok__law_number h__law_ends h__law_power z_max z_min F11 g11 b11
  have h__law_text : Cal l.prog w K mg base "_law_text" 1 m__law_text := ok__law_text z_abs z_len z_int F12 g12 b12
  have h__law_refused : Cal l.prog w K mg base "_law_refused" 5 m__law_refused := ok__law_refused h_written z_isinstance q_NoFit x_NoFit no_NoFit_number n_LoftError n_NoText k_NoFit_LoftError k_NoFit_NoText F13 g13 b13
  exact fn_law h__law_draws h__law_cell h__law_form h__law_ends h__law_number h__law_power h_written h__law_text h__law_refused z_range z_max z_min F14
end Lw

open PySem PySem.W PyProof.Rows
set_option maxRecDepth 100000 in
set_option maxHeartbeats 0 in
theorem PySem.Challenge.cw_tensloft_k07_written_holds : PySem.Challenge.rw_tensloft_k07_written.Holds := by
  w_on; o_law; k_head; (case hw => w_witness2)
  k_fill
  refine L2.walk_of (l := PySem.Challenge.rw_tensloft_k07_written) (n := 63) (k := 6) (x := "_law_script") (CX := fun _ => L2.CX0) (sp := fun w => Tl.spM _ Lw.m_law) rfl (by decide) rfl ⟨rfl, by decide, by decide⟩ (fun w h Y => PySem.W.kIn_of Y) ?F (fun _ _ a ns hl _ hS => Tl.law_end hS (Lw.law_true ns hl)) (fun _ _ _ _ _ h => h)
  case F =>
    intro w mg fa h KX G hmg
    refine' Lw.all_mk KX G hmg ?a0 ?l0 ?c0 ?k0 ?a1 ?l1 ?c1 ?k1 ?a2 ?l2 ?c2 ?k2 ?a3 ?l3 ?c3 ?k3 ?a4 ?l4 ?c4 ?k4 ?a5 ?l5 ?c5 ?k5 ?a6 ?l6 ?c6 ?k6 ?a7 ?l7 ?c7 ?k7 ?a8 ?l8 ?c8 ?k8 ?a9 ?l9 ?c9 ?k9 ?a10 ?l10 ?c10 ?k10 ?a11 ?l11 ?c11 ?k11 ?a12 ?l12 ?c12 ?k12 ?a13 ?l13 ?c13 ?k13 ?a14 ?l14 ?c14 ?k14 ?g_NoFit ?g_LoftError ?g_NoText ?xL_NoFit ?sa_NoFit ?ga_NoFit ?gg_NoFit ?kC_NoFit ?eC_NoFit ?tC_NoFit ?hC_NoFit ?iC_NoFit ?sC_NoFit ?wa_NoFit ?wm_NoFit ?no_NoFit_number ?ia_NoFit ?it_NoFit ?il_NoFit ?ic_NoFit ?ik_NoFit ?hn ?ht ?iC_LoftError ?tC_LoftError ?sk_NoFit_LoftError ?iC_NoText ?tC_NoText ?sk_NoFit_NoText ?y_range ?y_str ?y_abs ?y_len ?y_max ?y_min ?y_int ?y_isinstance
    (case a0 => k_is); (case l0 => k_is); (case c0 => k_is); (case k0 => k_is); (case a1 => k_is); (case l1 => k_is); (case c1 => k_is); (case k1 => k_is); (case a2 => k_is); (case l2 => k_is); (case c2 => k_is); (case k2 => k_is); (case a3 => k_is); (case l3 => k_is); (case c3 => k_is); (case k3 => k_is); (case a4 => k_is); (case l4 => k_is); (case c4 => k_is); (case k4 => k_is); (case a5 => k_is); (case l5 => k_is); (case c5 => k_is); (case k5 => k_is); (case a6 => k_is); (case l6 => k_is); (case c6 => k_is); (case k6 => k_is); (case a7 => k_is); (case l7 => k_is); (case c7 => k_is); (case k7 => k_is); (case a8 => k_is); (case l8 => k_is); (case c8 => k_is); (case k8 => k_is); (case a9 => k_is); (case l9 => k_is); (case c9 => k_is); (case k9 => k_is); (case a10 => k_is); (case l10 => k_is); (case c10 => k_is); (case k10 => k_is); (case a11 => k_is); (case l11 => k_is); (case c11 => k_is); (case k11 => k_is); (case a12 => k_is); (case l12 => k_is); (case c12 => k_is); (case k12 => k_is); (case a13 => k_is); (case l13 => k_is); (case c13 => k_is); (case k13 => k_is); (case a14 => k_is); (case l14 => k_is); (case c14 => k_is); (case k14 => k_is); (case g_NoFit => k_is); (case g_LoftError => k_is); (case g_NoText => k_is); (case xL_NoFit => k_is); (case sa_NoFit => k_is); (case ga_NoFit => k_is); (case gg_NoFit => k_is); (case kC_NoFit => k_is); (case eC_NoFit => k_is); (case tC_NoFit => k_is); (case hC_NoFit => k_is); (case iC_NoFit => k_is); (case sC_NoFit => first | rfl | k_is); (case wa_NoFit => k_is); (case wm_NoFit => k_is); (case no_NoFit_number => k_is); (case ia_NoFit => k_is); (case it_NoFit => k_is); (case il_NoFit => k_is); (case ic_NoFit => k_is); (case ik_NoFit => k_is); (case hn => k_is); (case ht => k_is); (case iC_LoftError => k_is); (case tC_LoftError => k_is); (case sk_NoFit_LoftError => first | rfl | k_is); (case iC_NoText => k_is); (case tC_NoText => k_is); (case sk_NoFit_NoText => first | rfl | k_is); (case y_range => k_is); (case y_str => k_is); (case y_abs => k_is); (case y_len => k_is); (case y_max => k_is); (case y_min => k_is); (case y_int => k_is); (case y_isinstance => k_is)
