import PyProof.Rows.All
import Wide.All
import OpenK.AllK
import Wide.FinOn
import HandS.Evl
import HandS.AnyAll
import HandS.NestedK
import HandS.ExcValue
import HandS.ForMost
import HandS.Wide
import HandS.WideMore
import HandS.Exc
import HandS.ExcOwn
import HandS.WordsExc
import HandS.NoneIn
import HandS.Style
import HandS.TupAny
import HandS.IsInst
import HandS.Zip
import HandS.Conv
import HandS.ExcInit
import HandS.ExcField
import HandS.ExcIs
import HandS.CallSlots
import HandS.ExcCtx
import HandS.RaiseMore
import KE.KExcIs
import HandS.Text
import HandS.More
import KE.GoesEnum
import KE.KDictZip
import HandS.StrMore
import HandS.WideBits
import HandS.FStr
import HandS.Small
import PyProof.FString3
import PyProof.Rows.StrIntSpec
import KE.GoesMore
import KE.DatumOrd
import HandS.TupMul
import PyProof.ExcBaseAll.ValueError
import HandS.HotCalls
import HandS.EndTab
import HandS.Star
import HandS.Replace
import HandS.Comp
import HandS.CallLocal
import PyProof.IsRules
import HandS.GenOver
import PySem.Challenge.RW_tensloft_k80_tries_looked_at
set_option Elab.async false
set_option linter.all false
set_option maxRecDepth 100000
set_option maxHeartbeats 4000000
/-! What is kept between two heaps where tables of code may have grown. -/
namespace Tl
open PySem PySem.Spec PyProof.Rows L2

/-- no table -/
def NT (u : HO) : Prop := ∀ q, u ≠ .tbl q
structure Ex (H H' : Hp) : Prop where
  k : ∀ a u, H a = some u → NT u → H' a = some u
  t : ∀ a q, H a = some (.tbl q) → ∃ q', H' a = some (.tbl q') ∧ (TriplesOk q.toList → TriplesOk q'.toList)
theorem Ex.app {H H' : Hp} (e : Ex H H') (a : Addr) (u : HO) (h : H a = some u) (n : NT u := by first | assumption | (intro _ zz; cases zz)) : H' a = some u := e.k a u h n
instance {H H' : Hp} : CoeFun (Ex H H') fun _ => ∀ (a : Addr) (u : HO) (h : H a = some u) (n : NT u := by first | assumption | (intro _ zz; cases zz)), H' a = some u := ⟨@Ex.app H H'⟩
section
variable {H H' H1 H2 : Hp} {K : PySem.W.Frag} {p : Addr} {o u : HO}
theorem exI (h : ∀ a u, H a = some u → H' a = some u) : Ex H H' := ⟨fun a u e _ => h a u e, fun a q e => ⟨q, h a _ e, fun z => z⟩⟩
theorem Ex.refl (H : Hp) : Ex H H := exI fun _ _ z => z
theorem Ex.trans (a : Ex H H1) (b : Ex H1 H2) : Ex H H2 :=
  ⟨fun x u h n => b.k x u (a.k x u h n) n, fun x q h => by
    obtain ⟨q1, h1, t1⟩ := a.t x q h
    obtain ⟨q2, h2, t2⟩ := b.t x q1 h1
    exact ⟨q2, h2, fun z => t2 (t1 z)⟩⟩
theorem Ex.new (h : H p = none) : Ex H (upd H p o) := exI fun _ _ z => (upd_ne (ne_of_none z h)).trans z
/-- what H knows not may change -/
theorem Ex.mut (e : Ex H H') (h : H p = none) : Ex H (upd H' p o) :=
  ⟨fun a u z n => (upd_ne (ne_of_none z h)).trans (e.k a u z n), fun a q z => by
    obtain ⟨q', h1, t1⟩ := e.t a q z
    exact ⟨q', (upd_ne (ne_of_none z h)).trans h1, t1⟩⟩
/-- a thing that H' has comes in -/
theorem Ex.ins (e : Ex H H') (h : H' p = some o) (n : NT o) : Ex (upd H p o) H' := by
  refine ⟨fun a u z m => ?_, fun a q z => ?_⟩
  · by_cases c : a = p
    · subst c; rw [upd_same] at z; cases z; exact h
    · rw [upd_ne c] at z; exact e.k a u z m
  · by_cases c : a = p
    · subst c; rw [upd_same] at z; cases z; exact absurd rfl (n q)
    · rw [upd_ne c] at z; exact e.t a q z
/-- by cases of the place: e tells of all but where P holds, there no thing of H stands -/
theorem Ex.but (e : Ex H H') (hp : ∀ a, H a ≠ none → H2 a = H' a) : Ex H H2 := by
  refine ⟨fun a u z m => ?_, fun a q z => ?_⟩
  · rw [hp a (by rw [z]; simp)]; exact e.k a u z m
  · rw [hp a (by rw [z]; simp)]; exact e.t a q z
theorem Ex.del (e : Ex H H') (h : H p = none) : Ex H (delH H' p) := e.but fun a z => delH_ne fun c => z (by rw [c]; exact h)
theorem Ex.del2 (e : Ex (delH H p) H') : Ex (delH H p) (delH H' p) := e.del delH_same
theorem Ex.delB (e : Ex (delH H p) (delH H' p)) (h : H p = some o) : Ex H (upd H' p o) := by
  refine ⟨fun a u z m => ?_, fun a q z => ?_⟩
  · by_cases c : a = p
    · subst c; rw [h] at z; cases z; exact upd_same
    · have w := e.k a u (by rw [delH_ne c]; exact z) m
      rw [delH_ne c] at w
      rw [upd_ne c]; exact w
  · by_cases c : a = p
    · subst c; rw [h] at z; cases z; exact ⟨q, upd_same, fun z => z⟩
    · obtain ⟨q', w, t⟩ := e.t a q (by rw [delH_ne c]; exact z)
      rw [delH_ne c] at w
      exact ⟨q', by rw [upd_ne c]; exact w, t⟩
theorem Ex.tab (e : Ex H H') (h : GxR.TabG H p) : GxR.TabG H' p := by
  obtain ⟨q, h1, h2⟩ := h
  obtain ⟨q', h3, h4⟩ := e.t p q h1
  exact ⟨q', h3, h4 h2⟩
theorem Ex.tabbed (h : GxR.Tabbed p H H') (n : GxR.TabG H p) : Ex H H' := by
  obtain ⟨q0, n0, _⟩ := n
  obtain ⟨⟨q1, h1, t1⟩, hb⟩ := h
  refine ⟨fun a u z m => ?_, fun a q z => ?_⟩
  · by_cases c : a = p
    · subst c; rw [n0] at z; cases z; exact absurd rfl (m q0)
    · rw [hb a c]; exact z
  · by_cases c : a = p
    · subst c; exact ⟨q1, h1, fun _ => t1⟩
    · exact ⟨q, (hb a c).trans z, fun z => z⟩
theorem ex_rd (e : Ex H H') (n : NT u) (nf : ∀ ob, NT (.frz ob u)) (h : Rd H p u) : Rd H' p u := by
  rcases h with h | ⟨ob, h⟩
  · exact .inl (e.k _ _ h n)
  · exact .inr ⟨ob, e.k _ _ h (nf ob)⟩
theorem ex_l {xs : List V} (e : Ex H H') (h : SqL K H p xs) : SqL K H' p xs := h.imp (fun r => ex_rd e (by first | assumption | (intro _ zz; cases zz)) (fun _ => by first | assumption | (intro _ zz; cases zz)) r) fun r => r
theorem ex_t {xs : List V} (e : Ex H H') (h : SqT K H p xs) : SqT K H' p xs := h.imp (fun r => ex_rd e (by first | assumption | (intro _ zz; cases zz)) (fun _ => by first | assumption | (intro _ zz; cases zz)) r) fun r => r
theorem fresh_back (e : Ex H H') (h : H' p = none) : H p = none := by
  cases q : H p with
  | none => rfl
  | some u =>
    by_cases n : NT u
    · rw [e.k p u q n] at h; cases h
    · have n' : ∃ r, u = .tbl r := Classical.byContradiction fun z => n fun r c => z ⟨r, c⟩
      obtain ⟨r, rfl⟩ := n'
      obtain ⟨q', h1, _⟩ := e.t p r q
      rw [h1] at h; cases h

/-! ### readings, as HandS.Evl has them -/
def Ev (te : TE) (σ : L2.St) (H : Hp) (v : V) : Prop := ∀ G, Ex H G → ∀ Q : VK, (∀ G2, Ex G G2 → Q v G2) → te σ G Q
def EvT (tt : TT) (σ : L2.St) (H : Hp) (b : Bool) : Prop := ∀ G, Ex H G → ∀ Q : Bool → Hp → Prop, (∀ G2, Ex G G2 → Q b G2) → tt σ G Q
def EvO (to : TO) (σ : L2.St) (H : Hp) (o : Option Int) : Prop := ∀ G, Ex H G → ∀ Q : Option Int → Hp → Prop, (∀ G2, Ex G G2 → Q o G2) → to σ G Q
def RVx (r : R2) (x y : V) (H : Hp) (z : V) : Prop := ∀ G, Ex H G → ∀ Q : VK, (∀ G2, Ex G G2 → Q z G2) → r x y G Q
variable {σ : L2.St} {ta tb te : TE} {t : TT} {x y z v : V} {r : R2}
theorem ev_op (ha : Ev ta σ H x) (hb : Ev tb σ H y) (hr : RVx r x y H z) : Ev (tOp r ta tb) σ H z := by
  intro G e Q q
  refine ha G e _ fun G2 e2 => hb G2 (e.trans e2) _ fun G3 e3 => ?_
  exact hr G3 (e.trans (e2.trans e3)) Q fun G4 e4 => q G4 (e2.trans (e3.trans e4))
theorem ev_neg {i : Int} (ha : Ev ta σ H (.int i)) : Ev (tUn (rU fun i => .int (-i)) ta) σ H (.int (-i)) := by
  intro G e Q q
  exact ha G e _ fun G2 e2 => ⟨i, rfl, q G2 e2⟩
theorem rv_I {C : Int → Int → Prop} {g : Int → Int → V} {i j : Int} (hc : C i j) : RVx (rI C g) (.int i) (.int j) H (g i j) := by
  intro G _ Q q
  exact ⟨i, j, rfl, rfl, hc, q G (Ex.refl G)⟩
theorem rv_ixS {w : Str} {i : Int} {c : Nat} (h : w.length ≤ 100000) (ha : atI w.cps.toList i = some c) : RVx rIxS (.str w) (.int i) H (.str ⟨#[c]⟩) := by
  intro G _ Q q
  exact ⟨w, i, c, rfl, rfl, Evl.sz_of h, ha, q G (Ex.refl G)⟩
theorem rv_val (h : ∀ G, Ex H G → ∀ Q : VK, Q z G → r x y G Q) : RVx r x y H z := by
  intro G e Q q
  exact h G e Q (q G (Ex.refl G))
theorem et_test {b : Bool} (h : Ev te σ H (.bl b)) : EvT (tTest te) σ H b := by
  intro G e Q q
  exact h G e _ fun G2 e2 => ⟨b, rfl, q G2 e2⟩
theorem et_B {b : Bool} (h : Ev te σ H (.bl b)) : EvT (tB te) σ H b := by
  intro G e Q q
  exact h G e _ fun G2 e2 => ⟨b, rfl, q G2 e2⟩
theorem et_not {b : Bool} (h : EvT t σ H b) : EvT (tNot t) σ H (!b) := by
  intro G e Q q
  exact h G e _ fun G2 e2 => q G2 e2
theorem eo_none : EvO tNoPart σ H none := by
  intro G _ Q q
  exact q G (Ex.refl G)
theorem eo_some {i : Int} (h : Ev te σ H (.int i)) : EvO (tPart te) σ H (some i) := by
  intro G e Q q
  exact h G e _ fun G2 e2 => ⟨i, rfl, q G2 e2⟩
end
/-! ### the tables of the defs that walk a generator -/
def GN : List Str := ["are_figures", "number_told", "same", "is_name"]
/-- the def x has its code at c, the table of c stands at P -/
def TabP (K : PySem.W.Frag) (mg : Str → Option Value) (x : Str) (c P : Addr) : Prop :=
  x ∈ GN ∧ ∃ (f : Addr) (oc : Value) (od : Option Addr) (fd : FuncData) (osl : Array (Option Value)), mg x = some (.ref f) ∧ K.lookup f = some ⟨oc, od, .func fd, osl⟩ ∧ fd.code = .ref c ∧ PySem.W.codeHdIn K c P = true
def Tbs (K : PySem.W.Frag) (mg : Str → Option Value) (H : Hp) : Prop := ∀ x c P, TabP K mg x c P → GxR.TabG H P
theorem Tbs.ex {K : PySem.W.Frag} {mg : Str → Option Value} {H H' : Hp} (t : Tbs K mg H) (e : Ex H H') : Tbs K mg H' := fun x c P h => e.tab (t x c P h)
theorem Tbs.del {K : PySem.W.Frag} {mg : Str → Option Value} {H : Hp} {a : Addr} {o : HO} (t : Tbs K mg H) (h : H a = some o) (n : NT o) : Tbs K mg (delH H a) := fun x c P hp => by
  obtain ⟨q, h1, h2⟩ := t x c P hp
  refine ⟨q, ?_, h2⟩
  rw [delH_ne fun z => ?_]
  · exact h1
  · rw [z, h] at h1; cases h1; exact n q rfl
structure Ex0 (K : PySem.W.Frag) (mg : Str → Option Value) (H B : Hp) : Prop where
  ex : Ex H B
  tb : Tbs K mg B
theorem Ex0.trans {K : PySem.W.Frag} {mg : Str → Option Value} {H B C : Hp} (a : Ex0 K mg H B) (b : Ex B C) : Ex H C := a.ex.trans b
theorem Ex0.up {K : PySem.W.Frag} {mg : Str → Option Value} {H B C : Hp} (a : Ex0 K mg H B) (b : Ex B C) : Ex0 K mg H C := ⟨a.ex.trans b, a.tb.ex b⟩
end Tl

/-! A layer over the hand layer: programs over plain data as functions. -/
namespace Tl
open PySem PySem.Spec PyProof.Rows L2 Evl

inductive D where
  | non | bl (b : Bool) | int (i : Int) | str (x : Str) | tup (xs : List D) | dic (kvs : List (Str × D))
instance : Inhabited D := ⟨.non⟩

mutual
inductive Den (K : PySem.W.Frag) (H : Hp) : V → D → Prop
  | non : Den K H .non .non
  | bl (b : Bool) : Den K H (.bl b) (.bl b)
  | int (i : Int) : Den K H (.int i) (.int i)
  | str (x : Str) : Den K H (.str x) (.str x)
  | tup {a : Addr} {xs : List V} {ds : List D} : SqT K H a xs → DenL K H xs ds → Den K H (.ref a) (.tup ds)
  | dic {a : Addr} {kvs : List (Key × V)} {ds : List (Str × D)} : H a = some (.dK kvs) → DenKV K H kvs ds → Den K H (.ref a) (.dic ds)
inductive DenL (K : PySem.W.Frag) (H : Hp) : List V → List D → Prop
  | nil : DenL K H [] []
  | cons {v : V} {vs : List V} {d : D} {ds : List D} : Den K H v d → DenL K H vs ds → DenL K H (v :: vs) (d :: ds)
inductive DenKV (K : PySem.W.Frag) (H : Hp) : List (Key × V) → List (Str × D) → Prop
  | nil : DenKV K H [] []
  | cons {x : Str} {v : V} {kvs : List (Key × V)} {d : D} {ds : List (Str × D)} : Den K H v d → DenKV K H kvs ds → DenKV K H ((.inr x, v) :: kvs) ((x, d) :: ds)
end

/-- all tuples and dicts stay -/
structure TEx (K : PySem.W.Frag) (H H' : Hp) : Prop where
  t : ∀ a xs, SqT K H a xs → SqT K H' a xs
  d : ∀ a kvs, H a = some (.dK kvs) → H' a = some (.dK kvs)
section
variable {K : PySem.W.Frag} {H H' H1 H2 H3 : Hp}
theorem TEx.of (e : Ex H H') : TEx K H H' := ⟨fun _ _ h => ex_t e h, fun _ _ h => e _ _ h⟩
theorem TEx.refl : TEx K H H := ⟨fun _ _ h => h, fun _ _ h => h⟩
theorem TEx.trans (a : TEx K H H1) (b : TEx K H1 H2) : TEx K H H2 := ⟨fun x y h => b.t x y (a.t x y h), fun x y h => b.d x y (a.d x y h)⟩
theorem TEx.mut {a : Addr} {xs ys : List V} (h : H a = some (.lst xs)) : TEx K H (upd H a (.lst ys)) := by
  refine ⟨fun b zs hb => ?_, fun b kvs hb => ?_⟩
  · rcases hb with (hb | ⟨o, hb⟩) | hb
    · have ne : b ≠ a := ne_of hb h (by intro z; cases z)
      exact .inl (.inl (by rw [upd_ne ne]; exact hb))
    · have ne : b ≠ a := ne_of hb h (by intro z; cases z)
      exact .inl (.inr ⟨o, by rw [upd_ne ne]; exact hb⟩)
    · exact .inr hb
  · have ne : b ≠ a := ne_of hb h (by intro z; cases z)
    rw [upd_ne ne]; exact hb
mutual
theorem Den.imp (e : TEx K H H') : ∀ {v : V} {d : D}, Den K H v d → Den K H' v d
  | _, _, .non => .non
  | _, _, .bl b => .bl b
  | _, _, .int i => .int i
  | _, _, .str x => .str x
  | _, _, .tup h hl => .tup (e.t _ _ h) (DenL.imp e hl)
  | _, _, .dic h hl => .dic (e.d _ _ h) (DenKV.imp e hl)
theorem DenL.imp (e : TEx K H H') : ∀ {vs : List V} {ds : List D}, DenL K H vs ds → DenL K H' vs ds
  | _, _, .nil => .nil
  | _, _, .cons h hl => .cons (Den.imp e h) (DenL.imp e hl)
theorem DenKV.imp (e : TEx K H H') : ∀ {vs : List (Key × V)} {ds : List (Str × D)}, DenKV K H vs ds → DenKV K H' vs ds
  | _, _, .nil => .nil
  | _, _, .cons h hl => .cons (Den.imp e h) (DenKV.imp e hl)
end
theorem DenKV.get : ∀ {kvs : List (Key × V)} {ds : List (Str × D)} {x : Str} {d : D}, DenKV K H kvs ds → ds.lookup x = some d → ∃ v, valV kvs (.inr x) = some v ∧ Den K H v d
  | _, _, _, _, .nil, e => by cases e
  | _, _, x, d, .cons (x := y) h t, e => by
    rw [List.lookup_cons] at e
    by_cases q : x = y
    · subst q
      rw [beq_self_eq_true] at e
      cases e
      exact ⟨_, valV_pos rfl, h⟩
    · rw [beq_eq_false_iff_ne.mpr q] at e
      obtain ⟨v, h1, h2⟩ := DenKV.get t e
      exact ⟨v, by rw [valV_neg (fun z => q (by cases z; rfl))]; exact h1, h2⟩
theorem Den.ex (h : Den K H v d) (e : Ex H H') : Den K H' v d := h.imp (.of e)
theorem DenL.ex (h : DenL K H vs ds) (e : Ex H H') : DenL K H' vs ds := h.imp (.of e)
theorem DenL.length : ∀ {vs : List V} {ds : List D}, DenL K H vs ds → vs.length = ds.length
  | _, _, .nil => rfl
  | _, _, .cons _ h => congrArg (· + 1) h.length
theorem DenL.get : ∀ {vs : List V} {ds : List D} {i : Nat} {d : D}, DenL K H vs ds → ds[i]? = some d → ∃ v, vs[i]? = some v ∧ Den K H v d
  | _, _, _, _, .nil, e => by simp at e
  | _, _, 0, _, .cons h _, e => ⟨_, rfl, by cases Option.some.inj e; exact h⟩
  | _, _, i + 1, _, .cons _ h, e => by
    obtain ⟨v, h1, h2⟩ := DenL.get (i := i) h (by simpa using e)
    exact ⟨v, by simpa using h1, h2⟩
theorem DenL.getV : ∀ {vs : List V} {ds : List D} {i : Nat} {v : V}, DenL K H vs ds → vs[i]? = some v → ∃ d, ds[i]? = some d ∧ Den K H v d
  | _, _, _, _, .nil, e => by simp at e
  | _, _, 0, _, .cons h _, e => ⟨_, rfl, by cases Option.some.inj e; exact h⟩
  | _, _, i + 1, _, .cons _ h, e => by
    obtain ⟨v, h1, h2⟩ := DenL.getV (i := i) h (by simpa using e)
    exact ⟨v, by simpa using h1, h2⟩
theorem DenL.append : ∀ {vs ws : List V} {ds es : List D}, DenL K H vs ds → DenL K H ws es → DenL K H (vs ++ ws) (ds ++ es)
  | _, _, _, _, .nil, s => s
  | _, _, _, _, .cons h t, s => .cons h (DenL.append t s)
theorem DenL.take : ∀ {vs : List V} {ds : List D} (n : Nat), DenL K H vs ds → DenL K H (vs.take n) (ds.take n)
  | _, _, 0, _ => .nil
  | _, _, _ + 1, .nil => .nil
  | _, _, n + 1, .cons h t => .cons h (DenL.take n t)
theorem DenL.drop : ∀ {vs : List V} {ds : List D} (n : Nat), DenL K H vs ds → DenL K H (vs.drop n) (ds.drop n)
  | _, _, 0, r => r
  | _, _, _ + 1, .nil => .nil
  | _, _, n + 1, .cons _ t => DenL.drop n t
theorem DenL.reverse : ∀ {vs : List V} {ds : List D}, DenL K H vs ds → DenL K H vs.reverse ds.reverse
  | _, _, .nil => .nil
  | _, _, .cons h t => by
    rw [List.reverse_cons, List.reverse_cons]
    exact DenL.append (DenL.reverse t) (.cons h .nil)
theorem DenL.set : ∀ {vs : List V} {ds : List D} {v : V} {d : D} (i : Nat), DenL K H vs ds → Den K H v d → DenL K H (vs.set i v) (ds.set i d)
  | _, _, _, _, _, .nil, _ => .nil
  | _, _, _, _, 0, .cons _ t, h => .cons h t
  | _, _, _, _, i + 1, .cons q t, h => .cons q (DenL.set i t h)
theorem DenL.rep : ∀ {vs : List V} {ds : List D} (k : Nat), DenL K H vs ds → DenL K H (List.replicate k vs).flatten (List.replicate k ds).flatten
  | _, _, 0, _ => .nil
  | vs, ds, k + 1, h => by
    rw [List.replicate_succ, List.replicate_succ, List.flatten_cons, List.flatten_cons]
    exact DenL.append h (DenL.rep k h)
theorem DenL.ints : ∀ {vs : List V} {ns : List Int}, DenL K H vs (ns.map D.int) → vs = ns.map V.int
  | _, [], h => by cases h; rfl
  | _, _ :: _, h => by
    cases h with
    | cons h t => cases h; rw [DenL.ints t]; rfl
theorem DenL.of_ints : ∀ (ns : List Int), DenL K H (ns.map V.int) (ns.map D.int)
  | [] => .nil
  | n :: ns => .cons (.int n) (DenL.of_ints ns)
theorem DenL.bls : ∀ {vs : List V} {ns : List Bool}, DenL K H vs (ns.map D.bl) → vs = ns.map V.bl
  | _, [], h => by cases h; rfl
  | _, _ :: _, h => by
    cases h with
    | cons h t => cases h; rw [DenL.bls t]; rfl
theorem DenL.strs : ∀ {vs : List V} {ns : List Str}, DenL K H vs (ns.map D.str) → vs = ns.map V.str
  | _, [], h => by cases h; rfl
  | _, _ :: _, h => by
    cases h with
    | cons h t => cases h; rw [DenL.strs t]; rfl
end

/-! ### results, slots -/
inductive R where
  | dat (d : D) | lst (xs : List D) | new (xs : List D) | ro (xs : List D)
inductive C where
  | un | dat (d : D) | own (xs : List D) | bor (xs : List D) | exc (c : Str) (fs : List (Str × D)) | fn (x : Str)
abbrev Rho := List C
abbrev ME := Rho → Option R
abbrev MT := Rho → Option Bool
abbrev MA := Rho → Option (List R)

inductive FldL (K : PySem.W.Frag) (H : Hp) : List (Str × V) → List (Str × D) → Prop
  | nil : FldL K H [] []
  | cons {f : Str} {v : V} {d : D} {fs : List (Str × V)} {gs : List (Str × D)} : Den K H v d → FldL K H fs gs → FldL K H ((f, v) :: fs) ((f, d) :: gs)
theorem FldL.imp {K : PySem.W.Frag} {H H' : Hp} (e : TEx K H H') : ∀ {fs : List (Str × V)} {gs : List (Str × D)}, FldL K H fs gs → FldL K H' fs gs
  | _, _, .nil => .nil
  | _, _, .cons h t => .cons (h.imp e) (t.imp e)
theorem FldL.ex {K : PySem.W.Frag} {H H' : Hp} {fs : List (Str × V)} {gs : List (Str × D)} (h : FldL K H fs gs) (e : Ex H H') : FldL K H' fs gs := h.imp (.of e)
/-- where an exception stands that is held: in the suite that caught it (or in a def that is handed it there) -/
def AtE (X : Cx) (_ : Hp) (a : Addr) (oe : Obj) : Prop := ∃ pn, X.pn = (a, oe) :: pn
theorem AtE.ex {X : Cx} {B B' : Hp} {a : Addr} {oe : Obj} (h : AtE X B a oe) (_ : Ex B B') : AtE X B' a oe := h
/-- its fields -/
def DicE (K : PySem.W.Frag) (B H : Hp) (oe : Obj) (fs : List (Str × D)) : Prop := (∃ dd gs, oe.dict = some dd ∧ B dd = some (.xd gs) ∧ FldL K H gs fs) ∨ (oe.dict = none ∧ fs = [])
theorem DicE.imp {K : PySem.W.Frag} {B B' H H' : Hp} {oe : Obj} {fs : List (Str × D)} (h : DicE K B H oe fs) (e : Ex B B') (t : TEx K H H') : DicE K B' H' oe fs := by
  rcases h with ⟨dd, gs, h1, h2, h3⟩ | h
  · exact .inl ⟨dd, gs, h1, e _ _ h2, h3.imp t⟩
  · exact .inr h
/-- an exception, as a slot has it -/
def ExcAt (X : Cx) (B H : Hp) (ov : Option (Option V)) (c : Str) (fs : List (Str × D)) : Prop :=
  ∃ (a : Addr) (oe : Obj) (C : Addr), ov = some (some (.ref a)) ∧ oe.cls = .ref C ∧ X.mg c = some (.ref C) ∧ (∃ vs, oe.data = .fields vs) ∧ AtE X B a oe ∧ DicE X.K B H oe fs
def SlotOk (X : Cx) (B H : Hp) (ov : Option (Option V)) : C → Prop
  | .un => True
  | .dat d => ∃ v, ov = some (some v) ∧ Den X.K H v d
  | .own xs => ∃ a vs, ov = some (some (.ref a)) ∧ B a = none ∧ H a = some (.lst vs) ∧ DenL X.K H vs xs
  | .bor xs => ∃ a vs, ov = some (some (.ref a)) ∧ SqL X.K B a vs ∧ DenL X.K H vs xs
  | .exc c fs => ExcAt X B H ov c fs
  | .fn x => ∃ f, ov = some (some (.ref f)) ∧ X.mg x = some (.ref f)
structure OkB (X : Cx) (H0 B : Hp) (σ : L2.St) (H : Hp) (ρ : Rho) : Prop where
  e0 : Ex0 X.K X.mg H0 B
  e1 : Ex B H
  len : ρ.length = σ.length
  slot : ∀ (i : Nat) (c : C), ρ[i]? = some c → SlotOk X B H σ[i]? c
  inj : ∀ (i j : Nat) (xs ys : List D) (a : Addr), ρ[i]? = some (.own xs) → ρ[j]? = some (.own ys) → σ[i]? = some (some (.ref a)) → σ[j]? = some (some (.ref a)) → i = j
def Ok (X : Cx) (H0 : Hp) (σ : L2.St) (H : Hp) (ρ : Rho) : Prop := ∃ B, OkB X H0 B σ H ρ

section
variable {X : Cx} {H0 H H1 H2 B : Hp} {σ : L2.St} {ρ : Rho}
theorem SlotOk.ex {ov : Option (Option V)} : ∀ {c : C}, SlotOk X B H ov c → Ex H H1 → SlotOk X B H1 ov c
  | .un, _, _ => trivial
  | .dat _, ⟨v, h, d⟩, e => ⟨v, h, d.ex e⟩
  | .own _, ⟨a, vs, h, f, l, d⟩, e => ⟨a, vs, h, f, e _ _ l, d.ex e⟩
  | .bor _, ⟨a, vs, h, l, d⟩, e => ⟨a, vs, h, l, d.ex e⟩
  | .exc _ _, ⟨a, oe, C, h1, h2, h3, h4, h5, h6⟩, e => ⟨a, oe, C, h1, h2, h3, h4, h5, h6.imp (Ex.refl _) (.of e)⟩
  | .fn _, z, _ => z
theorem Ok.ex (h : Ok X H0 σ H ρ) (e : Ex H H1) : Ok X H0 σ H1 ρ := by
  obtain ⟨B, h⟩ := h
  exact ⟨B, h.e0, h.e1.trans e, h.len, fun i c hi => (h.slot i c hi).ex e, h.inj⟩
theorem Ok.base (h : Ok X H0 σ H ρ) : Ex H0 H := by
  obtain ⟨B, h⟩ := h
  exact h.e0.trans h.e1
theorem Ok.tbs (h : Ok X H0 σ H ρ) : Tbs X.K X.mg H := by
  obtain ⟨B, h⟩ := h
  exact h.e0.tb.ex h.e1
theorem get_set_eq {α : Type} {l : List α} {i : Nat} {x y : α} (h : (l.set i x)[i]? = some y) : y = x := by
  rw [List.getElem?_set] at h
  simp only [if_true] at h
  split at h
  · exact (Option.some.inj h).symm
  · cases h
theorem lt_of_get {α : Type} {l : List α} {i : Nat} {y : α} (h : l[i]? = some y) : i < l.length := (List.getElem?_eq_some_iff.mp h).1
theorem set_get {α : Type} {l : List α} {i : Nat} {x : α} (h : i < l.length) : (l.set i x)[i]? = some x := by
  rw [List.getElem?_set_self h]
/-- a slot gets plain data -/
theorem Ok.set {i : Nat} {v : V} {d : D} (h : Ok X H0 σ H ρ) (hv : Den X.K H v d) : Ok X H0 (σ.set i (some v)) H (ρ.set i (.dat d)) := by
  obtain ⟨B, h⟩ := h
  refine ⟨B, h.e0, h.e1, by rw [List.length_set, List.length_set]; exact h.len, fun j c hj => ?_, fun j k xs ys a hj hk sj sk => ?_⟩
  · by_cases e : i = j
    · subst e
      have hl := lt_of_get hj
      rw [List.length_set, h.len] at hl
      rw [get_set_eq hj]
      exact ⟨v, set_get hl, hv⟩
    · rw [List.getElem?_set_ne e] at hj ⊢
      exact h.slot j c hj
  · have nj : i ≠ j := fun e => by subst e; exact absurd (get_set_eq hj) (by intro z; cases z)
    have nk : i ≠ k := fun e => by subst e; exact absurd (get_set_eq hk) (by intro z; cases z)
    rw [List.getElem?_set_ne nj] at hj sj
    rw [List.getElem?_set_ne nk] at hk sk
    exact h.inj j k xs ys a hj hk sj sk
/-- a slot gets a new list -/
theorem Ok.setL {i : Nat} {a : Addr} {vs : List V} {xs : List D} (h : Ok X H0 σ H1 ρ) (e : Ex H1 H) (ha : H1 a = none) (hl : H a = some (.lst vs)) (hv : DenL X.K H vs xs) : Ok X H0 (σ.set i (some (.ref a))) H (ρ.set i (.own xs)) := by
  obtain ⟨B, h⟩ := h
  have old : ∀ (j : Nat) (zs : List D) (b : Addr), ρ[j]? = some (.own zs) → σ[j]? = some (some (.ref b)) → b ≠ a := fun j zs b hj sj => by
    obtain ⟨a', vs', s', _, l', _⟩ := h.slot j _ hj
    rw [s'] at sj
    cases sj
    exact ne_of_none l' ha
  refine ⟨B, h.e0, h.e1.trans e, by rw [List.length_set, List.length_set]; exact h.len, fun j c hj => ?_, fun j k xs ys b hj hk sj sk => ?_⟩
  · by_cases q : i = j
    · subst q
      have hl' := lt_of_get hj
      rw [List.length_set, h.len] at hl'
      rw [get_set_eq hj]
      exact ⟨a, vs, set_get hl', fresh_back h.e1 ha, hl, hv⟩
    · rw [List.getElem?_set_ne q] at hj ⊢
      exact (h.slot j c hj).ex e
  · by_cases qj : i = j
    · by_cases qk : i = k
      · exact qj.symm.trans qk
      · subst qj
        have hl' := lt_of_get hj
        rw [List.length_set, h.len] at hl'
        rw [set_get hl'] at sj
        cases sj
        rw [List.getElem?_set_ne qk] at hk sk
        exact absurd rfl (old k _ _ hk sk)
    · by_cases qk : i = k
      · subst qk
        have hl' := lt_of_get hk
        rw [List.length_set, h.len] at hl'
        rw [set_get hl'] at sk
        cases sk
        rw [List.getElem?_set_ne qj] at hj sj
        exact absurd rfl (old j _ _ hj sj)
      · rw [List.getElem?_set_ne qj] at hj sj
        rw [List.getElem?_set_ne qk] at hk sk
        exact h.inj j k _ _ b hj hk sj sk
/-- an own list is changed -/
theorem Ok.mut {i : Nat} {a : Addr} {us vs : List V} {xs ys : List D} (h : Ok X H0 σ H ρ) (hi : ρ[i]? = some (.own xs)) (si : σ[i]? = some (some (.ref a))) (hu : H a = some (.lst us)) (hv : DenL X.K H vs ys) : Ok X H0 σ (upd H a (.lst vs)) (ρ.set i (.own ys)) := by
  obtain ⟨B, h⟩ := h
  obtain ⟨a', vs', s', f', l', d'⟩ := h.slot i _ hi
  rw [s'] at si
  cases si
  have t : TEx X.K H (upd H a (.lst vs)) := TEx.mut hu
  refine ⟨B, h.e0, h.e1.mut f', by rw [List.length_set]; exact h.len, fun j c hj => ?_, fun j k zs ws b hj hk sj sk => ?_⟩
  · by_cases q : i = j
    · subst q
      rw [get_set_eq hj]
      exact ⟨a, vs, s', f', upd_same, hv.imp t⟩
    · rw [List.getElem?_set_ne q] at hj
      have z := h.slot j c hj
      cases c with
      | un => trivial
      | dat d =>
        obtain ⟨v, z1, z2⟩ := z
        exact ⟨v, z1, z2.imp t⟩
      | own zs =>
        obtain ⟨b, ws, z1, z2, z3, z4⟩ := z
        have ne : b ≠ a := fun e => by
          subst e
          exact q (h.inj i j _ _ _ hi hj s' z1)
        exact ⟨b, ws, z1, z2, by rw [upd_ne ne]; exact z3, z4.imp t⟩
      | bor zs =>
        obtain ⟨b, ws, z1, z2, z4⟩ := z
        exact ⟨b, ws, z1, z2, z4.imp t⟩
      | exc c fs =>
        obtain ⟨a, oe, C, h1, h2, h3, h4, h5, h6⟩ := z
        exact ⟨a, oe, C, h1, h2, h3, h4, h5, h6.imp (Ex.refl _) t⟩
      | fn x => exact z
  · by_cases qj : i = j
    · by_cases qk : i = k
      · exact qj.symm.trans qk
      · subst qj
        rw [List.getElem?_set_ne qk] at hk
        exact h.inj i k _ _ b hi hk sj sk
    · by_cases qk : i = k
      · subst qk
        rw [List.getElem?_set_ne qj] at hj
        exact h.inj j i _ _ b hj hi sj sk
      · rw [List.getElem?_set_ne qj] at hj
        rw [List.getElem?_set_ne qk] at hk
        exact h.inj j k _ _ b hj hk sj sk
/-- an own list is let go: it is only read from here on -/
theorem Ok.frz {i : Nat} {xs : List D} (h : Ok X H0 σ H ρ) (hi : ρ[i]? = some (.own xs)) : Ok X H0 σ H (ρ.set i (.bor xs)) := by
  obtain ⟨B, h⟩ := h
  obtain ⟨a, vs, s', f', l', d'⟩ := h.slot i _ hi
  have eB : Ex B (upd B a (.lst vs)) := Ex.new f'
  refine ⟨upd B a (.lst vs), h.e0.up eB, h.e1.ins l' (by first | assumption | (intro _ zz; cases zz)), by rw [List.length_set]; exact h.len, fun j c hj => ?_, fun j k zs ws b hj hk sj sk => ?_⟩
  · by_cases q : i = j
    · subst q
      rw [get_set_eq hj]
      exact ⟨a, vs, s', sq_of upd_same, d'⟩
    · rw [List.getElem?_set_ne q] at hj
      have z := h.slot j c hj
      cases c with
      | un => trivial
      | dat d => exact z
      | own zs =>
        obtain ⟨b, ws, z1, z2, z3, z4⟩ := z
        have ne : b ≠ a := fun e => by
          subst e
          exact q (h.inj i j _ _ _ hi hj s' z1)
        exact ⟨b, ws, z1, by rw [upd_ne ne]; exact z2, z3, z4⟩
      | bor zs =>
        obtain ⟨b, ws, z1, z2, z4⟩ := z
        exact ⟨b, ws, z1, ex_l eB z2, z4⟩
      | exc c fs =>
        obtain ⟨a, oe, C, h1, h2, h3, h4, h5, h6⟩ := z
        exact ⟨a, oe, C, h1, h2, h3, h4, h5.ex eB, h6.imp eB .refl⟩
      | fn x => exact z
  · have nj : i ≠ j := fun e => by subst e; exact absurd (get_set_eq hj) (by intro z; cases z)
    have nk : i ≠ k := fun e => by subst e; exact absurd (get_set_eq hk) (by intro z; cases z)
    rw [List.getElem?_set_ne nj] at hj
    rw [List.getElem?_set_ne nk] at hk
    exact h.inj j k zs ws b hj hk sj sk
theorem Ok.un {i : Nat} {o : Option V} (h : Ok X H0 σ H ρ) : Ok X H0 (σ.set i o) H (ρ.set i .un) := by
  obtain ⟨B, h⟩ := h
  refine ⟨B, h.e0, h.e1, by rw [List.length_set, List.length_set]; exact h.len, fun j c hj => ?_, fun j k xs ys a hj hk sj sk => ?_⟩
  · by_cases e : i = j
    · subst e
      rw [get_set_eq hj]
      trivial
    · rw [List.getElem?_set_ne e] at hj ⊢
      exact h.slot j c hj
  · have nj : i ≠ j := fun e => by subst e; exact absurd (get_set_eq hj) (by intro z; cases z)
    have nk : i ≠ k := fun e => by subst e; exact absurd (get_set_eq hk) (by intro z; cases z)
    rw [List.getElem?_set_ne nj] at hj sj
    rw [List.getElem?_set_ne nk] at hk sk
    exact h.inj j k xs ys a hj hk sj sk
end

/-! ### expressions -/
def Got (K : PySem.W.Frag) (H1 : Hp) (v : V) (H2 : Hp) : R → Prop
  | .dat d => Den K H2 v d
  | .lst xs => ∃ a vs, v = .ref a ∧ H2 a = some (.lst vs) ∧ DenL K H2 vs xs
  | .new xs => ∃ a vs, v = .ref a ∧ H1 a = none ∧ H2 a = some (.lst vs) ∧ DenL K H2 vs xs
  | .ro xs => ∃ a vs, v = .ref a ∧ SqL K H2 a vs ∧ DenL K H2 vs xs
def EvR (K : PySem.W.Frag) (te : TE) (σ : L2.St) (H : Hp) (r : R) : Prop := ∀ H1, Ex H H1 → ∀ Q : VK, (∀ v H2, Ex H1 H2 → Got K H1 v H2 r → Q v H2) → te σ H1 Q
/-- arguments: each readable at the end -/
def ArgOk (K : PySem.W.Frag) (H : Hp) (v : V) : R → Prop
  | .dat d => Den K H v d
  | .lst xs => ∃ a vs, v = .ref a ∧ H a = some (.lst vs) ∧ DenL K H vs xs
  | .new xs => ∃ a vs, v = .ref a ∧ H a = some (.lst vs) ∧ DenL K H vs xs
  | .ro xs => ∃ a vs, v = .ref a ∧ SqL K H a vs ∧ DenL K H vs xs
inductive ArgL (K : PySem.W.Frag) (H : Hp) : List V → List R → Prop
  | nil : ArgL K H [] []
  | cons {v : V} {vs : List V} {r : R} {rs : List R} : ArgOk K H v r → ArgL K H vs rs → ArgL K H (v :: vs) (r :: rs)
def EvRs (K : PySem.W.Frag) (ta : TA) (σ : L2.St) (H : Hp) (rs : List R) : Prop := ∀ H1, Ex H H1 → ∀ Q : List V → Hp → Prop, (∀ vs H2, Ex H1 H2 → ArgL K H2 vs rs → Q vs H2) → ta σ H1 Q
/-- as a def takes it -/
def argN : R → R
  | .dat d => .dat d
  | .lst xs => .ro xs
  | .new xs => .ro xs
  | .ro xs => .ro xs
section
variable {K : PySem.W.Frag} {H H1 H2 H3 : Hp}
theorem ArgOk.ex {v : V} : ∀ {r : R}, ArgOk K H v r → Ex H H1 → ArgOk K H1 v r
  | .dat _, h, e => Den.ex h e
  | .lst _, ⟨a, vs, h, l, d⟩, e => ⟨a, vs, h, e _ _ l, d.ex e⟩
  | .new _, ⟨a, vs, h, l, d⟩, e => ⟨a, vs, h, e _ _ l, d.ex e⟩
  | .ro _, ⟨a, vs, h, l, d⟩, e => ⟨a, vs, h, ex_l e l, d.ex e⟩
theorem ArgL.ex : ∀ {vs : List V} {rs : List R}, ArgL K H vs rs → Ex H H1 → ArgL K H1 vs rs
  | _, _, .nil, _ => .nil
  | _, _, .cons h t, e => .cons (h.ex e) (ArgL.ex t e)
theorem Got.arg {v : V} : ∀ {r : R}, Got K H1 v H2 r → ArgOk K H2 v r
  | .dat _, h => h
  | .lst _, h => h
  | .ro _, h => h
  | .new _, ⟨a, vs, h, _, l, d⟩ => ⟨a, vs, h, l, d⟩
theorem Got.back {v : V} (e : Ex H1 H2) : ∀ {r : R}, Got K H2 v H3 r → Got K H1 v H3 r
  | .dat _, h => h
  | .lst _, h => h
  | .ro _, h => h
  | .new _, ⟨a, vs, h, n, l, d⟩ => ⟨a, vs, h, fresh_back e n, l, d⟩
theorem ArgOk.norm {v : V} : ∀ {r : R}, ArgOk K H v r → ArgOk K H v (argN r)
  | .dat _, h => h
  | .lst _, ⟨a, vs, h, l, d⟩ => ⟨a, vs, h, sq_of l, d⟩
  | .new _, ⟨a, vs, h, l, d⟩ => ⟨a, vs, h, sq_of l, d⟩
  | .ro _, h => h
theorem ArgL.norm : ∀ {vs : List V} {rs : List R}, ArgL K H vs rs → ArgL K H vs (rs.map argN)
  | _, _, .nil => .nil
  | _, _, .cons h t => .cons h.norm (ArgL.norm t)
theorem ArgL.length : ∀ {vs : List V} {rs : List R}, ArgL K H vs rs → vs.length = rs.length
  | _, _, .nil => rfl
  | _, _, .cons _ h => congrArg (· + 1) h.length
end

/-! ### what the mirrors read off results -/
def asInt : Option R → Option Int
  | some (.dat (.int i)) => some i
  | _ => none
def asStr : Option R → Option Str
  | some (.dat (.str i)) => some i
  | _ => none
def asBl : Option R → Option Bool
  | some (.dat (.bl i)) => some i
  | _ => none
def asTup : Option R → Option (List D)
  | some (.dat (.tup i)) => some i
  | _ => none
def asDat : Option R → Option D
  | some (.dat i) => some i
  | _ => none
def asLst : Option R → Option (List D)
  | some (.lst i) => some i
  | some (.new i) => some i
  | some (.ro i) => some i
  | _ => none
def asTrk : Option R → Option (List D)
  | some (.lst i) => some i
  | some (.new i) => some i
  | _ => none
theorem asInt_some {o : Option R} {i : Int} (h : asInt o = some i) : o = some (.dat (.int i)) := by
  unfold asInt at h
  split at h
  · cases h; rfl
  · cases h
theorem asStr_some {o : Option R} {i : Str} (h : asStr o = some i) : o = some (.dat (.str i)) := by
  unfold asStr at h
  split at h
  · cases h; rfl
  · cases h
theorem asBl_some {o : Option R} {i : Bool} (h : asBl o = some i) : o = some (.dat (.bl i)) := by
  unfold asBl at h
  split at h
  · cases h; rfl
  · cases h
theorem asTup_some {o : Option R} {i : List D} (h : asTup o = some i) : o = some (.dat (.tup i)) := by
  unfold asTup at h
  split at h
  · cases h; rfl
  · cases h
theorem asDat_some {o : Option R} {i : D} (h : asDat o = some i) : o = some (.dat i) := by
  unfold asDat at h
  split at h
  · cases h; rfl
  · cases h
section
variable {K : PySem.W.Frag} {te : TE} {σ : L2.St} {H : Hp} {o : Option R} {xs : List D}
/-- a list to be read -/
theorem ev_lst (h : asLst o = some xs) (hr : ∀ r, o = some r → EvR K te σ H r) : EvR K te σ H (.ro xs) := by
  unfold asLst at h
  split at h
  · cases h
    exact fun H1 e Q q => hr _ rfl H1 e Q fun v H2 e2 ⟨a, vs, h1, h2, h3⟩ => q v H2 e2 ⟨a, vs, h1, sq_of h2, h3⟩
  · cases h
    exact fun H1 e Q q => hr _ rfl H1 e Q fun v H2 e2 ⟨a, vs, h1, _, h2, h3⟩ => q v H2 e2 ⟨a, vs, h1, sq_of h2, h3⟩
  · cases h
    exact fun H1 e Q q => hr _ rfl H1 e Q q
  · cases h
theorem ev_trk (h : asTrk o = some xs) (hr : ∀ r, o = some r → EvR K te σ H r) : EvR K te σ H (.lst xs) := by
  unfold asTrk at h
  split at h
  · cases h
    exact fun H1 e Q q => hr _ rfl H1 e Q q
  · cases h
    exact fun H1 e Q q => hr _ rfl H1 e Q fun v H2 e2 ⟨a, vs, h1, _, h2, h3⟩ => q v H2 e2 ⟨a, vs, h1, h2, h3⟩
  · cases h
end

/-- e gives m -/
def JE (X : Cx) (e : Expr) (m : ME) : Prop := ∃ te, PE X e te ∧ ∀ H0 σ H ρ r, Ok X H0 σ H ρ → m ρ = some r → EvR X.K te σ H r
def JT (X : Cx) (e : Expr) (m : MT) : Prop := ∃ tt, PT X e tt ∧ ∀ H0 σ H ρ b, Ok X H0 σ H ρ → m ρ = some b → EvT tt σ H b
def JW (X : Cx) (e : Expr) (m : MT) : Prop := ∃ tt, PW X e tt ∧ ∀ H0 σ H ρ b, Ok X H0 σ H ρ → m ρ = some b → EvT tt σ H b
def JA (X : Cx) (es : List Expr) (m : MA) : Prop := ∃ ta, PA X es ta ∧ ∀ H0 σ H ρ rs, Ok X H0 σ H ρ → m ρ = some rs → EvRs X.K ta σ H rs

/-- a test that the kernel never runs -/
noncomputable def okP (p : Prop) : Bool := @decide p (Classical.propDecidable p)
theorem okP_of {p : Prop} (h : okP p = true) : p := @of_decide_eq_true p (Classical.propDecidable p) h
theorem okP_t {p : Prop} (h : p) : okP p = true := @decide_eq_true p (Classical.propDecidable p) h
theorem okP_f {p : Prop} (h : ¬ p) : okP p = false := @decide_eq_false p (Classical.propDecidable p) h
theorem okP_iff {p : Prop} : (okP p = true) = p := propext ⟨okP_of, okP_t⟩
theorem okP_iffF {p : Prop} : (okP p = false) = ¬ p := propext ⟨fun h q => Bool.noConfusion ((okP_t q).symm.trans h), okP_f⟩
theorem okP_eq {p : Prop} [Decidable p] : decide p = okP p := by
  by_cases h : p
  · rw [decide_eq_true h, okP_t h]
  · rw [decide_eq_false h, okP_f h]
noncomputable section
/-! ### the mirrors of expressions -/
def mVar (i : Nat) : ME := fun ρ => match ρ[i]? with
  | some (.dat d) => some (.dat d)
  | some (.own xs) => some (.lst xs)
  | some (.bor xs) => some (.ro xs)
  | _ => none
def mC (d : D) : ME := fun _ => some (.dat d)
def mII (c : Int → Int → Bool) (g : Int → Int → D) (f1 f2 : ME) : ME := fun ρ =>
  (asInt (f1 ρ)).bind fun a => (asInt (f2 ρ)).bind fun b => if c a b = true then some (.dat (g a b)) else none
def cT (_ _ : Int) : Bool := true
def cMul (i j : Int) : Bool := okP ((-(2 ^ 64) < i ∧ i < 2 ^ 64) ∨ (-(2 ^ 64) < j ∧ j < 2 ^ 64))
def cDiv (_ j : Int) : Bool := okP (0 < j ∧ j.natAbs.log2 < 9000)
def cMod (_ j : Int) : Bool := okP (0 < j)
def cPow (i j : Int) : Bool := okP (0 ≤ j ∧ j ≤ 1000000 ∧ i.natAbs < 2 ^ 64)
def mAdd (f1 f2 : ME) : ME := fun ρ => mII cT (fun a b => .int (a + b)) f1 f2 ρ
def mSub (f1 f2 : ME) : ME := fun ρ => mII cT (fun a b => .int (a - b)) f1 f2 ρ
def mMul (f1 f2 : ME) : ME := fun ρ => mII cMul (fun a b => .int (a * b)) f1 f2 ρ
def mDiv (f1 f2 : ME) : ME := fun ρ => mII cDiv (fun a b => .int (a / b)) f1 f2 ρ
def mMod (f1 f2 : ME) : ME := fun ρ => mII cMod (fun a b => .int (a % b)) f1 f2 ρ
def mPow (f1 f2 : ME) : ME := fun ρ => mII cPow (fun a b => .int (a ^ b.toNat)) f1 f2 ρ
def mLt (f1 f2 : ME) : ME := fun ρ => mII cT (fun a b => .bl (okP (a < b))) f1 f2 ρ
def mLe (f1 f2 : ME) : ME := fun ρ => mII cT (fun a b => .bl (okP (a ≤ b))) f1 f2 ρ
def mGt (f1 f2 : ME) : ME := fun ρ => mII cT (fun a b => .bl (okP (b < a))) f1 f2 ρ
def mGe (f1 f2 : ME) : ME := fun ρ => mII cT (fun a b => .bl (okP (b ≤ a))) f1 f2 ρ
def mNeg (f : ME) : ME := fun ρ => (asInt (f ρ)).bind fun a => some (.dat (.int (-a)))
def mT (m : ME) : MT := fun ρ => asBl (m ρ)
def eqS : D → D → Option Bool
  | .non, .non => some true
  | .non, .int _ => some false
  | .int _, .non => some false
  | .non, .bl _ => some false
  | .bl _, .non => some false
  | .non, .str _ => some false
  | .str _, .non => some false
  | .int a, .int b => some (okP (a = b))
  | .bl a, .bl b => some (decide (a = b))
  | .str a, .str b => some (decide (a = b))
  | .int _, .str _ => some false
  | .str _, .int _ => some false
  | .bl _, .str _ => some false
  | .str _, .bl _ => some false
  | _, _ => none
def mEqS (f1 f2 : ME) : ME := fun ρ => (asDat (f1 ρ)).bind fun a => (asDat (f2 ρ)).bind fun b => (eqS a b).map fun k => .dat (.bl k)
def mNeS (f1 f2 : ME) : ME := fun ρ => (asDat (f1 ρ)).bind fun a => (asDat (f2 ρ)).bind fun b => (eqS a b).map fun k => .dat (.bl (!k))
/-- a chain a op b op' c of ints -/
def mChain (p q : Int → Int → Prop) (f1 f2 f3 : ME) : ME := fun ρ => (asInt (f1 ρ)).bind fun a => (asInt (f2 ρ)).bind fun b => (asInt (f3 ρ)).bind fun c => some (.dat (.bl (okP (p a b) && okP (q b c))))
def tAndM (t u : MT) : MT := fun ρ => (t ρ).bind fun a => if a = true then u ρ else some false
def tOrM (t u : MT) : MT := fun ρ => (t ρ).bind fun a => if a = true then some true else u ρ
def tNotM (t : MT) : MT := fun ρ => (t ρ).map fun a => !a
def mIfE (t : MT) (f g : ME) : ME := fun ρ => (t ρ).bind fun a => if a = true then f ρ else g ρ
def mAndV (f g : ME) : ME := fun ρ => (asBl (f ρ)).bind fun a => if a = true then (asBl (g ρ)).map fun b => .dat (.bl b) else some (.dat (.bl false))
def mOrV (f g : ME) : ME := fun ρ => (asBl (f ρ)).bind fun a => if a = true then some (.dat (.bl true)) else (asBl (g ρ)).map fun b => .dat (.bl b)
def mNotV (f : ME) : ME := fun ρ => (asBl (f ρ)).map fun a => .dat (.bl (!a))
def aNil : MA := fun _ => some []
def aCons (f : ME) (r : MA) : MA := fun ρ => (f ρ).bind fun x => (r ρ).map fun xs => x :: xs
def dats : List R → Option (List D)
  | [] => some []
  | .dat d :: r => (dats r).map fun ds => d :: ds
  | _ => none
def szOk (n : Nat) : Bool := okP (n ≤ 100000)
def mTup (a : MA) : ME := fun ρ => ((a ρ).bind dats).bind fun ds => if szOk ds.length = true then some (.dat (.tup ds)) else none
def mLst (a : MA) : ME := fun ρ => ((a ρ).bind dats).bind fun ds => if szOk ds.length = true then some (.new ds) else none
def mIxL (f1 f2 : ME) : ME := fun ρ => (asLst (f1 ρ)).bind fun xs => (asInt (f2 ρ)).bind fun i => (atI xs i).map .dat
def mIxT (f1 f2 : ME) : ME := fun ρ => (asTup (f1 ρ)).bind fun xs => (asInt (f2 ρ)).bind fun i => (atI xs i).map .dat
def mIxS (f1 f2 : ME) : ME := fun ρ => (asStr (f1 ρ)).bind fun z => (asInt (f2 ρ)).bind fun i => if szOk z.length = true then (atI z.cps.toList i).map fun c => .dat (.str ⟨#[c]⟩) else none
def mLenL (f : ME) : ME := fun ρ => (asLst (f ρ)).map fun xs => .dat (.int (xs.length : Int))
def mLenT (f : ME) : ME := fun ρ => (asTup (f ρ)).map fun xs => .dat (.int (xs.length : Int))
def mLenS (f : ME) : ME := fun ρ => (asStr (f ρ)).bind fun xs => if szOk xs.length = true then some (.dat (.int (xs.length : Int))) else none
def mCall (m : List R → Option R) (a : MA) : ME := fun ρ => (a ρ).bind fun rs => m (rs.map argN)
def mAbs (f : ME) : ME := fun ρ => (asInt (f ρ)).map fun i => .dat (.int (if i < 0 then -i else i))
def mMax2 (f g : ME) : ME := fun ρ => (asInt (f ρ)).bind fun i => (asInt (g ρ)).map fun j => .dat (.int (if j > i then j else i))
def mMin2 (f g : ME) : ME := fun ρ => (asInt (f ρ)).bind fun i => (asInt (g ρ)).map fun j => .dat (.int (if j < i then j else i))
def mIntB (f : ME) : ME := fun ρ => (asBl (f ρ)).map fun k => .dat (.int (if k then 1 else 0))
def mCatS (f g : ME) : ME := fun ρ => (asStr (f ρ)).bind fun i => (asStr (g ρ)).bind fun j => if szOk (i.length + j.length) = true then some (.dat (.str (i ++ j))) else none
def mCatT (f g : ME) : ME := fun ρ => (asTup (f ρ)).bind fun i => (asTup (g ρ)).bind fun j => if szOk (i.length + j.length) = true then some (.dat (.tup (i ++ j))) else none
def mCatL (f g : ME) : ME := fun ρ => (asTrk (f ρ)).bind fun i => (asTrk (g ρ)).bind fun j => if szOk (i.length + j.length) = true then some (.new (i ++ j)) else none
def mRepL (f g : ME) : ME := fun ρ => (asTrk (f ρ)).bind fun i => (asInt (g ρ)).bind fun k => if (okP (-(2 ^ 63) ≤ k ∧ k < 2 ^ 63) && szOk (i.length * k.toNat)) = true then some (.new (List.replicate k.toNat i).flatten) else none
def mRevL (f : ME) : ME := fun ρ => (asLst (f ρ)).map fun xs => .new xs.reverse
def cutD {α : Type} (xs : List α) (lo hi : Option Int) : List α := (xs.drop (HT.sIx xs.length 0 lo)).take (HT.sIx xs.length xs.length hi - HT.sIx xs.length 0 lo)
abbrev MO := Rho → Option (Option Int)
def oNone : MO := fun _ => some none
def oSome (f : ME) : MO := fun ρ => (asInt (f ρ)).map some
def mSlT (f : ME) (lo hi : MO) : ME := fun ρ => (asTup (f ρ)).bind fun xs => (lo ρ).bind fun l => (hi ρ).map fun u => .dat (.tup (cutD xs l u))
def mSlL (f : ME) (lo hi : MO) : ME := fun ρ => (asLst (f ρ)).bind fun xs => (lo ρ).bind fun l => (hi ρ).map fun u => .new (cutD xs l u)
def mInT (f : ME) (xs : List Str) : ME := fun ρ => (asStr (f ρ)).map fun z => .dat (.bl (xs.any fun y => decide (y = z)))
end
end Tl

namespace Tl
open PySem PySem.Spec PyProof.Rows L2 Evl
section
variable {X : Cx} {a b c : Expr} {pos : Pos} {f1 f2 f3 : ME} {es : List Expr}
theorem x_var (i : Nat) {x : Str} {pos : Pos} (hN : X.N[i]? = some x := by rfl) (hv : Vis X.env.scope x := by first | exact Or.inl rfl | exact Or.inr (Or.inl rfl) | exact Or.inr (Or.inr rfl)) (hd : (x == ("__debug__" : Str)) = false := by decide)
    (hcd : (x == ("__classdict__" : Str)) = false := by decide) : JE X (.Name x pos) (mVar i) := by
  refine ⟨_, pe_var hN hv hd hcd, fun H0 σ H ρ r ok h => ?_⟩
  obtain ⟨B, ok⟩ := ok
  unfold mVar at h
  split at h
  · rename_i d hd
    cases h
    obtain ⟨v, s, q⟩ := ok.slot i _ hd
    exact fun H1 e Q k => ⟨v, s, k v H1 (Ex.refl H1) (q.ex e)⟩
  · rename_i xs hd
    cases h
    obtain ⟨a, vs, s, _, l, q⟩ := ok.slot i _ hd
    exact fun H1 e Q k => ⟨_, s, k _ H1 (Ex.refl H1) ⟨a, vs, rfl, e _ _ l, q.ex e⟩⟩
  · rename_i xs hd
    cases h
    obtain ⟨a, vs, s, l, q⟩ := ok.slot i _ hd
    exact fun H1 e Q k => ⟨_, s, k _ H1 (Ex.refl H1) ⟨a, vs, rfl, ex_l (ok.e1.trans e) l, q.ex e⟩⟩
  · cases h
/-- a value that hangs on nothing -/
theorem x_const {v : V} {d : D} (h : PE X a (tC v)) (hd : ∀ H, Den X.K H v d) : JE X a (mC d) :=
  ⟨_, h, fun H0 σ H ρ r ok h => by cases h; exact fun H1 e Q k => k v H1 (Ex.refl H1) (hd H1)⟩
theorem x_int {i j pos} : JE X (.Constant (.int i) j pos) (mC (.int i)) := x_const pe_int fun _ => .int i
theorem x_bl {i j pos} : JE X (.Constant (.bool i) j pos) (mC (.bl i)) := x_const pe_bl fun _ => .bl i
theorem x_non {j pos} : JE X (.Constant .none j pos) (mC .non) := x_const pe_non fun _ => .non
theorem x_str {i j pos} : JE X (.Constant (.str i) j pos) (mC (.str i)) := x_const pe_str fun _ => .str i
/-- a module's constant -/
theorem x_glob {x : Str} {v : V} {d : D} {u : Value} (hg : Gl X x) (hm : X.mg x = some u) (r : RelV v u) (hd : ∀ H, Den X.K H v d) (hdb : (x == ("__debug__" : Str)) = false := by decide) : JE X (.Name x pos) (mC d) := x_const (pe_glob hg hm r hdb) hd
theorem EvR.int {K : PySem.W.Frag} {te : TE} {σ : L2.St} {H : Hp} {i : Int} (h : EvR K te σ H (.dat (.int i))) : Ev te σ H (.int i) := fun H1 e Q q => h H1 e Q fun v H2 e2 g => by
  have g : Den K H2 v (.int i) := g
  cases g
  exact q H2 e2
theorem EvR.str {K : PySem.W.Frag} {te : TE} {σ : L2.St} {H : Hp} {i : Str} (h : EvR K te σ H (.dat (.str i))) : Ev te σ H (.str i) := fun H1 e Q q => h H1 e Q fun v H2 e2 g => by
  have g : Den K H2 v (.str i) := g
  cases g
  exact q H2 e2
theorem EvR.bl {K : PySem.W.Frag} {te : TE} {σ : L2.St} {H : Hp} {i : Bool} (h : EvR K te σ H (.dat (.bl i))) : Ev te σ H (.bl i) := fun H1 e Q q => h H1 e Q fun v H2 e2 g => by
  have g : Den K H2 v (.bl i) := g
  cases g
  exact q H2 e2
theorem EvR.of {K : PySem.W.Frag} {te : TE} {σ : L2.St} {H : Hp} {v : V} {d : D} (h : Ev te σ H v) (hd : ∀ H, Den K H v d) : EvR K te σ H (.dat d) := fun H1 e Q q => h H1 e Q fun H2 e2 => q v H2 e2 (hd H2)
theorem EvR.tup {K : PySem.W.Frag} {te : TE} {σ : L2.St} {H : Hp} {ds : List D} (h : EvR K te σ H (.dat (.tup ds))) :
    ∀ H1, Ex H H1 → ∀ Q : VK, (∀ a vs H2, Ex H1 H2 → SqT K H2 a vs → DenL K H2 vs ds → Q (.ref a) H2) → te σ H1 Q := fun H1 e Q q => h H1 e Q fun v H2 e2 g => by
  have g : Den K H2 v (.tup ds) := g
  cases g with
  | tup h1 h2 => exact q _ _ H2 e2 h1 h2
theorem op0 {f : Value → Value → Sem Value} {g : Int → Int → V} (h : OpR X f (rI0 g)) : OpR X f (rI (fun _ _ => True) g) := fun pins s σ H x y v u Q I rx ry ⟨i, j, e1, e2, _, q⟩ => h pins s σ H x y v u Q I rx ry ⟨i, j, e1, e2, q⟩
theorem ev_II {ta tb : TE} {σ : L2.St} {H : Hp} {ρ : Rho} {r : R} {H0 : Hp} {C : Int → Int → Prop} {c : Int → Int → Bool} {g : Int → Int → V} {gd : Int → Int → D} (hc : ∀ i j, c i j = true → C i j) (hg : ∀ i j H, Den X.K H (g i j) (gd i j))
    (va : ∀ H0 σ H ρ r, Ok X H0 σ H ρ → f1 ρ = some r → EvR X.K ta σ H r) (vb : ∀ H0 σ H ρ r, Ok X H0 σ H ρ → f2 ρ = some r → EvR X.K tb σ H r) (ok : Ok X H0 σ H ρ) (h : mII c gd f1 f2 ρ = some r) : EvR X.K (tOp (rI C g) ta tb) σ H r := by
  unfold mII at h
  obtain ⟨i, hi, h⟩ := Option.bind_eq_some_iff.mp h
  obtain ⟨j, hj, h⟩ := Option.bind_eq_some_iff.mp h
  split at h
  · rename_i hcc
    cases h
    exact EvR.of (ev_op (va _ _ _ _ _ ok (asInt_some hi)).int (vb _ _ _ _ _ ok (asInt_some hj)).int (rv_I (hc _ _ hcc))) (hg i j)
  · cases h
theorem x_op {op : Operator} {C : Int → Int → Prop} {c : Int → Int → Bool} {g : Int → Int → V} {gd : Int → Int → D} (ho : OpR X (binaryOp op) (rI C g)) (hc : ∀ i j, c i j = true → C i j) (hg : ∀ i j H, Den X.K H (g i j) (gd i j)) (ha : JE X a f1) (hb : JE X b f2) :
    JE X (.BinOp a op b pos) (mII c gd f1 f2) := by
  obtain ⟨ta, pa, va⟩ := ha
  obtain ⟨tb, pb, vb⟩ := hb
  exact ⟨_, pe_op ho pa pb, fun H0 σ H ρ r ok h => ev_II hc hg va vb ok h⟩
theorem x_add (ha : JE X a f1) (hb : JE X b f2) : JE X (.BinOp a .Add b pos) (mAdd f1 f2) := x_op (op0 op_add) (fun _ _ _ => trivial) (fun _ _ _ => .int _) ha hb
theorem x_sub (ha : JE X a f1) (hb : JE X b f2) : JE X (.BinOp a .Sub b pos) (mSub f1 f2) := x_op (op0 op_sub) (fun _ _ _ => trivial) (fun _ _ _ => .int _) ha hb
theorem x_mul (ha : JE X a f1) (hb : JE X b f2) : JE X (.BinOp a .Mult b pos) (mMul f1 f2) := x_op op_mul (fun i j h => show CMul i j by unfold CMul; exact okP_of h) (fun _ _ _ => .int _) ha hb
theorem x_div (ha : JE X a f1) (hb : JE X b f2) : JE X (.BinOp a .FloorDiv b pos) (mDiv f1 f2) := x_op op_fdivW (fun i j h => show CDivW i j by unfold CDivW; exact okP_of h) (fun _ _ _ => .int _) ha hb
theorem x_mod (ha : JE X a f1) (hb : JE X b f2) : JE X (.BinOp a .Mod b pos) (mMod f1 f2) := x_op op_mod (fun _ _ h => okP_of h) (fun _ _ _ => .int _) ha hb
theorem x_pow (ha : JE X a f1) (hb : JE X b f2) : JE X (.BinOp a .Pow b pos) (mPow f1 f2) := x_op op_pow (fun i j h => show CPow i j by unfold CPow; exact okP_of h) (fun _ _ _ => .int _) ha hb
theorem x_neg (ha : JE X a f1) : JE X (.UnaryOp .USub a pos) (mNeg f1) := by
  obtain ⟨ta, pa, va⟩ := ha
  refine ⟨_, pe_un un_neg pa, fun H0 σ H ρ r ok h => ?_⟩
  unfold mNeg at h
  obtain ⟨i, hi, h⟩ := Option.bind_eq_some_iff.mp h
  cases h
  exact EvR.of (ev_neg (va _ _ _ _ _ ok (asInt_some hi)).int) fun _ => .int _
/-! comparisons of ints -/
theorem x_cmpI {op : CmpOp} {p : Int → Int → Prop} [∀ i j, Decidable (p i j)] (ho : OpR X (compareOp op) (rI0 fun i j => .bl (decide (p i j)))) (ha : JE X a f1) (hb : JE X b f2) (hm : behindInMarks op b = false) : JE X (.Compare a [op] [b] pos) (mII cT (fun i j => .bl (okP (p i j))) f1 f2) := by
  obtain ⟨ta, pa, va⟩ := ha
  obtain ⟨tb, pb, vb⟩ := hb
  exact ⟨_, pe_cmpR (op0 ho) pa pb hm, fun H0 σ H ρ r ok h => ev_II (fun _ _ _ => trivial) (fun _ _ _ => by rw [okP_eq]; exact .bl _) va vb ok h⟩
theorem ev_test {te : TE} {σ : L2.St} {H : Hp} {o : Option R} {k : Bool} (h : asBl o = some k) (hv : ∀ r, o = some r → EvR X.K te σ H r) : EvT (tTest te) σ H k := et_test (hv _ (asBl_some h)).bl
theorem t_cmpI {op : CmpOp} {p : Int → Int → Prop} [∀ i j, Decidable (p i j)] (ho : OpR X (compareOp op) (rI0 fun i j => .bl (decide (p i j)))) (ha : JE X a f1) (hb : JE X b f2) (hm : behindInMarks op b = false) : JT X (.Compare a [op] [b] pos) (mT (mII cT (fun i j => .bl (okP (p i j))) f1 f2)) := by
  obtain ⟨ta, pa, va⟩ := ha
  obtain ⟨tb, pb, vb⟩ := hb
  exact ⟨_, pt_cmpR (op0 ho) pa pb hm, fun H0 σ H ρ k ok h => ev_test h fun r hr => ev_II (fun _ _ _ => trivial) (fun _ _ _ => by rw [okP_eq]; exact .bl _) va vb ok hr⟩
theorem x_lt (ha : JE X a f1) (hb : JE X b f2) : JE X (.Compare a [.Lt] [b] pos) (mLt f1 f2) := x_cmpI (p := fun i j => i < j) op_lt ha hb (nomark _)
theorem x_le (ha : JE X a f1) (hb : JE X b f2) : JE X (.Compare a [.LtE] [b] pos) (mLe f1 f2) := x_cmpI (p := fun i j => i ≤ j) op_le ha hb (nomark _)
theorem x_gt (ha : JE X a f1) (hb : JE X b f2) : JE X (.Compare a [.Gt] [b] pos) (mGt f1 f2) := x_cmpI (p := fun i j => j < i) op_gt ha hb (nomark _)
theorem x_ge (ha : JE X a f1) (hb : JE X b f2) : JE X (.Compare a [.GtE] [b] pos) (mGe f1 f2) := x_cmpI (p := fun i j => j ≤ i) op_ge ha hb (nomark _)
theorem t_lt (ha : JE X a f1) (hb : JE X b f2) : JT X (.Compare a [.Lt] [b] pos) (mT (mLt f1 f2)) := t_cmpI (p := fun i j => i < j) op_lt ha hb (nomark _)
theorem t_le (ha : JE X a f1) (hb : JE X b f2) : JT X (.Compare a [.LtE] [b] pos) (mT (mLe f1 f2)) := t_cmpI (p := fun i j => i ≤ j) op_le ha hb (nomark _)
theorem t_gt (ha : JE X a f1) (hb : JE X b f2) : JT X (.Compare a [.Gt] [b] pos) (mT (mGt f1 f2)) := t_cmpI (p := fun i j => j < i) op_gt ha hb (nomark _)
theorem t_ge (ha : JE X a f1) (hb : JE X b f2) : JT X (.Compare a [.GtE] [b] pos) (mT (mGe f1 f2)) := t_cmpI (p := fun i j => j ≤ i) op_ge ha hb (nomark _)
/-! == of scalars -/
theorem eqS_of {K : PySem.W.Frag} {H H' : Hp} {v w : V} {d e : D} {k : Bool} (hv : Den K H v d) (hw : Den K H' w e) (h : eqS d e = some k) : scal v w = true ∧ decide (v = w) = k := by
  cases hv <;> cases hw <;> simp only [eqS, Option.some.injEq, reduceCtorEq] at h <;> subst h <;> refine ⟨rfl, ?_⟩ <;> first | (rw [← okP_eq]; simp) | simp
theorem ev_eqS {ta tb : TE} {σ : L2.St} {H : Hp} {ρ : Rho} {r : R} {H0 : Hp} (va : ∀ H0 σ H ρ r, Ok X H0 σ H ρ → f1 ρ = some r → EvR X.K ta σ H r) (vb : ∀ H0 σ H ρ r, Ok X H0 σ H ρ → f2 ρ = some r → EvR X.K tb σ H r) (ok : Ok X H0 σ H ρ)
    (h : mEqS f1 f2 ρ = some r) : EvR X.K (tOp rEq ta tb) σ H r := by
  unfold mEqS at h
  obtain ⟨d, hd, h⟩ := Option.bind_eq_some_iff.mp h
  obtain ⟨e, he, h⟩ := Option.bind_eq_some_iff.mp h
  obtain ⟨k, hk, h⟩ := Option.map_eq_some_iff.mp h
  subst h
  intro H1 e1 Q q
  refine va _ _ _ _ _ ok (asDat_some hd) H1 e1 _ fun v H2 e2 gv => ?_
  refine vb _ _ _ _ _ ok (asDat_some he) H2 (e1.trans e2) _ fun w H3 e3 gw => ?_
  obtain ⟨h1, h2⟩ := eqS_of gv gw hk
  refine ⟨h1, ?_⟩
  rw [h2]
  exact q _ H3 (e2.trans e3) (.bl k)
theorem ev_neS {ta tb : TE} {σ : L2.St} {H : Hp} {ρ : Rho} {r : R} {H0 : Hp} (va : ∀ H0 σ H ρ r, Ok X H0 σ H ρ → f1 ρ = some r → EvR X.K ta σ H r) (vb : ∀ H0 σ H ρ r, Ok X H0 σ H ρ → f2 ρ = some r → EvR X.K tb σ H r) (ok : Ok X H0 σ H ρ)
    (h : mNeS f1 f2 ρ = some r) : EvR X.K (tOp rNe ta tb) σ H r := by
  unfold mNeS at h
  obtain ⟨d, hd, h⟩ := Option.bind_eq_some_iff.mp h
  obtain ⟨e, he, h⟩ := Option.bind_eq_some_iff.mp h
  obtain ⟨k, hk, h⟩ := Option.map_eq_some_iff.mp h
  subst h
  intro H1 e1 Q q
  refine va _ _ _ _ _ ok (asDat_some hd) H1 e1 _ fun v H2 e2 gv => ?_
  refine vb _ _ _ _ _ ok (asDat_some he) H2 (e1.trans e2) _ fun w H3 e3 gw => ?_
  obtain ⟨h1, h2⟩ := eqS_of gv gw hk
  refine ⟨h1, ?_⟩
  rw [h2]
  exact q _ H3 (e2.trans e3) (.bl _)
theorem x_eqS (ha : JE X a f1) (hb : JE X b f2) : JE X (.Compare a [.Eq] [b] pos) (mEqS f1 f2) := by
  obtain ⟨ta, pa, va⟩ := ha
  obtain ⟨tb, pb, vb⟩ := hb
  exact ⟨_, pe_cmpR op_eq pa pb (nomark _), fun H0 σ H ρ r ok h => ev_eqS va vb ok h⟩
theorem t_eqS (ha : JE X a f1) (hb : JE X b f2) : JT X (.Compare a [.Eq] [b] pos) (mT (mEqS f1 f2)) := by
  obtain ⟨ta, pa, va⟩ := ha
  obtain ⟨tb, pb, vb⟩ := hb
  exact ⟨_, pt_cmpR op_eq pa pb (nomark _), fun H0 σ H ρ r ok h => ev_test h fun r hr => ev_eqS va vb ok hr⟩
theorem x_neS (ha : JE X a f1) (hb : JE X b f2) : JE X (.Compare a [.NotEq] [b] pos) (mNeS f1 f2) := by
  obtain ⟨ta, pa, va⟩ := ha
  obtain ⟨tb, pb, vb⟩ := hb
  exact ⟨_, pe_cmpR op_ne pa pb (nomark _), fun H0 σ H ρ r ok h => ev_neS va vb ok h⟩
theorem t_neS (ha : JE X a f1) (hb : JE X b f2) : JT X (.Compare a [.NotEq] [b] pos) (mT (mNeS f1 f2)) := by
  obtain ⟨ta, pa, va⟩ := ha
  obtain ⟨tb, pb, vb⟩ := hb
  exact ⟨_, pt_cmpR op_ne pa pb (nomark _), fun H0 σ H ρ r ok h => ev_test h fun r hr => ev_neS va vb ok hr⟩
/-! a op b op' c -/
theorem ev_chain {ta tb tc : TE} {σ : L2.St} {H : Hp} {ρ : Rho} {r : R} {H0 : Hp} {p q : Int → Int → Prop} [∀ i j, Decidable (p i j)] [∀ i j, Decidable (q i j)] (va : ∀ H0 σ H ρ r, Ok X H0 σ H ρ → f1 ρ = some r → EvR X.K ta σ H r) (vb : ∀ H0 σ H ρ r, Ok X H0 σ H ρ → f2 ρ = some r → EvR X.K tb σ H r)
    (vc : ∀ H0 σ H ρ r, Ok X H0 σ H ρ → f3 ρ = some r → EvR X.K tc σ H r) (ok : Ok X H0 σ H ρ)
    (h : mChain p q f1 f2 f3 ρ = some r) : EvR X.K (tChain (rI0 fun i j => .bl (decide (p i j))) (rI0 fun i j => .bl (decide (q i j))) ta tb tc) σ H r := by
  unfold mChain at h
  obtain ⟨i, hi, h⟩ := Option.bind_eq_some_iff.mp h
  obtain ⟨j, hj, h⟩ := Option.bind_eq_some_iff.mp h
  obtain ⟨k, hk, h⟩ := Option.bind_eq_some_iff.mp h
  cases h
  intro H1 e1 Q z
  refine (va _ _ _ _ _ ok (asInt_some hi)).int H1 e1 _ fun H2 e2 => ?_
  refine (vb _ _ _ _ _ ok (asInt_some hj)).int H2 (e1.trans e2) _ fun H3 e3 => ?_
  refine ⟨i, j, rfl, rfl, decide (p i j), rfl, ?_⟩
  rw [← okP_eq, ← okP_eq] at z
  cases hp : decide (p i j) with
  | false =>
    rw [hp] at z
    exact z _ H3 (e2.trans e3) (.bl _)
  | true =>
    rw [hp] at z
    show tc σ H3 _
    refine (vc _ _ _ _ _ ok (asInt_some hk)).int H3 ((e1.trans e2).trans e3) _ fun H4 e4 => ?_
    exact ⟨j, k, rfl, rfl, z _ H4 ((e2.trans e3).trans e4) (.bl _)⟩
theorem t_chain {op op' : CmpOp} {p q : Int → Int → Prop} [∀ i j, Decidable (p i j)] [∀ i j, Decidable (q i j)] (ho : OpR X (compareOp op) (rI0 fun i j => .bl (decide (p i j)))) (ho' : OpR X (compareOp op') (rI0 fun i j => .bl (decide (q i j)))) (ha : JE X a f1) (hb : JE X b f2) (hc : JE X c f3)
    (hm : lastMarks [op, op'] [b, c] = false := by with_unfolding_all rfl) : JT X (.Compare a [op, op'] [b, c] pos) (mT (mChain p q f1 f2 f3)) := by
  obtain ⟨ta, pa, va⟩ := ha
  obtain ⟨tb, pb, vb⟩ := hb
  obtain ⟨tc, pc, vc⟩ := hc
  exact ⟨_, pt_chain ho ho' pa pb pc hm, fun H0 σ H ρ r ok h => ev_test h fun r hr => ev_chain va vb vc ok hr⟩
theorem x_chain {op op' : CmpOp} {p q : Int → Int → Prop} [∀ i j, Decidable (p i j)] [∀ i j, Decidable (q i j)] (ho : OpR X (compareOp op) (rI0 fun i j => .bl (decide (p i j)))) (ho' : OpR X (compareOp op') (rI0 fun i j => .bl (decide (q i j)))) (ha : JE X a f1) (hb : JE X b f2) (hc : JE X c f3)
    (hm : lastMarks [op, op'] [b, c] = false := by with_unfolding_all rfl) : JE X (.Compare a [op, op'] [b, c] pos) (mChain p q f1 f2 f3) := by
  obtain ⟨ta, pa, va⟩ := ha
  obtain ⟨tb, pb, vb⟩ := hb
  obtain ⟨tc, pc, vc⟩ := hc
  exact ⟨_, pe_chain ho ho' pa pb pc hm, fun H0 σ H ρ r ok h => ev_chain va vb vc ok h⟩
/-! tests -/
variable {t u : MT} {rest : List Expr}
theorem w_pt (h : JW X a t) : JT X a t := by
  obtain ⟨tt, p, v⟩ := h
  exact ⟨tt, p.pt, v⟩
theorem w_and1 (ha : JT X a t) : JW X (.BoolOp .And [a] pos) t := by
  obtain ⟨tt, p, v⟩ := ha
  exact ⟨tt, pw_and1 p, v⟩
theorem w_or1 (ha : JT X a t) : JW X (.BoolOp .Or [a] pos) t := by
  obtain ⟨tt, p, v⟩ := ha
  exact ⟨tt, pw_or1 p, v⟩
theorem w_and (ha : JT X a t) (hb : JW X (.BoolOp .And (b :: rest) pos) u) : JW X (.BoolOp .And (a :: b :: rest) pos) (tAndM t u) := by
  obtain ⟨ta, pa, va⟩ := ha
  obtain ⟨tb, pb, vb⟩ := hb
  refine ⟨_, pw_and pa pb, fun H0 σ H ρ k ok h => ?_⟩
  unfold tAndM at h
  obtain ⟨i, hi, h⟩ := Option.bind_eq_some_iff.mp h
  intro H1 e1 Q q
  refine va _ _ _ _ _ ok hi H1 e1 _ fun H2 e2 => ?_
  cases i with
  | true => exact vb _ _ _ _ _ ok h H2 (e1.trans e2) _ fun H3 e3 => q H3 (e2.trans e3)
  | false => cases h; exact q H2 e2
theorem w_or (ha : JT X a t) (hb : JW X (.BoolOp .Or (b :: rest) pos) u) : JW X (.BoolOp .Or (a :: b :: rest) pos) (tOrM t u) := by
  obtain ⟨ta, pa, va⟩ := ha
  obtain ⟨tb, pb, vb⟩ := hb
  refine ⟨_, pw_or pa pb, fun H0 σ H ρ k ok h => ?_⟩
  unfold tOrM at h
  obtain ⟨i, hi, h⟩ := Option.bind_eq_some_iff.mp h
  intro H1 e1 Q q
  refine va _ _ _ _ _ ok hi H1 e1 _ fun H2 e2 => ?_
  cases i with
  | false => exact vb _ _ _ _ _ ok h H2 (e1.trans e2) _ fun H3 e3 => q H3 (e2.trans e3)
  | true => cases h; exact q H2 e2
theorem t_and (ha : JT X a t) (hb : JW X (.BoolOp .And (b :: rest) pos) u) : JT X (.BoolOp .And (a :: b :: rest) pos) (tAndM t u) := w_pt (w_and ha hb)
theorem t_or (ha : JT X a t) (hb : JW X (.BoolOp .Or (b :: rest) pos) u) : JT X (.BoolOp .Or (a :: b :: rest) pos) (tOrM t u) := w_pt (w_or ha hb)
theorem t_not (ha : JT X a t) : JT X (.UnaryOp .Not a pos) (tNotM t) := by
  obtain ⟨ta, pa, va⟩ := ha
  refine ⟨_, pt_not pa, fun H0 σ H ρ k ok h => ?_⟩
  unfold tNotM at h
  obtain ⟨i, hi, h⟩ := Option.map_eq_some_iff.mp h
  subst h
  exact et_not (va _ _ _ _ _ ok hi)
/-- a bool as a test -/
theorem t_val (ha : JE X a f1) (he : ∀ whole, isTrue a X.env whole = (do let v ← whole; standAt a.pos; holding [v] (truthy v)) := by intro _; rfl) : JT X a (mT f1) := by
  obtain ⟨ta, pa, va⟩ := ha
  exact ⟨_, pt_val pa he, fun H0 σ H ρ k ok h => et_B (va _ _ _ _ _ ok (asBl_some h)).bl⟩
theorem x_ifE (hc : JT X c t) (ha : JE X a f1) (hb : JE X b f2) : JE X (.IfExp c a b pos) (mIfE t f1 f2) := by
  obtain ⟨tc, pc, vc⟩ := hc
  obtain ⟨ta, pa, va⟩ := ha
  obtain ⟨tb, pb, vb⟩ := hb
  refine ⟨_, pe_ifExp pc pa pb, fun H0 σ H ρ r ok h => ?_⟩
  unfold mIfE at h
  obtain ⟨i, hi, h⟩ := Option.bind_eq_some_iff.mp h
  intro H1 e1 Q q
  refine vc _ _ _ _ _ ok hi H1 e1 _ fun H2 e2 => ?_
  cases i with
  | true => exact va _ _ _ _ _ ok h H2 (e1.trans e2) _ fun v H3 e3 g => q v H3 (e2.trans e3) (g.back e2)
  | false => exact vb _ _ _ _ _ ok h H2 (e1.trans e2) _ fun v H3 e3 g => q v H3 (e2.trans e3) (g.back e2)
theorem x_one {op} (ha : JE X a f1) : JE X (.BoolOp op [a] pos) f1 := by
  obtain ⟨ta, pa, va⟩ := ha
  exact ⟨_, pe_one pa, va⟩
theorem x_andV (ha : JE X a f1) (hb : JE X (.BoolOp .And (b :: rest) pos) f2) : JE X (.BoolOp .And (a :: b :: rest) pos) (mAndV f1 f2) := by
  obtain ⟨ta, pa, va⟩ := ha
  obtain ⟨tb, pb, vb⟩ := hb
  refine ⟨_, pe_and pa pb, fun H0 σ H ρ r ok h => ?_⟩
  unfold mAndV at h
  obtain ⟨i, hi, h⟩ := Option.bind_eq_some_iff.mp h
  intro H1 e1 Q q
  refine (va _ _ _ _ _ ok (asBl_some hi)).bl H1 e1 _ fun H2 e2 => ⟨i, rfl, ?_⟩
  cases i with
  | true =>
    obtain ⟨j, hj, h⟩ := Option.map_eq_some_iff.mp h
    subst h
    exact (vb _ _ _ _ _ ok (asBl_some hj)).bl H2 (e1.trans e2) _ fun H3 e3 => q _ H3 (e2.trans e3) (.bl j)
  | false => cases h; exact q _ H2 e2 (.bl false)
theorem x_orV (ha : JE X a f1) (hb : JE X (.BoolOp .Or (b :: rest) pos) f2) : JE X (.BoolOp .Or (a :: b :: rest) pos) (mOrV f1 f2) := by
  obtain ⟨ta, pa, va⟩ := ha
  obtain ⟨tb, pb, vb⟩ := hb
  refine ⟨_, pe_or pa pb, fun H0 σ H ρ r ok h => ?_⟩
  unfold mOrV at h
  obtain ⟨i, hi, h⟩ := Option.bind_eq_some_iff.mp h
  intro H1 e1 Q q
  refine (va _ _ _ _ _ ok (asBl_some hi)).bl H1 e1 _ fun H2 e2 => ⟨i, rfl, ?_⟩
  cases i with
  | false =>
    obtain ⟨j, hj, h⟩ := Option.map_eq_some_iff.mp h
    subst h
    exact (vb _ _ _ _ _ ok (asBl_some hj)).bl H2 (e1.trans e2) _ fun H3 e3 => q _ H3 (e2.trans e3) (.bl j)
  | true => cases h; exact q _ H2 e2 (.bl true)
theorem x_notV (ha : JE X a f1) : JE X (.UnaryOp .Not a pos) (mNotV f1) := by
  obtain ⟨ta, pa, va⟩ := ha
  refine ⟨_, pe_not pa, fun H0 σ H ρ r ok h => ?_⟩
  unfold mNotV at h
  obtain ⟨i, hi, h⟩ := Option.map_eq_some_iff.mp h
  subst h
  intro H1 e1 Q q
  exact (va _ _ _ _ _ ok (asBl_some hi)).bl H1 e1 _ fun H2 e2 => ⟨i, rfl, q _ H2 e2 (.bl _)⟩
/-! arguments, displays -/
variable {ma : MA}
theorem a_nil : JA X [] aNil := ⟨_, pa_nil, fun H0 σ H ρ rs ok h => by cases h; exact fun H1 e Q q => q [] H1 (Ex.refl H1) .nil⟩
theorem a_cons (ha : JE X a f1) (hr : JA X es ma) (hs : starEach (a :: es) X.env = (false, eval a X.env) :: starEach es X.env := by rfl) : JA X (a :: es) (aCons f1 ma) := by
  obtain ⟨ta, pa, va⟩ := ha
  obtain ⟨tb, pb, vb⟩ := hr
  refine ⟨_, pa_cons pa pb hs, fun H0 σ H ρ rs ok h => ?_⟩
  unfold aCons at h
  obtain ⟨i, hi, h⟩ := Option.bind_eq_some_iff.mp h
  obtain ⟨j, hj, h⟩ := Option.map_eq_some_iff.mp h
  subst h
  intro H1 e1 Q q
  refine va _ _ _ _ _ ok hi H1 e1 _ fun v H2 e2 g => ?_
  exact vb _ _ _ _ _ ok hj H2 (e1.trans e2) _ fun vs H3 e3 gs => q _ H3 (e2.trans e3) (.cons (g.arg.ex e3) gs)
theorem dats_of {K : PySem.W.Frag} {H : Hp} : ∀ {rs : List R} {vs : List V} {ds : List D}, dats rs = some ds → ArgL K H vs rs → DenL K H vs ds
  | [], _, _, h, .nil => by cases h; exact .nil
  | .dat d :: r, _, _, h, .cons h1 h2 => by
    obtain ⟨j, hj, h⟩ := Option.map_eq_some_iff.mp h
    subst h
    exact .cons h1 (dats_of hj h2)
  | .lst _ :: _, _, _, h, _ => by cases h
  | .new _ :: _, _, _, h, _ => by cases h
  | .ro _ :: _, _, _, h, _ => by cases h
theorem szOk_of {n : Nat} (h : szOk n = true) : n ≤ sizeLine := sz_of (okP_of h)
theorem x_tup {x1} (h : JA X es ma) : JE X (.Tuple es x1 pos) (mTup ma) := by
  obtain ⟨ta, pa, va⟩ := h
  refine ⟨_, pe_tup pa, fun H0 σ H ρ r ok h => ?_⟩
  unfold mTup at h
  obtain ⟨i, hi, h⟩ := Option.bind_eq_some_iff.mp h
  obtain ⟨j, hj, hi⟩ := Option.bind_eq_some_iff.mp hi
  split at h
  · rename_i hz
    cases h
    intro H1 e1 Q q
    refine va _ _ _ _ _ ok hj H1 e1 _ fun vs H2 e2 g => ?_
    have gd := dats_of hi g
    refine ⟨by rw [gd.length]; exact szOk_of hz, fun p np => q _ _ (e2.trans (Ex.new np)) (.tup (st_of upd_same) (gd.ex (Ex.new np)))⟩
  · cases h
theorem x_lst (h : JA X es ma) : JE X (.List es pos) (mLst ma) := by
  obtain ⟨ta, pa, va⟩ := h
  refine ⟨_, pe_lst pa, fun H0 σ H ρ r ok h => ?_⟩
  unfold mLst at h
  obtain ⟨i, hi, h⟩ := Option.bind_eq_some_iff.mp h
  obtain ⟨j, hj, hi⟩ := Option.bind_eq_some_iff.mp hi
  split at h
  · rename_i hz
    cases h
    intro H1 e1 Q q
    refine va _ _ _ _ _ ok hj H1 e1 _ fun vs H2 e2 g => ?_
    have gd := dats_of hi g
    refine ⟨by rw [gd.length]; exact szOk_of hz, fun p np => q _ _ (e2.trans (Ex.new np)) ⟨p, vs, rfl, fresh_back e2 np, upd_same, gd.ex (Ex.new np)⟩⟩
  · cases h
/-! subscripts -/
theorem atI_den {K : PySem.W.Frag} {H : Hp} {vs : List V} {ds : List D} {i : Int} {d : D} (h : DenL K H vs ds) (ha : atI ds i = some d) : ∃ v, atI vs i = some v ∧ Den K H v d := by
  unfold atI at ha ⊢
  rw [h.length]
  obtain ⟨j, hj, ha⟩ := Option.bind_eq_some_iff.mp ha
  obtain ⟨v, h1, h2⟩ := h.get ha
  exact ⟨v, by rw [hj]; exact h1, h2⟩
theorem x_ixL (ha : JE X a f1) (hb : JE X b f2) (hs : PlainIx b := by exact fun _ _ => rfl) : JE X (.Subscript a b pos) (mIxL f1 f2) := by
  obtain ⟨ta, pa, va⟩ := ha
  obtain ⟨tb, pb, vb⟩ := hb
  refine ⟨_, pe_ix ix_list pa pb hs, fun H0 σ H ρ r ok h => ?_⟩
  unfold mIxL at h
  obtain ⟨xs, hx, h⟩ := Option.bind_eq_some_iff.mp h
  obtain ⟨i, hi, h⟩ := Option.bind_eq_some_iff.mp h
  obtain ⟨d, hd, h⟩ := Option.map_eq_some_iff.mp h
  subst h
  intro H1 e1 Q q
  refine ev_lst hx (fun r hr => va _ _ _ _ _ ok hr) H1 e1 _ fun v H2 e2 ⟨p, vs, hv, hl, hdn⟩ => ?_
  subst hv
  refine (vb _ _ _ _ _ ok (asInt_some hi)).int H2 (e1.trans e2) _ fun H3 e3 => ?_
  obtain ⟨w, h1, h2⟩ := atI_den (hdn.ex e3) hd
  exact ⟨p, vs, i, w, rfl, rfl, ex_l e3 hl, h1, q w H3 (e2.trans e3) h2⟩
theorem x_ixT (ha : JE X a f1) (hb : JE X b f2) (hs : PlainIx b := by exact fun _ _ => rfl) : JE X (.Subscript a b pos) (mIxT f1 f2) := by
  obtain ⟨ta, pa, va⟩ := ha
  obtain ⟨tb, pb, vb⟩ := hb
  refine ⟨_, pe_ix ix_tup pa pb hs, fun H0 σ H ρ r ok h => ?_⟩
  unfold mIxT at h
  obtain ⟨xs, hx, h⟩ := Option.bind_eq_some_iff.mp h
  obtain ⟨i, hi, h⟩ := Option.bind_eq_some_iff.mp h
  obtain ⟨d, hd, h⟩ := Option.map_eq_some_iff.mp h
  subst h
  intro H1 e1 Q q
  refine (va _ _ _ _ _ ok (asTup_some hx)).tup H1 e1 _ fun p vs H2 e2 hl hdn => ?_
  refine (vb _ _ _ _ _ ok (asInt_some hi)).int H2 (e1.trans e2) _ fun H3 e3 => ?_
  obtain ⟨w, h1, h2⟩ := atI_den (hdn.ex e3) hd
  exact ⟨p, vs, i, w, rfl, rfl, ex_t e3 hl, h1, q w H3 (e2.trans e3) h2⟩
theorem x_ixS (ha : JE X a f1) (hb : JE X b f2) (hs : PlainIx b := by exact fun _ _ => rfl) : JE X (.Subscript a b pos) (mIxS f1 f2) := by
  obtain ⟨ta, pa, va⟩ := ha
  obtain ⟨tb, pb, vb⟩ := hb
  refine ⟨_, pe_ix ix_str pa pb hs, fun H0 σ H ρ r ok h => ?_⟩
  unfold mIxS at h
  obtain ⟨xs, hx, h⟩ := Option.bind_eq_some_iff.mp h
  obtain ⟨i, hi, h⟩ := Option.bind_eq_some_iff.mp h
  split at h
  · rename_i hz
    obtain ⟨d, hd, h⟩ := Option.map_eq_some_iff.mp h
    subst h
    exact EvR.of (ev_op (va _ _ _ _ _ ok (asStr_some hx)).str (vb _ _ _ _ _ ok (asInt_some hi)).int (rv_ixS (okP_of hz) hd)) fun _ => .str _
  · cases h
/-! slices -/
variable {lo hi : Option Expr} {ml mh : MO}
def JO (X : Cx) (e : Option Expr) (m : MO) : Prop := ∃ to, PO X e to ∧ ∀ H0 σ H ρ o, Ok X H0 σ H ρ → m ρ = some o → EvO to σ H o
theorem o_none : JO X none oNone := ⟨_, po_none, fun H0 σ H ρ o ok h => by cases h; exact eo_none⟩
theorem o_some (ha : JE X a f1) : JO X (some a) (oSome f1) := by
  obtain ⟨ta, pa, va⟩ := ha
  refine ⟨_, po_some pa, fun H0 σ H ρ o ok h => ?_⟩
  unfold oSome at h
  obtain ⟨i, hi, h⟩ := Option.map_eq_some_iff.mp h
  subst h
  exact eo_some (va _ _ _ _ _ ok (asInt_some hi)).int
theorem cut_den {K : PySem.W.Frag} {H : Hp} {vs : List V} {ds : List D} (h : DenL K H vs ds) (l u : Option Int) : DenL K H (cutV vs l u) (cutD ds l u) := by
  unfold cutV cutD
  rw [h.length]
  exact (h.drop _).take _
theorem x_slL (ha : JE X a f1) (hl : JO X lo ml) (hh : JO X hi mh) {p2 : Pos} : JE X (.Subscript a (.Slice lo hi none p2) pos) (mSlL f1 ml mh) := by
  obtain ⟨ta, pa, va⟩ := ha
  obtain ⟨tl, pl, vl⟩ := hl
  obtain ⟨th, ph, vh⟩ := hh
  refine ⟨_, pe_slice sl_list pa pl ph, fun H0 σ H ρ r ok h => ?_⟩
  unfold mSlL at h
  obtain ⟨xs, hx, h⟩ := Option.bind_eq_some_iff.mp h
  obtain ⟨l, hl, h⟩ := Option.bind_eq_some_iff.mp h
  obtain ⟨u, hu, h⟩ := Option.map_eq_some_iff.mp h
  subst h
  intro H1 e1 Q q
  refine ev_lst hx (fun r hr => va _ _ _ _ _ ok hr) H1 e1 _ fun v H2 e2 ⟨p, vs, hv, hl', hdn⟩ => ?_
  subst hv
  refine vl _ _ _ _ _ ok hl H2 (e1.trans e2) _ fun H3 e3 => ?_
  refine vh _ _ _ _ _ ok hu H3 ((e1.trans e2).trans e3) _ fun H4 e4 => ?_
  exact ⟨p, vs, rfl, ex_l (e3.trans e4) hl', fun z nz => q _ _ (((e2.trans e3).trans e4).trans (Ex.new nz)) ⟨z, _, rfl, fresh_back ((e2.trans e3).trans e4) nz, upd_same, cut_den ((hdn.ex (e3.trans e4)).ex (Ex.new nz)) _ _⟩⟩
theorem x_revL {k : Nat} {p1 p2 p3 : Pos} (ha : JE X a f1) : JE X (.Subscript a (.Slice none none (some (.UnaryOp .USub (.Constant (.int 1) k p1) p2)) p3) pos) (mRevL f1) := by
  obtain ⟨ta, pa, va⟩ := ha
  refine ⟨_, pe_revL pa, fun H0 σ H ρ r ok h => ?_⟩
  unfold mRevL at h
  obtain ⟨xs, hx, h⟩ := Option.map_eq_some_iff.mp h
  subst h
  intro H1 e1 Q q
  refine ev_lst hx (fun r hr => va _ _ _ _ _ ok hr) H1 e1 _ fun v H2 e2 ⟨p, vs, hv, hl', hdn⟩ => ?_
  subst hv
  exact ⟨p, vs, rfl, hl', fun z nz => q _ _ (e2.trans (Ex.new nz)) ⟨z, _, rfl, fresh_back e2 nz, upd_same, (hdn.ex (Ex.new nz)).reverse⟩⟩
end
end Tl

namespace Tl
open PySem PySem.Spec PyProof.Rows L2 Evl
noncomputable section
/-! ### calls -/
def RetP (K : PySem.W.Frag) (H : Hp) (Q : VK) (r : R) : Prop := ∀ v H', Ex H H' → Got K H v H' r → Q v H'
abbrev Mir := List R → Option R
/-- the promise of a def that is the function m -/
structure ArgT (K : PySem.W.Frag) (mg : Str → Option Value) (H : Hp) (vs : List V) (rs : List R) : Prop where
  l : ArgL K H vs rs
  tb : Tbs K mg H
theorem ArgT.length {K : PySem.W.Frag} {mg : Str → Option Value} {H : Hp} {vs : List V} {rs : List R} (h : ArgT K mg H vs rs) : vs.length = rs.length := h.l.length
def spM (K : PySem.W.Frag) (mg : Str → Option Value) (m : Mir) : Sp := fun vs H Q _ => ∃ rs r, ArgT K mg H vs rs ∧ m rs = some r ∧ RetP K H Q r
section
variable {X : Cx} {a b c : Expr} {pos : Pos} {f1 f2 f3 : ME} {es : List Expr} {ma : MA}
theorem x_callW {CX : CXT} {x : Str} {p : Pos} {k : Nat} {f : Addr} {fd : FuncData} {ps : List Str} {m : Mir} {E : XK} {sp : Sp} (F : FnOk X.prog X.w X.K X.mg X.base CX k f fd ps sp) (hsp : ∀ vs H Q, spM X.K X.mg m vs H Q E → sp vs H Q E) (hr : Room k X.A) (hg : Gl X x) (hm : X.mg x = some (.ref f)) (hk : PySem.W.keepIn X.K (.ref f) = true) (hb : Binds X.K fd ps []) (hx : Passes CX X E)
    (ha : JA X (a :: es) ma) (hdb : (x == ("__debug__" : Str)) = false := by decide)
    (he : starEach (a :: es) X.env = (false, eval a X.env) :: starEach es X.env := by rfl) (hpl : (backTo pos (starEach es X.env)).any (·.1) = false := by rfl) : JE X (.Call (.Name x p) (a :: es) [] pos) (mCall m ma) := by
  obtain ⟨ta, pa, va⟩ := ha
  refine ⟨_, pe_call F hr hg hm hk hb .nil hx pa hdb he hpl, fun H0 σ H ρ r ok h => ?_⟩
  unfold mCall at h
  obtain ⟨rs, hrs, h⟩ := Option.bind_eq_some_iff.mp h
  intro H1 e1 Q q
  refine va _ _ _ _ _ ok hrs H1 e1 _ fun vs H2 e2 g => ?_
  refine hsp _ _ _ ?_
  rw [List.append_nil]
  exact ⟨rs.map argN, r, ⟨g.norm, ok.tbs.ex (e1.trans e2)⟩, h, fun v H' e' gv => q v H' (e2.trans e') (gv.back e2)⟩
theorem x_call {x : Str} {p : Pos} {k : Nat} {f : Addr} {fd : FuncData} {ps : List Str} {m : Mir} (F : FnOk X.prog X.w X.K X.mg X.base CX0 k f fd ps (spM X.K X.mg m)) (hr : Room k X.A) (hm : X.mg x = some (.ref f)) (hk : PySem.W.keepIn X.K (.ref f) = true) (hb : Binds X.K fd ps [])
    (ha : JA X (a :: es) ma) (hg : Gl X x := by rfl) (hdb : (x == ("__debug__" : Str)) = false := by decide)
    (he : starEach (a :: es) X.env = (false, eval a X.env) :: starEach es X.env := by rfl) (hpl : (backTo pos (starEach es X.env)).any (·.1) = false := by rfl) : JE X (.Call (.Name x p) (a :: es) [] pos) (mCall m ma) :=
  x_callW F (fun _ _ _ h => h) hr hg hm hk hb pass0 ha hdb he hpl
/-! ### built-ins -/
theorem x_blt {x : Str} {p : Pos} {id : String} {r : List V → Hp → VK → Prop} {g : List R → Option R} (hc : CallR X (.builtin id) r) (hg : Gl X x) (hm : X.mg x = none) (hv : bootBuiltins x = some (.builtin id))
    (hr : ∀ rs vs H q Q, g rs = some q → ArgL X.K H vs rs → (∀ v H2, Ex H H2 → Got X.K H v H2 q → Q v H2) → r vs H Q) (ha : JA X (a :: es) ma) (hn : x ≠ "__name__" := by decide) (hdb : (x == ("__debug__" : Str)) = false := by decide)
    (he : starEach (a :: es) X.env = (false, eval a X.env) :: starEach es X.env := by rfl) (hpl : (backTo pos (starEach es X.env)).any (·.1) = false := by rfl) : JE X (.Call (.Name x p) (a :: es) [] pos) (fun ρ => (ma ρ).bind g) := by
  obtain ⟨ta, pa, va⟩ := ha
  refine ⟨_, pe_callB hc hg hm hv pa hn hdb he hpl, fun H0 σ H ρ q ok h => ?_⟩
  obtain ⟨rs, hrs, h⟩ := Option.bind_eq_some_iff.mp h
  intro H1 e1 Q k
  refine va _ _ _ _ _ ok hrs H1 e1 _ fun vs H2 e2 gs => ?_
  exact hr rs vs H2 q Q h gs fun v H3 e3 gv => k v H3 (e2.trans e3) (gv.back e2)
theorem x_bltT {x : Str} {p : Pos} {id : String} {r : List V → Hp → VK → Prop} {g : List R → Option R} (hc : CallR X (.type id) r) (hg : Gl X x) (hm : X.mg x = none) (hv : bootBuiltins x = some (.type id))
    (hr : ∀ rs vs H q Q, g rs = some q → ArgL X.K H vs rs → (∀ v H2, Ex H H2 → Got X.K H v H2 q → Q v H2) → r vs H Q) (ha : JA X (a :: es) ma) (hn : x ≠ "__name__" := by decide) (hdb : (x == ("__debug__" : Str)) = false := by decide)
    (he : starEach (a :: es) X.env = (false, eval a X.env) :: starEach es X.env := by rfl) (hpl : (backTo pos (starEach es X.env)).any (·.1) = false := by rfl) : JE X (.Call (.Name x p) (a :: es) [] pos) (fun ρ => (ma ρ).bind g) := by
  obtain ⟨ta, pa, va⟩ := ha
  refine ⟨_, pe_callTy hc hg hm hv pa hn hdb he hpl, fun H0 σ H ρ q ok h => ?_⟩
  obtain ⟨rs, hrs, h⟩ := Option.bind_eq_some_iff.mp h
  intro H1 e1 Q k
  refine va _ _ _ _ _ ok hrs H1 e1 _ fun vs H2 e2 gs => ?_
  exact hr rs vs H2 q Q h gs fun v H3 e3 gv => k v H3 (e2.trans e3) (gv.back e2)
def gLen : List R → Option R
  | [.dat (.str x)] => if szOk x.length = true then some (.dat (.int x.length)) else none
  | [.dat (.tup x)] => some (.dat (.int x.length))
  | [.lst x] => some (.dat (.int x.length))
  | [.new x] => some (.dat (.int x.length))
  | [.ro x] => some (.dat (.int x.length))
  | _ => none
def mLen (f : ME) : ME := fun ρ => (aCons f aNil ρ).bind gLen
theorem x_len {p : Pos} (hm : X.mg "len" = none) (ha : JE X a f1) (hg : Gl X "len" := by rfl) (hs : starEach (a :: []) X.env = (false, eval a X.env) :: starEach [] X.env := by rfl) : JE X (.Call (.Name "len" p) [a] [] pos) (mLen f1) := by
  refine x_blt call_len hg hm PySem.boot_len (g := gLen) (fun rs vs H q Q h g k => ?_) (a_cons ha a_nil hs) (he := hs)
  unfold gLen at h
  split at h
  · split at h
    · rename_i x hz
      cases h
      cases g with
      | cons g1 g2 =>
        cases g2
        have g1 : Den X.K H _ (.str x) := g1
        cases g1
        exact ⟨_, x.length, rfl, ⟨szOk_of hz, rfl⟩, k _ H (Ex.refl H) (.int _)⟩
    · cases h
  · rename_i x
    cases h
    cases g with
    | cons g1 g2 =>
      cases g2
      have g1 : Den X.K H _ (.tup x) := g1
      cases g1 with
      | tup h1 h2 => exact ⟨_, x.length, rfl, .inr ⟨_, h1, h2.length.symm⟩, k _ H (Ex.refl H) (.int _)⟩
  · rename_i x
    cases h
    cases g with
    | cons g1 g2 =>
      cases g2
      obtain ⟨p, vs, rfl, h1, h2⟩ := g1
      exact ⟨_, x.length, rfl, .inl ⟨_, sq_of h1, h2.length.symm⟩, k _ H (Ex.refl H) (.int _)⟩
  · rename_i x
    cases h
    cases g with
    | cons g1 g2 =>
      cases g2
      obtain ⟨p, vs, rfl, h1, h2⟩ := g1
      exact ⟨_, x.length, rfl, .inl ⟨_, sq_of h1, h2.length.symm⟩, k _ H (Ex.refl H) (.int _)⟩
  · rename_i x
    cases h
    cases g with
    | cons g1 g2 =>
      cases g2
      obtain ⟨p, vs, rfl, h1, h2⟩ := g1
      exact ⟨_, x.length, rfl, .inl ⟨_, h1, h2.length.symm⟩, k _ H (Ex.refl H) (.int _)⟩
  · cases h
def gAbs : List R → Option R
  | [.dat (.int i)] => some (.dat (.int (if i < 0 then -i else i)))
  | _ => none
def mAbs' (f : ME) : ME := fun ρ => (aCons f aNil ρ).bind gAbs
theorem x_abs {p : Pos} (hm : X.mg "abs" = none) (ha : JE X a f1) (hg : Gl X "abs" := by rfl) (hs : starEach (a :: []) X.env = (false, eval a X.env) :: starEach [] X.env := by rfl) : JE X (.Call (.Name "abs" p) [a] [] pos) (mAbs' f1) := by
  refine x_blt call_abs hg hm (by decide +kernel) (g := gAbs) (fun rs vs H q Q h g k => ?_) (a_cons ha a_nil hs) (he := hs)
  unfold gAbs at h
  split at h
  · rename_i i
    cases h
    cases g with
    | cons g1 g2 =>
      cases g2
      have g1 : Den X.K H _ (.int i) := g1
      cases g1
      exact ⟨i, rfl, k _ H (Ex.refl H) (.int _)⟩
  · cases h
def gMax2 : List R → Option R
  | [.dat (.int i), .dat (.int j)] => some (.dat (.int (if j > i then j else i)))
  | _ => none
def gMin2 : List R → Option R
  | [.dat (.int i), .dat (.int j)] => some (.dat (.int (if j < i then j else i)))
  | _ => none
def mMax' (f g : ME) : ME := fun ρ => (aCons f (aCons g aNil) ρ).bind gMax2
def mMin' (f g : ME) : ME := fun ρ => (aCons f (aCons g aNil) ρ).bind gMin2
theorem x_max {p : Pos} (hc : X.calm = true) (hm : X.mg "max" = none) (ha : JE X a f1) (hb : JE X b f2) (hg : Gl X "max" := by rfl) (hs : starEach (a :: [b]) X.env = (false, eval a X.env) :: starEach [b] X.env := by rfl) (hs2 : starEach (b :: []) X.env = (false, eval b X.env) :: starEach [] X.env := by rfl)
    (hpl : (backTo pos (starEach [b] X.env)).any (·.1) = false := by rfl) : JE X (.Call (.Name "max" p) [a, b] [] pos) (mMax' f1 f2) := by
  refine x_blt (call_max2 hc) hg hm (by decide +kernel) (g := gMax2) (fun rs vs H q Q h g k => ?_) (a_cons ha (a_cons hb a_nil hs2) hs) (he := hs) (hpl := hpl)
  unfold gMax2 at h
  split at h
  · rename_i i j
    cases h
    cases g with
    | cons g1 g2 =>
      cases g2 with
      | cons g2 g3 =>
        cases g3
        have g1 : Den X.K H _ (.int i) := g1
        have g2 : Den X.K H _ (.int j) := g2
        cases g1
        cases g2
        exact ⟨i, j, rfl, k _ H (Ex.refl H) (.int _)⟩
  · cases h
theorem x_min {p : Pos} (hc : X.calm = true) (hm : X.mg "min" = none) (ha : JE X a f1) (hb : JE X b f2) (hg : Gl X "min" := by rfl) (hs : starEach (a :: [b]) X.env = (false, eval a X.env) :: starEach [b] X.env := by rfl) (hs2 : starEach (b :: []) X.env = (false, eval b X.env) :: starEach [] X.env := by rfl)
    (hpl : (backTo pos (starEach [b] X.env)).any (·.1) = false := by rfl) : JE X (.Call (.Name "min" p) [a, b] [] pos) (mMin' f1 f2) := by
  refine x_blt (call_min2 hc) hg hm (by decide +kernel) (g := gMin2) (fun rs vs H q Q h g k => ?_) (a_cons ha (a_cons hb a_nil hs2) hs) (he := hs) (hpl := hpl)
  unfold gMin2 at h
  split at h
  · rename_i i j
    cases h
    cases g with
    | cons g1 g2 =>
      cases g2 with
      | cons g2 g3 =>
        cases g3
        have g1 : Den X.K H _ (.int i) := g1
        have g2 : Den X.K H _ (.int j) := g2
        cases g1
        cases g2
        exact ⟨i, j, rfl, k _ H (Ex.refl H) (.int _)⟩
  · cases h
/-! ### + of tuples, lists, texts; * of lists -/
theorem x_catS (ha : JE X a f1) (hb : JE X b f2) : JE X (.BinOp a .Add b pos) (mCatS f1 f2) := by
  obtain ⟨ta, pa, va⟩ := ha
  obtain ⟨tb, pb, vb⟩ := hb
  refine ⟨_, pe_op op_add_str pa pb, fun H0 σ H ρ r ok h => ?_⟩
  unfold mCatS at h
  obtain ⟨i, hi, h⟩ := Option.bind_eq_some_iff.mp h
  obtain ⟨j, hj, h⟩ := Option.bind_eq_some_iff.mp h
  split at h
  · rename_i hz
    cases h
    exact EvR.of (ev_op (va _ _ _ _ _ ok (asStr_some hi)).str (vb _ _ _ _ _ ok (asStr_some hj)).str (rv_val fun H1 _ Q q => ⟨i, j, rfl, rfl, szOk_of hz, q⟩)) fun _ => .str _
  · cases h
theorem x_catT (ha : JE X a f1) (hb : JE X b f2) : JE X (.BinOp a .Add b pos) (mCatT f1 f2) := by
  obtain ⟨ta, pa, va⟩ := ha
  obtain ⟨tb, pb, vb⟩ := hb
  refine ⟨_, pe_op op_catA pa pb, fun H0 σ H ρ r ok h => ?_⟩
  unfold mCatT at h
  obtain ⟨i, hi, h⟩ := Option.bind_eq_some_iff.mp h
  obtain ⟨j, hj, h⟩ := Option.bind_eq_some_iff.mp h
  split at h
  · rename_i hz
    cases h
    intro H1 e1 Q q
    refine (va _ _ _ _ _ ok (asTup_some hi)).tup H1 e1 _ fun p vs H2 e2 hl hdn => ?_
    refine (vb _ _ _ _ _ ok (asTup_some hj)).tup H2 (e1.trans e2) _ fun p2 ws H3 e3 hl2 hdn2 => ?_
    have hd := (hdn.ex e3).append hdn2
    refine ⟨p, p2, vs, ws, rfl, rfl, ex_t e3 hl, hl2, by rw [hdn.length, hdn2.length]; exact szOk_of hz, ?_⟩
    refine ⟨fun z => ?_, fun _ z => ?_, fun _ _ p np => q _ _ ((e2.trans e3).trans (Ex.new np)) (.tup (st_of upd_same) (hd.ex (Ex.new np)))⟩
    · subst z
      exact q _ _ (e2.trans e3) (.tup hl2 hd)
    · subst z
      rw [List.append_nil] at hd
      exact q _ _ (e2.trans e3) (.tup (ex_t e3 hl) hd)
  · cases h
theorem x_catL (ha : JE X a f1) (hb : JE X b f2) : JE X (.BinOp a .Add b pos) (mCatL f1 f2) := by
  obtain ⟨ta, pa, va⟩ := ha
  obtain ⟨tb, pb, vb⟩ := hb
  refine ⟨_, pe_op op_cat pa pb, fun H0 σ H ρ r ok h => ?_⟩
  unfold mCatL at h
  obtain ⟨i, hi, h⟩ := Option.bind_eq_some_iff.mp h
  obtain ⟨j, hj, h⟩ := Option.bind_eq_some_iff.mp h
  split at h
  · rename_i hz
    cases h
    intro H1 e1 Q q
    refine ev_trk hi (fun r hr => va _ _ _ _ _ ok hr) H1 e1 _ fun v H2 e2 ⟨p, vs, hv, hl, hdn⟩ => ?_
    subst hv
    refine ev_trk hj (fun r hr => vb _ _ _ _ _ ok hr) H2 (e1.trans e2) _ fun v H3 e3 ⟨p2, ws, hv, hl2, hdn2⟩ => ?_
    subst hv
    have hd := (hdn.ex e3).append hdn2
    exact ⟨p, p2, vs, ws, rfl, rfl, e3 _ _ hl, hl2, by rw [hdn.length, hdn2.length]; exact szOk_of hz, fun z nz => q _ _ ((e2.trans e3).trans (Ex.new nz)) ⟨z, _, rfl, fresh_back (e2.trans e3) nz, upd_same, hd.ex (Ex.new nz)⟩⟩
  · cases h
theorem x_repL (ha : JE X a f1) (hb : JE X b f2) : JE X (.BinOp a .Mult b pos) (mRepL f1 f2) := by
  obtain ⟨ta, pa, va⟩ := ha
  obtain ⟨tb, pb, vb⟩ := hb
  refine ⟨_, pe_op op_rep pa pb, fun H0 σ H ρ r ok h => ?_⟩
  unfold mRepL at h
  obtain ⟨i, hi, h⟩ := Option.bind_eq_some_iff.mp h
  obtain ⟨j, hj, h⟩ := Option.bind_eq_some_iff.mp h
  split at h
  · rename_i hz
    rw [Bool.and_eq_true] at hz
    obtain ⟨hz1, hz2⟩ := hz
    have hz1 := okP_of hz1
    cases h
    intro H1 e1 Q q
    refine ev_trk hi (fun r hr => va _ _ _ _ _ ok hr) H1 e1 _ fun v H2 e2 ⟨p, vs, hv, hl, hdn⟩ => ?_
    subst hv
    refine (vb _ _ _ _ _ ok (asInt_some hj)).int H2 (e1.trans e2) _ fun H3 e3 => ?_
    exact ⟨p, j, vs, rfl, rfl, e3 _ _ hl, hz1.1, hz1.2, by rw [hdn.length]; exact szOk_of hz2, fun z nz => q _ _ ((e2.trans e3).trans (Ex.new nz)) ⟨z, _, rfl, fresh_back (e2.trans e3) nz, upd_same, ((hdn.ex e3).rep _).ex (Ex.new nz)⟩⟩
  · cases h
theorem x_slT {lo hi : Option Expr} {ml mh : MO} (ha : JE X a f1) (hl : JO X lo ml) (hh : JO X hi mh) {p2 : Pos} : JE X (.Subscript a (.Slice lo hi none p2) pos) (mSlT f1 ml mh) := by
  obtain ⟨ta, pa, va⟩ := ha
  obtain ⟨tl, pl, vl⟩ := hl
  obtain ⟨th, ph, vh⟩ := hh
  refine ⟨_, pe_slice sl_tupA pa pl ph, fun H0 σ H ρ r ok h => ?_⟩
  unfold mSlT at h
  obtain ⟨xs, hx, h⟩ := Option.bind_eq_some_iff.mp h
  obtain ⟨l, hl, h⟩ := Option.bind_eq_some_iff.mp h
  obtain ⟨u, hu, h⟩ := Option.map_eq_some_iff.mp h
  subst h
  intro H1 e1 Q q
  refine (va _ _ _ _ _ ok (asTup_some hx)).tup H1 e1 _ fun p vs H2 e2 hl' hdn => ?_
  refine vl _ _ _ _ _ ok hl H2 (e1.trans e2) _ fun H3 e3 => ?_
  refine vh _ _ _ _ _ ok hu H3 ((e1.trans e2).trans e3) _ fun H4 e4 => ?_
  have hc := cut_den (hdn.ex (e3.trans e4)) l u
  refine ⟨p, vs, rfl, ex_t (e3.trans e4) hl', fun z => q _ _ ((e2.trans e3).trans e4) ?_, fun _ z nz => q _ _ (((e2.trans e3).trans e4).trans (Ex.new nz)) (.tup (st_of upd_same) (hc.ex (Ex.new nz)))⟩
  have e : cutV vs l u = vs := by
    unfold cutV
    rw [z.1, z.2, Nat.sub_zero, List.drop_zero, List.take_length]
  rw [e] at hc
  exact .tup (ex_t (e3.trans e4) hl') hc
end
end
end Tl

namespace Tl
open PySem PySem.Spec PyProof.Rows L2 Evl
noncomputable section
/-! ### statements -/
inductive F where
  | nx (ρ : Rho) | ret (r : R) | brk (ρ : Rho) | cnt (ρ : Rho) | exc (c : Str) (fs : List (Str × D)) (ρ : Rho) | exc0 (c : Str) (ρ : Rho)
abbrev MS := Rho → Option F
def Post (X : Cx) (H0 : Hp) (D : Ends) (W : WX) : F → Prop
  | .nx ρ => ∀ σ H, Ok X H0 σ H ρ → D.nx σ H
  | .brk ρ => ∀ σ H, Ok X H0 σ H ρ → D.bk σ H
  | .cnt ρ => ∀ σ H, Ok X H0 σ H ρ → D.ct σ H
  | .ret r => ∀ v H, Ex H0 H → Got X.K H0 v H r → D.rt v H
  | .exc c fs ρ => ∀ C d σ H gs, X.mg c = some (.ref C) → Ok X H0 σ H ρ → H0 d = none → H d = some (.xd gs) → FldL X.K H gs fs → W (.ref C) (some d) σ H
  | .exc0 c ρ => ∀ C σ H, X.mg c = some (.ref C) → Ok X H0 σ H ρ → W (.ref C) none σ H
def JS (X : Cx) (W : WX) (st : Stmt) (m : MS) : Prop := ∃ ts, PS X st ts ∧ ∀ H0 D σ H ρ fl, Ok X H0 σ H ρ → m ρ = some fl → Post X H0 D W fl → ts D σ H
def JB (X : Cx) (W : WX) (st : List Stmt) (m : MS) : Prop := ∃ ts, PSs X st ts ∧ ∀ H0 D σ H ρ fl, Ok X H0 σ H ρ → m ρ = some fl → Post X H0 D W fl → ts D σ H
def mSkip : MS := fun ρ => some (.nx ρ)
def mSeq (s t : MS) : MS := fun ρ => match s ρ with
  | some (.nx ρ') => t ρ'
  | r => r
def setR (i : Nat) (ρ : Rho) : Option R → Option Rho
  | some (.dat d) => some (ρ.set i (.dat d))
  | some (.new xs) => some (ρ.set i (.own xs))
  | _ => none
def mSet (i : Nat) (f : ME) : MS := fun ρ => (setR i ρ (f ρ)).map .nx
def retR : Option R → Option F
  | some (.dat d) => some (.ret (.dat d))
  | some (.new xs) => some (.ret (.new xs))
  | _ => none
def mRet (f : ME) : MS := fun ρ => retR (f ρ)
def mRetV (i : Nat) : MS := fun ρ => match ρ[i]? with
  | some (.dat d) => some (.ret (.dat d))
  | some (.own xs) => some (.ret (.new xs))
  | _ => none
def mIf (t : MT) (s u : MS) : MS := fun ρ => (t ρ).bind fun b => if b = true then s ρ else u ρ
def mDrop (f : ME) : MS := fun ρ => (f ρ).map fun _ => .nx ρ
def mApp (i : Nat) (f : ME) : MS := fun ρ => match ρ[i]? with
  | some (.own xs) => (asDat (f ρ)).bind fun d => if szOk (xs.length + 1) = true then some (.nx (ρ.set i (.own (xs ++ [d])))) else none
  | _ => none
def mExt (i : Nat) (f : ME) : MS := fun ρ => match ρ[i]? with
  | some (.own xs) => (match f ρ with
    | some (.new ys) => if szOk (xs.length + ys.length) = true then some (.nx (ρ.set i (.own (xs ++ ys)))) else none
    | _ => none)
  | _ => none
def mSetI (i : Nat) (fi fv : ME) : MS := fun ρ => match ρ[i]? with
  | some (.own xs) => (asDat (fv ρ)).bind fun d => (asInt (fi ρ)).bind fun k => (ixN xs.length k).map fun j => .nx (ρ.set i (.own (xs.set j d)))
  | _ => none
def mAug (c : Int → Int → Bool) (g : Int → Int → Int) (i : Nat) (f : ME) : MS := fun ρ => (asInt (mVar i ρ)).bind fun a => (asInt (f ρ)).bind fun b => if c a b = true then some (.nx (ρ.set i (.dat (.int (g a b))))) else none
abbrev MG := D → Rho → Option Rho
def gNm (i : Nat) : MG := fun d ρ => some (ρ.set i (.dat d))
abbrev MGs := List D → Rho → Option Rho
def gNil' : MGs := fun ds ρ => match ds with
  | [] => some ρ
  | _ => none
def gCons' (g : MG) (r : MGs) : MGs := fun ds ρ => match ds with
  | d :: ds => (g d ρ).bind fun ρ' => r ds ρ'
  | _ => none
def gTp (r : MGs) : MG := fun d ρ => match d with
  | .tup ds => r ds ρ
  | _ => none
def mAsg (g : MG) (f : ME) : MS := fun ρ => (asDat (f ρ)).bind fun d => (g d ρ).map .nx
def mAsgL (g : MGs) (f : ME) : MS := fun ρ => (asLst (f ρ)).bind fun d => (g d ρ).map .nx
def loopM (g : MG) (body : MS) : List D → Rho → Option F
  | [], ρ => some (.nx ρ)
  | x :: xs, ρ => (g x ρ).bind fun ρ1 => match body ρ1 with
    | some (.nx ρ') => loopM g body xs ρ'
    | some (.cnt ρ') => loopM g body xs ρ'
    | some (.brk ρ') => some (.nx ρ')
    | r => r
abbrev MI := Rho → Option (List D × Rho)
def mFor (mi : MI) (g : MG) (body : MS) : MS := fun ρ => (mi ρ).bind fun p => loopM g body p.1 p.2

section
variable {X : Cx} {W : WX} {a b c e : Expr} {pos : Pos} {f1 f2 f3 : ME} {es : List Expr} {ma : MA} {m1 m2 : MS} {st : Stmt} {sts : List Stmt} {t : MT}
theorem Post.up {H0 H0' : Hp} {D : Ends} {fl : F} (e : Ex H0 H0') (h : Post X H0 D W fl) : Post X H0' D W fl := by
  have w : ∀ {σ : L2.St} {H : Hp} {ρ : Rho}, Ok X H0' σ H ρ → Ok X H0 σ H ρ := fun {σ H ρ} ⟨B, o⟩ => ⟨B, ⟨e.trans o.e0.ex, o.e0.tb⟩, o.e1, o.len, o.slot, o.inj⟩
  cases fl with
  | nx ρ => exact fun σ H o => h σ H (w o)
  | brk ρ => exact fun σ H o => h σ H (w o)
  | cnt ρ => exact fun σ H o => h σ H (w o)
  | ret r => exact fun v H e' g => h v H (e.trans e') (g.back e)
  | exc c fs ρ => exact fun C d σ H gs hm o n => h C d σ H gs hm (w o) (fresh_back e n)
  | exc0 c ρ => exact fun C σ H hm o => h C σ H hm (w o)
theorem b_nil : JB X W [] mSkip := ⟨_, pss_nil, fun H0 D σ H ρ fl ok h p => by cases h; exact p σ H ok⟩
theorem b_one (h : JS X W st m1) : JB X W [st] m1 := by
  obtain ⟨ts, p, v⟩ := h
  exact ⟨ts, pss_one p, v⟩
theorem b_cons (h1 : JS X W st m1) (h2 : JB X W sts m2) : JB X W (st :: sts) (mSeq m1 m2) := by
  obtain ⟨ts, p, v⟩ := h1
  obtain ⟨tr, pr, vr⟩ := h2
  refine ⟨_, pss_cons p pr, fun H0 D σ H ρ fl ok h q => ?_⟩
  unfold mSeq at h
  show ts { D with nx := tr D } σ H
  cases hm : m1 ρ with
  | none => rw [hm] at h; cases h
  | some fl1 =>
    refine v H0 _ σ H ρ fl1 ok hm ?_
    rw [hm] at h
    cases fl1 with
    | nx ρ' => exact fun σ' H' ok' => vr H0 D σ' H' ρ' fl ok' h q
    | brk ρ' => cases h; exact q
    | cnt ρ' => cases h; exact q
    | ret r => cases h; exact q
    | exc c fs ρ' => cases h; exact q
    | exc0 c ρ' => cases h; exact q
theorem s_pass : JS X W (.Pass pos) mSkip := ⟨_, ps_pass, fun H0 D σ H ρ fl ok h p => by cases h; exact p σ H ok⟩
theorem setR_ok {H0 H H2 : Hp} {σ : L2.St} {ρ ρ' : Rho} {i : Nat} {r : R} {v : V} (ok : Ok X H0 σ H ρ) (h : setR i ρ (some r) = some ρ') (e : Ex H H2) (g : Got X.K H v H2 r) : Ok X H0 (σ.set i (some v)) H2 ρ' := by
  cases r with
  | dat d => cases h; exact (ok.ex e).set g
  | new xs =>
    cases h
    obtain ⟨p, vs, hv, hn, hl, hd⟩ := g
    subst hv
    exact ok.setL e hn hl hd
  | lst xs => cases h
  | ro xs => cases h
theorem s_set (i : Nat) {x : Str} {pos' : Pos} (hN : X.N.Nodup) (he : JE X e f1) (hi : X.N[i]? = some x := by rfl) (hx : Loc X.env.scope x := by first | exact Or.inl rfl | exact Or.inr rfl) (hs : swapsWith e (some (.Name x pos')) pos.line X.env = pure false := by rfl)
    (hf : X.fn x = true ∨ X.env.scope.names.lookup x = some .local := by first | exact .inl rfl | exact .inr rfl | assumption) : JS X W (.Assign [.Name x pos'] e pos) (mSet i f1) := by
  obtain ⟨te, p, v⟩ := he
  refine ⟨_, ps_set hN hi hx p hs hf, fun H0 D σ H ρ fl ok h q => ?_⟩
  unfold mSet at h
  obtain ⟨ρ', h1, h2⟩ := Option.map_eq_some_iff.mp h
  subst h2
  cases hr : f1 ρ with
  | none => rw [hr] at h1; cases h1
  | some r =>
    rw [hr] at h1
    exact v _ _ _ _ _ ok hr H (Ex.refl H) _ fun w H2 e2 g => q _ _ (setR_ok ok h1 e2 g)
theorem s_ret (he : JE X e f1) : JS X W (.Return (some e) pos) (mRet f1) := by
  obtain ⟨te, p, v⟩ := he
  refine ⟨_, ps_ret p, fun H0 D σ H ρ fl ok h q => ?_⟩
  unfold mRet at h
  cases hr : f1 ρ with
  | none => rw [hr] at h; cases h
  | some r =>
    rw [hr] at h
    refine v _ _ _ _ _ ok hr H (Ex.refl H) _ fun w H2 e2 g => ?_
    cases r with
    | dat d => cases h; exact q w H2 (ok.base.trans e2) (g.back ok.base)
    | new xs => cases h; exact q w H2 (ok.base.trans e2) (g.back ok.base)
    | lst xs => cases h
    | ro xs => cases h
theorem s_retV (i : Nat) {x : Str} {pos' : Pos} (hN : X.N[i]? = some x := by rfl) (hv : Vis X.env.scope x := by first | exact Or.inl rfl | exact Or.inr (Or.inl rfl) | exact Or.inr (Or.inr rfl)) (hd : (x == ("__debug__" : Str)) = false := by decide)
    (hcd : (x == ("__classdict__" : Str)) = false := by decide) : JS X W (.Return (some (.Name x pos')) pos) (mRetV i) := by
  refine ⟨_, ps_ret (pe_var hN hv hd hcd), fun H0 D σ H ρ fl ok h q => ?_⟩
  have ba := ok.base
  obtain ⟨B, ok⟩ := ok
  unfold mRetV at h
  split at h
  · rename_i d hd
    cases h
    obtain ⟨v, s, g⟩ := ok.slot i _ hd
    exact ⟨v, s, q v H ba g⟩
  · rename_i xs hd
    cases h
    obtain ⟨a, vs, s, n, l, g⟩ := ok.slot i _ hd
    exact ⟨_, s, q _ H ba ⟨a, vs, rfl, fresh_back ok.e0.ex n, l, g⟩⟩
  · cases h
theorem s_if {sa sb : List Stmt} (hc : JT X c t) (ha : JB X W sa m1) (hb : JB X W sb m2) : JS X W (.If c sa sb pos) (mIf t m1 m2) := by
  obtain ⟨tc, pc, vc⟩ := hc
  obtain ⟨ta, pa, va⟩ := ha
  obtain ⟨tb, pb, vb⟩ := hb
  refine ⟨_, ps_if pc pa pb, fun H0 D σ H ρ fl ok h q => ?_⟩
  unfold mIf at h
  obtain ⟨k, hk, h⟩ := Option.bind_eq_some_iff.mp h
  refine vc _ _ _ _ _ ok hk H (Ex.refl H) _ fun H2 e2 => ?_
  cases k with
  | true => exact va _ D σ H2 ρ fl (ok.ex e2) h q
  | false => exact vb _ D σ H2 ρ fl (ok.ex e2) h q
theorem s_expr (he : JE X e f1) (hs : swapsWith e none pos.line X.env = pure false := by rfl) : JS X W (.Expr e pos) (mDrop f1) := by
  obtain ⟨te, p, v⟩ := he
  refine ⟨_, ps_expr p hs, fun H0 D σ H ρ fl ok h q => ?_⟩
  unfold mDrop at h
  obtain ⟨r, hr, h⟩ := Option.map_eq_some_iff.mp h
  subst h
  exact v _ _ _ _ _ ok hr H (Ex.refl H) _ fun w H2 e2 g => q σ H2 (ok.ex e2)
theorem Ok.own {H0 H : Hp} {σ : L2.St} {ρ : Rho} {i : Nat} {xs : List D} (ok : Ok X H0 σ H ρ) (h : ρ[i]? = some (.own xs)) : ∃ a vs, σ[i]? = some (some (.ref a)) ∧ H a = some (.lst vs) ∧ DenL X.K H vs xs := by
  obtain ⟨B, ok⟩ := ok
  obtain ⟨a, vs, s, n, l, g⟩ := ok.slot i _ h
  exact ⟨a, vs, s, l, g⟩
theorem s_app (i : Nat) {x : Str} {p1 p2 p3 : Pos} (he : JE X e f1) (hN : X.N[i]? = some x := by rfl) (hv : Vis X.env.scope x := by first | exact Or.inl rfl | exact Or.inr (Or.inl rfl) | exact Or.inr (Or.inr rfl)) (hd : (x == ("__debug__" : Str)) = false := by decide)
    (hcd : (x == ("__classdict__" : Str)) = false := by decide) (hst : starEach (e :: []) X.env = (false, eval e X.env) :: starEach [] X.env := by rfl)
    (hs : swapsWith (.Call (.Attribute (.Name x p1) "append" p2) [e] [] p3) none pos.line X.env = pure false := by rfl)
    (hpe : ∀ to ta, PE X (.Name x p1) to → PA X [e] ta → PE X (.Call (.Attribute (.Name x p1) "append" p2) [e] [] p3) (tBM X.K "list" rAppend to ta) := by exact fun _ _ h1 h2 => pe_bm PySem.F.plainAttrs_list PySem.F.slot_list_append PySem.F.type_list_append mt_append h1 h2) : JS X W (.Expr (.Call (.Attribute (.Name x p1) "append" p2) [e] [] p3) pos) (mApp i f1) := by
  obtain ⟨te, p, v⟩ := he
  refine ⟨_, ps_expr (hpe _ _ (pe_var hN hv hd hcd) (pa_cons p pa_nil hst)) hs, fun H0 D σ H ρ fl ok h q => ?_⟩
  unfold mApp at h
  split at h
  · rename_i xs hx
    obtain ⟨d, hd', h⟩ := Option.bind_eq_some_iff.mp h
    split at h
    · rename_i hz
      cases h
      obtain ⟨l, vs, s, hl', g⟩ := ok.own hx
      refine ⟨_, s, .inl ⟨rfl, _, sq_of hl'⟩, ?_⟩
      refine v _ _ _ _ _ ok (asDat_some hd') H (Ex.refl H) _ fun w H2 e2 gw => ?_
      refine ⟨l, vs, w, rfl, rfl, e2 _ _ hl', ?_, q _ _ ((ok.ex e2).mut hx s (e2 _ _ hl') ((g.ex e2).append (.cons gw .nil)))⟩
      have z : xs.length + 1 ≤ 100000 := okP_of hz
      rw [g.length]
      exact sz_lt (by omega)
    · cases h
  · cases h
theorem s_ext (i : Nat) {x : Str} {p1 p2 p3 : Pos} (he : JE X e f1) (hN : X.N[i]? = some x := by rfl) (hv : Vis X.env.scope x := by first | exact Or.inl rfl | exact Or.inr (Or.inl rfl) | exact Or.inr (Or.inr rfl)) (hd : (x == ("__debug__" : Str)) = false := by decide)
    (hcd : (x == ("__classdict__" : Str)) = false := by decide) (hst : starEach (e :: []) X.env = (false, eval e X.env) :: starEach [] X.env := by rfl)
    (hs : swapsWith (.Call (.Attribute (.Name x p1) "extend" p2) [e] [] p3) none pos.line X.env = pure false := by rfl)
    (hpe : ∀ to ta, PE X (.Name x p1) to → PA X [e] ta → PE X (.Call (.Attribute (.Name x p1) "extend" p2) [e] [] p3) (tBM X.K "list" rExtend to ta) := by exact fun _ _ h1 h2 => pe_bm PySem.F.plainAttrs_list PySem.F.slot_list_extend PySem.F.type_list_extend mt_extend h1 h2) : JS X W (.Expr (.Call (.Attribute (.Name x p1) "extend" p2) [e] [] p3) pos) (mExt i f1) := by
  obtain ⟨te, p, v⟩ := he
  refine ⟨_, ps_expr (hpe _ _ (pe_var hN hv hd hcd) (pa_cons p pa_nil hst)) hs, fun H0 D σ H ρ fl ok h q => ?_⟩
  unfold mExt at h
  split at h
  · rename_i xs hx
    split at h
    · rename_i ys hy
      split at h
      · rename_i hz
        cases h
        obtain ⟨l, vs, s, hl', g⟩ := ok.own hx
        refine ⟨_, s, .inl ⟨rfl, _, sq_of hl'⟩, ?_⟩
        refine v _ _ _ _ _ ok hy H (Ex.refl H) _ fun w H2 e2 ⟨b, ws, hw, nb, hb2, gw⟩ => ?_
        subst hw
        refine ⟨l, b, vs, ws, rfl, rfl, e2 _ _ hl', hb2, ?_, q _ _ ((ok.ex e2).mut hx s (e2 _ _ hl') ((g.ex e2).append gw))⟩
        rw [g.length, gw.length]
        exact szOk_of hz
      · cases h
    · cases h
  · cases h
theorem s_setI (i : Nat) {x : Str} {p1 p2 : Pos} {fi fv : ME} {ei ev : Expr} (hi : JE X ei fi) (he : JE X ev fv) (hN : X.N[i]? = some x := by rfl) (hv : Vis X.env.scope x := by first | exact Or.inl rfl | exact Or.inr (Or.inl rfl) | exact Or.inr (Or.inr rfl)) (hd : (x == ("__debug__" : Str)) = false := by decide)
    (hcd : (x == ("__classdict__" : Str)) = false := by decide) (hpg : ∀ to ti, PE X (.Name x p1) to → PE X ei ti → PG X (.Subscript (.Name x p1) ei p2) (gSub to ti rSetL) := by exact fun to ti h1 h2 => pg_sub h1 h2 set_list)
    (hs : swapsWithSole [.Subscript (.Name x p1) ei p2] ev pos.line X.env = pure false := by rfl) (hw : swappedStores [.Subscript (.Name x p1) ei p2] ev X.env = pure none := by rfl) : JS X W (.Assign [.Subscript (.Name x p1) ei p2] ev pos) (mSetI i fi fv) := by
  obtain ⟨ti, pi, vi⟩ := hi
  obtain ⟨te, p, v⟩ := he
  refine ⟨_, ps_asg p (hpg _ _ (pe_var hN hv hd hcd) pi) hs hw, fun H0 D σ H ρ fl ok h q => ?_⟩
  unfold mSetI at h
  split at h
  · rename_i xs hx
    obtain ⟨d, hd', h⟩ := Option.bind_eq_some_iff.mp h
    obtain ⟨k, hk, h⟩ := Option.bind_eq_some_iff.mp h
    obtain ⟨j, hj, h⟩ := Option.map_eq_some_iff.mp h
    subst h
    obtain ⟨l, vs, s, hl', g⟩ := ok.own hx
    refine v _ _ _ _ _ ok (asDat_some hd') H (Ex.refl H) _ fun w H2 e2 gw => ?_
    refine ⟨_, s, ?_⟩
    refine (vi _ _ _ _ _ ok (asInt_some hk)).int H2 e2 _ fun H3 e3 => ?_
    exact ⟨l, vs, k, j, rfl, rfl, e3 _ _ (e2 _ _ hl'), by rw [g.length]; exact hj, q _ _ (((ok.ex e2).ex e3).mut hx s (e3 _ _ (e2 _ _ hl')) (((g.ex e2).ex e3).set j (Den.ex gw e3)))⟩
  · cases h
theorem s_aug (i : Nat) {x : Str} {op : Operator} {pos' : Pos} {C : Int → Int → Prop} {c : Int → Int → Bool} {g : Int → Int → Int} (ho : OpR X (inplaceOp op) (rI C fun a b => .int (g a b))) (hc : ∀ i j, c i j = true → C i j) (hN : X.N.Nodup) (he : JE X e f1) (hi : X.N[i]? = some x := by rfl)
    (hx : Loc X.env.scope x := by first | exact Or.inl rfl | exact Or.inr rfl) (hf : X.fn x = true ∨ X.env.scope.names.lookup x = some .local := by first | exact .inl rfl | exact .inr rfl | assumption) :
    JS X W (.AugAssign (.Name x pos') op e pos) (mAug c g i f1) := by
  obtain ⟨te, p, v⟩ := he
  refine ⟨_, ps_aug hN hi hx p ho hf, fun H0 D σ H ρ fl ok h q => ?_⟩
  unfold mAug at h
  obtain ⟨a, ha, h⟩ := Option.bind_eq_some_iff.mp h
  obtain ⟨b, hb, h⟩ := Option.bind_eq_some_iff.mp h
  split at h
  · rename_i hcc
    cases h
    have hs : σ[i]? = some (some (.int a)) := by
      have ha := asInt_some ha
      obtain ⟨B, ok⟩ := ok
      unfold mVar at ha
      split at ha
      · rename_i d hd
        cases ha
        obtain ⟨v, s, g⟩ := ok.slot i _ hd
        cases g
        exact s
      · cases ha
      · cases ha
      · cases ha
    refine ⟨_, hs, ?_⟩
    refine (v _ _ _ _ _ ok (asInt_some hb)).int H (Ex.refl H) _ fun H2 e2 => ?_
    exact ⟨a, b, rfl, rfl, hc _ _ hcc, q _ _ ((ok.ex e2).set (.int _))⟩
  · cases h
/-! targets -/
def JG (X : Cx) (tg : Expr) (g : MG) : Prop := ∃ t, PG X tg t ∧ ∀ H0 σ H ρ v d ρ', Ok X H0 σ H ρ → Den X.K H v d → g d ρ = some ρ' → ∀ Q : L2.St → Hp → Prop, (∀ σ', Ok X H0 σ' H ρ' → Q σ' H) → t v σ H Q
def JGs (X : Cx) (tgs : List Expr) (g : MGs) : Prop := ∃ t, PGs X tgs t ∧ ∀ H0 σ H ρ vs ds ρ', Ok X H0 σ H ρ → DenL X.K H vs ds → g ds ρ = some ρ' → ∀ Q : L2.St → Hp → Prop, (∀ σ', Ok X H0 σ' H ρ' → Q σ' H) → t vs σ H Q
theorem g_nm (i : Nat) {x : Str} (hN : X.N.Nodup) (hi : X.N[i]? = some x := by rfl) (hx : Loc X.env.scope x := by first | exact Or.inl rfl | exact Or.inr rfl) (hf : X.fn x = true ∨ X.env.scope.names.lookup x = some .local := by first | exact .inl rfl | exact .inr rfl | assumption) :
    JG X (.Name x pos) (gNm i) := ⟨_, pg_name hN hi hx hf, fun H0 σ H ρ v d ρ' ok hd h Q q => by cases h; exact q _ (ok.set hd)⟩
theorem gs_nil : JGs X [] gNil' := ⟨_, pgs_nil, fun H0 σ H ρ vs ds ρ' ok hd h Q q => by
  cases hd with
  | nil => cases h; exact ⟨rfl, q _ ok⟩
  | cons _ _ => cases h⟩
theorem gs_cons {g : MG} {gs : MGs} (h1 : JG X e g) (h2 : JGs X es gs) (hpg : ∀ t u, PG X e t → PGs X es u → PGs X (e :: es) (gCons t u) := by exact fun t u h1 h2 => pgs_cons h1 h2) : JGs X (e :: es) (gCons' g gs) := by
  obtain ⟨t, p, v⟩ := h1
  obtain ⟨u, pu, vu⟩ := h2
  refine ⟨_, hpg _ _ p pu, fun H0 σ H ρ vs ds ρ' ok hd h Q q => ?_⟩
  cases hd with
  | nil => cases h
  | cons hd1 hd2 =>
    obtain ⟨ρ1, h1, h2⟩ := Option.bind_eq_some_iff.mp (show (g _ ρ).bind (fun ρ' => gs _ ρ') = some ρ' from h)
    refine ⟨_, _, rfl, ?_⟩
    exact v _ _ _ _ _ _ _ ok hd1 h1 _ fun σ1 ok1 => vu _ _ _ _ _ _ _ ok1 hd2 h2 Q q
theorem g_tp {gs : MGs} {k : Nat} {n : Nat} (hc : X.calm = true) (h : JGs X es gs) (hpg : ∀ t, PGs X es t → PG X (.Tuple es k pos) (gTup X.K n t) := by exact fun t h => pg_tup rfl h) (hl : ∀ ds ρ ρ', gs ds ρ = some ρ' → ds.length = n) : JG X (.Tuple es k pos) (gTp gs) := by
  obtain ⟨t, p, v⟩ := h
  refine ⟨_, hpg _ p, fun H0 σ H ρ w d ρ' ok hd h Q q => ?_⟩
  cases hd with
  | non => cases h
  | bl _ => cases h
  | int _ => cases h
  | str _ => cases h
  | dic _ _ => cases h
  | tup h1 h2 => exact ⟨_, _, rfl, h1, by rw [h2.length]; exact hl _ _ _ h, v _ _ _ _ _ _ _ ok h2 h Q q⟩
theorem gs_len0 : ∀ ds ρ ρ', gNil' ds ρ = some ρ' → ds.length = 0 := fun ds ρ ρ' h => by
  cases ds with
  | nil => rfl
  | cons _ _ => cases h
theorem gs_lenS {g : MG} {gs : MGs} {n : Nat} (hl : ∀ ds ρ ρ', gs ds ρ = some ρ' → ds.length = n) : ∀ ds ρ ρ', gCons' g gs ds ρ = some ρ' → ds.length = n + 1 := fun ds ρ ρ' h => by
  cases ds with
  | nil => cases h
  | cons d ds =>
    obtain ⟨ρ1, h1, h2⟩ := Option.bind_eq_some_iff.mp (show (g _ ρ).bind (fun ρ' => gs _ ρ') = some ρ' from h)
    exact congrArg (· + 1) (hl _ _ _ h2)
theorem s_asg {tg : Expr} {g : MG} (he : JE X e f1) (hg : JG X tg g) (h1 : List.map (fun x => x.snd) (assignEach [tg] X.env) = [assign tg X.env] := by rfl) (hs : swapsWithSole [tg] e pos.line X.env = pure false := by rfl) (hw : swappedStores [tg] e X.env = pure none := by rfl) : JS X W (.Assign [tg] e pos) (mAsg g f1) := by
  obtain ⟨te, p, v⟩ := he
  obtain ⟨t, pg, vg⟩ := hg
  refine ⟨_, ps_asg p pg hs hw h1, fun H0 D σ H ρ fl ok h q => ?_⟩
  unfold mAsg at h
  obtain ⟨d, hd, h⟩ := Option.bind_eq_some_iff.mp h
  obtain ⟨ρ', hr, h⟩ := Option.map_eq_some_iff.mp h
  subst h
  exact v _ _ _ _ _ ok (asDat_some hd) H (Ex.refl H) _ fun w H2 e2 gw => vg _ _ _ _ _ _ _ (ok.ex e2) gw hr _ fun σ' ok' => q σ' H2 ok'
theorem s_asgL {gs : MGs} {k : Nat} {n : Nat} {p2 : Pos} (hc : X.calm = true) (he : JE X e f1) (hg : JGs X es gs) (hpg : ∀ t, PGs X es t → PG X (.Tuple es k p2) (gUnl X.K n t) := by exact fun t h => pg_unl rfl h) (hl : ∀ ds ρ ρ', gs ds ρ = some ρ' → ds.length = n)
    (hs : swapsWithSole [.Tuple es k p2] e pos.line X.env = pure false := by rfl) (hw : swappedStores [.Tuple es k p2] e X.env = pure none := by rfl) : JS X W (.Assign [.Tuple es k p2] e pos) (mAsgL gs f1) := by
  obtain ⟨te, p, v⟩ := he
  obtain ⟨t, pg, vg⟩ := hg
  refine ⟨_, ps_asg p (hpg _ pg) hs hw, fun H0 D σ H ρ fl ok h q => ?_⟩
  unfold mAsgL at h
  obtain ⟨d, hd, h⟩ := Option.bind_eq_some_iff.mp h
  obtain ⟨ρ', hr, h⟩ := Option.map_eq_some_iff.mp h
  subst h
  refine ev_lst hd (fun r hr => v _ _ _ _ _ ok hr) H (Ex.refl H) _ fun w H2 e2 ⟨p, vs, hv, hl', hdn⟩ => ?_
  subst hv
  exact ⟨_, _, rfl, hl', by rw [hdn.length]; exact hl _ _ _ hr, vg _ _ _ _ _ _ _ (ok.ex e2) hdn hr _ fun σ' ok' => q σ' H2 ok'⟩
end
end
end Tl

namespace Tl
open PySem PySem.Spec PyProof.Rows L2 Evl
noncomputable section
/-! ### all that no slot owns, kept -/
def Owned (σ : L2.St) (ρ : Rho) (b : Addr) : Prop := ∃ (i : Nat) (xs : List D), ρ[i]? = some (.own xs) ∧ σ[i]? = some (some (.ref b))
open Classical in
def hidO (σ : L2.St) (ρ : Rho) (H : Hp) : Hp := fun b => if Owned σ ρ b then none else H b
section
variable {X : Cx} {H0 H B : Hp} {σ : L2.St} {ρ : Rho}
theorem hidO_no {b : Addr} (h : ¬ Owned σ ρ b) : hidO σ ρ H b = H b := if_neg h
theorem hidO_yes {b : Addr} (h : Owned σ ρ b) : hidO σ ρ H b = none := if_pos h
theorem hidO_ex : Ex (hidO σ ρ H) H := exI fun b o h => by
  by_cases q : Owned σ ρ b
  · rw [hidO_yes q] at h; cases h
  · rw [hidO_no q] at h; exact h
theorem OkB.owned {b : Addr} (ok : OkB X H0 B σ H ρ) (h : Owned σ ρ b) : B b = none ∧ ∃ vs, H b = some (.lst vs) := by
  obtain ⟨i, xs, hi, si⟩ := h
  obtain ⟨a, vs, s, n, l, _⟩ := ok.slot i _ hi
  rw [s] at si
  cases si
  exact ⟨n, vs, l⟩
theorem OkB.hid (ok : OkB X H0 B σ H ρ) : Ex B (hidO σ ρ H) := ok.e1.but fun b h => by
  exact hidO_no fun q => h (ok.owned q).1
theorem OkB.tex (ok : OkB X H0 B σ H ρ) : TEx X.K H (hidO σ ρ H) := by
  have nl : ∀ a o, H a = some o → (∀ vs, o ≠ .lst vs) → ¬ Owned σ ρ a := fun a o h hn q => by
    obtain ⟨_, vs, z⟩ := ok.owned q
    rw [z] at h; cases h
    exact hn vs rfl
  refine ⟨fun a xs h => ?_, fun a kvs h => ?_⟩
  · rcases h with (h | ⟨o, h⟩) | h
    · exact .inl (.inl (by rw [hidO_no (nl _ _ h (by intro _ z; cases z))]; exact h))
    · exact .inl (.inr ⟨o, by rw [hidO_no (nl _ _ h (by intro _ z; cases z))]; exact h⟩)
    · exact .inr h
  · rw [hidO_no (nl _ _ h (by intro _ z; cases z))]; exact h
theorem OkB.pin (ok : OkB X H0 B σ H ρ) : Ok X (hidO σ ρ H) σ H ρ := by
  refine ⟨hidO σ ρ H, ⟨Ex.refl _, ok.e0.tb.ex ok.hid⟩, hidO_ex, ok.len, fun i c hi => ?_, ok.inj⟩
  have z := ok.slot i c hi
  cases c with
  | un => trivial
  | dat d => exact z
  | own xs =>
    obtain ⟨a, vs, s, n, l, g⟩ := z
    exact ⟨a, vs, s, hidO_yes ⟨i, xs, hi, s⟩, l, g⟩
  | bor xs =>
    obtain ⟨a, vs, s, l, g⟩ := z
    exact ⟨a, vs, s, ex_l ok.hid l, g⟩
  | exc c fs =>
    obtain ⟨a, oe, C, h1, h2, h3, h4, h5, h6⟩ := z
    exact ⟨a, oe, C, h1, h2, h3, h4, h5.ex ok.hid, h6.imp ok.hid .refl⟩
  | fn x => exact z
theorem OkB.fresh {a : Addr} {H1 : Hp} (ok : OkB X H0 B σ H1 ρ) (h : H1 a = none) : ¬ Owned σ ρ a := fun q => by
  obtain ⟨_, vs, z⟩ := ok.owned q
  rw [z] at h; cases h
end

/-! ### what a loop walks -/
/-- J walks ds, whatever is done while H0 stands -/
structure ItD (K : PySem.W.Frag) (H0 : Hp) (J : It) (ds : List D) : Prop where
  go : ∀ i H, Ex H0 H → i < ds.length → J.go i H
  yld : ∀ i H x H', Ex H0 H → i < ds.length → J.yld i H x H' → Ex H H' ∧ ∃ d, ds[i]? = some d ∧ Den K H' x d
  stop : ∀ i H, Ex H0 H → ds.length ≤ i → J.stop i H
def JI (X : Cx) (tg it : Expr) (m : MI) : Prop := ∃ wi, PI X tg it wi ∧ ∀ H0 σ H ρ ds ρ', Ok X H0 σ H ρ → m ρ = some (ds, ρ') → ∀ R' : It → Hp → Prop,
  (∀ J H1 H0', Ex H0 H0' → Ok X H0' σ H1 ρ' → Ex H H1 → ItD X.K H0' J ds → R' J H1) → wi σ H R'
section
variable {X : Cx} {W : WX} {a b c e : Expr} {pos : Pos} {f1 f2 f3 : ME} {es : List Expr} {ma : MA} {m1 m2 : MS} {st : Stmt} {sts : List Stmt} {t : MT} {tg it : Expr} {mi : MI} {g : MG} {mb : MS} {body : List Stmt}
/-- the invariant of a loop: the rest of it ends well -/
def Pv (X : Cx) (H0 : Hp) (D : Ends) (W : WX) (g : MG) (mb : MS) (ds : List Tl.D) (i : Nat) (σ : L2.St) (H : Hp) : Prop := ∃ ρ, Ok X H0 σ H ρ ∧ ∃ fl, loopM g mb (ds.drop i) ρ = some fl ∧ Post X H0 D W fl
theorem s_for (hi : JI X tg it mi) (hg : JG X tg g) (hb : JB X W body mb)
    (hfor : ∀ wi tg' tb, PI X tg it wi → PG X tg tg' → PSs X body tb → PS X (.For tg it body [] pos) (tFor wi tg' tb) := by exact fun _ _ _ h1 h2 h3 => ps_for PassesOwn.never rfl h1 h2 h3) : JS X W (.For tg it body [] pos) (mFor mi g mb) := by
  obtain ⟨wi, pi, vi⟩ := hi
  obtain ⟨tg', pg, vg⟩ := hg
  obtain ⟨tb, pb, vb⟩ := hb
  refine ⟨_, hfor _ _ _ pi pg pb, fun H0 D σ H ρ fl ok h q => ?_⟩
  unfold mFor at h
  obtain ⟨⟨ds, ρ'⟩, hm, h⟩ := Option.bind_eq_some_iff.mp h
  refine vi H0 σ H ρ ds ρ' ok hm _ fun J H1 H0' e0 ok1 _ T => ?_
  have q' := Post.up (X := X) (W := W) e0 q
  refine ⟨fun i m σ H => m = ds.length - i ∧ i ≤ ds.length ∧ Pv X H0' D W g mb ds i σ H, ⟨ds.length, by simp, Nat.zero_le _, ρ', ok1, fl, by rw [List.drop_zero]; exact h, q'⟩, ?_⟩
  rintro i m σ1 H2 ⟨rfl, hi, ρ1, okr, fl1, hl, q1⟩
  by_cases hlt : i < ds.length
  · refine .inr ⟨T.go i H2 okr.base hlt, Pv X H0' D W g mb ds (i + 1), fun σ' H' p' => ⟨ds.length - (i + 1), by omega, rfl, hlt, p'⟩, fun x H' y => ?_⟩
    obtain ⟨e2, d, hd, hdn⟩ := T.yld i H2 x H' okr.base hlt y
    have hdrop : ds.drop i = d :: ds.drop (i + 1) := by
      rw [List.drop_eq_getElem_cons hlt]
      congr 1
      rw [List.getElem?_eq_getElem hlt] at hd
      exact Option.some.inj hd
    rw [hdrop] at hl
    unfold loopM at hl
    obtain ⟨ρ2, hg2, hl⟩ := Option.bind_eq_some_iff.mp hl
    refine vg _ _ _ _ _ _ _ (okr.ex e2) hdn hg2 _ fun σ2 ok2 => ?_
    cases hbd : mb ρ2 with
    | none => rw [hbd] at hl; cases hl
    | some fl2 =>
      rw [hbd] at hl
      refine vb H0' _ σ2 H' ρ2 fl2 ok2 hbd ?_
      cases fl2 with
      | nx ρ3 => exact fun σ3 H3 ok3 => ⟨ρ3, ok3, fl1, hl, q1⟩
      | cnt ρ3 => exact fun σ3 H3 ok3 => ⟨ρ3, ok3, fl1, hl, q1⟩
      | brk ρ3 => cases hl; exact q1
      | ret r => cases hl; exact q1
      | exc c fs ρ3 => cases hl; exact q1
      | exc0 c ρ3 => cases hl; exact q1
  · have e : i = ds.length := by omega
    subst e
    rw [List.drop_length] at hl
    cases hl
    exact .inl ⟨T.stop _ H2 okr.base (Nat.le_refl _), q1 σ1 H2 okr⟩
/-! ranges -/
def rngD (lo : Int) (n : Nat) : List D := (List.range n).map fun i => .int (lo + (i : Nat))
theorem rngD_get {lo : Int} {n i : Nat} (h : i < n) : (rngD lo n)[i]? = some (.int (lo + (i : Nat))) := by
  unfold rngD
  rw [List.getElem?_map, List.getElem?_range h]
  rfl
theorem rngD_len {lo : Int} {n : Nat} : (rngD lo n).length = n := by
  unfold rngD
  rw [List.length_map, List.length_range]
theorem itd_range {K : PySem.W.Frag} {H0 : Hp} {lo : Int} {n : Nat} : ItD K H0 (Itr lo n) (rngD lo n) where
  go := fun i H _ h => by rw [rngD_len] at h; exact h
  yld := fun i H x H' _ h ⟨e1, e2⟩ => by
    rw [rngD_len] at h
    subst e1 e2
    exact ⟨Ex.refl _, _, rngD_get h, .int _⟩
  stop := fun i H _ h => by rw [rngD_len] at h; exact h
def bnd62 (j : Int) : Bool := okP (-(2 ^ 62) ≤ j ∧ j < 2 ^ 62)
def iR1 (f : ME) : MI := fun ρ => (asInt (f ρ)).bind fun n => if bnd62 n = true then some (rngD 0 n.toNat, ρ) else none
def iR2 (f h : ME) : MI := fun ρ => (asInt (f ρ)).bind fun lo => (asInt (h ρ)).bind fun n => if (bnd62 lo && bnd62 n) = true then some (rngD lo (n - lo).toNat, ρ) else none
theorem i_r1 {p : Pos} (hm : X.mg "range" = none) (ha : JE X a f1) (hg : Gl X "range" := by rfl) (hs : starEach [a] X.env = [(false, eval a X.env)] := by rfl) : JI X tg (.Call (.Name "range" p) [a] [] pos) (iR1 f1) := by
  obtain ⟨ta, pa, va⟩ := a_cons ha a_nil hs
  refine ⟨_, pi_range1 hg hm pa hs, fun H0 σ H ρ ds ρ' ok h R' k => ?_⟩
  unfold iR1 at h
  obtain ⟨n, hn, h⟩ := Option.bind_eq_some_iff.mp h
  split at h
  · rename_i hz
    cases h
    have hz := okP_of hz
    refine va _ _ _ _ [.dat (.int n)] ok (by unfold aCons; rw [asInt_some hn]; rfl) H (Ex.refl H) _ fun vs H2 e2 gs => ?_
    cases gs with
    | cons g1 g2 =>
      cases g2
      have g1 : Den X.K H2 _ (.int n) := g1
      cases g1
      exact ⟨n, rfl, hz.1, hz.2, k _ H2 H0 (Ex.refl _) (ok.ex e2) e2 itd_range⟩
  · cases h
theorem i_r2 {p : Pos} (hm : X.mg "range" = none) (ha : JE X a f1) (hb : JE X b f2) (hg : Gl X "range" := by rfl) (hs : starEach [a, b] X.env = [(false, eval a X.env), (false, eval b X.env)] := by rfl) (hs2 : starEach [b] X.env = [(false, eval b X.env)] := by rfl)
    (hpi : ∀ ta, PA X [a, b] ta → PI X tg (.Call (.Name "range" p) [a, b] [] pos) (iRng2 ta) := by exact fun _ h => pi_range2 rfl (by assumption) h) : JI X tg (.Call (.Name "range" p) [a, b] [] pos) (iR2 f1 f2) := by
  obtain ⟨ta, pa, va⟩ := a_cons ha (a_cons hb a_nil hs2) (by rw [hs, hs2])
  refine ⟨_, hpi _ pa, fun H0 σ H ρ ds ρ' ok h R' k => ?_⟩
  unfold iR2 at h
  obtain ⟨lo, hlo, h⟩ := Option.bind_eq_some_iff.mp h
  obtain ⟨n, hn, h⟩ := Option.bind_eq_some_iff.mp h
  split at h
  · rename_i hz
    cases h
    rw [Bool.and_eq_true] at hz
    have hz1 := okP_of hz.1
    have hz2 := okP_of hz.2
    refine va _ _ _ _ [.dat (.int lo), .dat (.int n)] ok (by unfold aCons; rw [asInt_some hlo, asInt_some hn]; rfl) H (Ex.refl H) _ fun vs H2 e2 gs => ?_
    cases gs with
    | cons g1 g2 =>
      cases g2 with
      | cons g2 g3 =>
        cases g3
        have g1 : Den X.K H2 _ (.int lo) := g1
        have g2 : Den X.K H2 _ (.int n) := g2
        cases g1
        cases g2
        exact ⟨lo, n, rfl, ⟨hz1.1, hz1.2, hz2.1, hz2.2⟩, k _ H2 H0 (Ex.refl _) (ok.ex e2) e2 itd_range⟩
  · cases h
/-! lists, tuples -/
theorem itd_list {K : PySem.W.Frag} {H0 : Hp} {p : Addr} {vs : List V} {ds : List D} (hl : SqL K H0 p vs) (hd : DenL K H0 vs ds) : ItD K H0 (Itl K p) ds where
  go := fun i H e h => by
    obtain ⟨v, h1, _⟩ := hd.get (List.getElem?_eq_getElem h)
    exact ⟨vs, v, ex_l e hl, h1⟩
  yld := fun i H x H' e h ⟨e1, e2⟩ => by
    subst e1
    obtain ⟨d, h1, h2⟩ := hd.getV (e2 vs (ex_l e hl))
    exact ⟨Ex.refl _, d, h1, h2.ex e⟩
  stop := fun i H e h => ⟨vs, ex_l e hl, by rw [hd.length]; exact h⟩
theorem itd_tup {K : PySem.W.Frag} {H0 : Hp} {p : Addr} {vs : List V} {ds : List D} (hl : SqT K H0 p vs) (hd : DenL K H0 vs ds) : ItD K H0 (Itt K p) ds where
  go := fun i H e h => by
    obtain ⟨v, h1, _⟩ := hd.get (List.getElem?_eq_getElem h)
    exact ⟨vs, v, ex_t e hl, h1⟩
  yld := fun i H x H' e h ⟨e1, e2⟩ => by
    subst e1
    obtain ⟨d, h1, h2⟩ := hd.getV (e2 vs (ex_t e hl))
    exact ⟨Ex.refl _, d, h1, h2.ex e⟩
  stop := fun i H e h => ⟨vs, ex_t e hl, by rw [hd.length]; exact h⟩
/-- over the list that a name holds -/
def frzV (i : Nat) (ρ : Rho) : Option (List D × Rho) := match ρ[i]? with
  | some (.own xs) => some (xs, ρ.set i (.bor xs))
  | some (.bor xs) => some (xs, ρ)
  | _ => none
def iV (i : Nat) : MI := frzV i
/-- what a name's list is, kept -/
theorem frz_ok {H0 H : Hp} {σ : L2.St} {ρ ρ' : Rho} {i : Nat} {ds : List D} (ok : Ok X H0 σ H ρ) (h : frzV i ρ = some (ds, ρ')) : ∃ H0' p vs, Ex H0 H0' ∧ Ok X H0' σ H ρ' ∧ TEx X.K H H0' ∧ σ[i]? = some (some (.ref p)) ∧ SqL X.K H0' p vs ∧ DenL X.K H0' vs ds := by
  have key : ∀ ρ', Ok X H0 σ H ρ' → ρ'[i]? = some (.bor ds) → ∃ H0' p vs, Ex H0 H0' ∧ Ok X H0' σ H ρ' ∧ TEx X.K H H0' ∧ σ[i]? = some (some (.ref p)) ∧ SqL X.K H0' p vs ∧ DenL X.K H0' vs ds := by
    rintro ρ' ⟨B, ok⟩ h
    obtain ⟨p, vs, s, l, g⟩ := ok.slot i _ h
    exact ⟨_, p, vs, ok.e0.trans ok.hid, ok.pin, ok.tex, s, ex_l ok.hid l, g.imp ok.tex⟩
  unfold frzV at h
  split at h
  · rename_i xs hx
    cases h
    exact key _ (ok.frz hx) (set_get (lt_of_get hx))
  · rename_i xs hx
    cases h
    exact key _ ok hx
  · cases h
theorem i_v (i : Nat) {x : Str} {pos : Pos} (hN : X.N[i]? = some x := by rfl) (hv : Vis X.env.scope x := by first | exact Or.inl rfl | exact Or.inr (Or.inl rfl) | exact Or.inr (Or.inr rfl)) (hd : (x == ("__debug__" : Str)) = false := by decide)
    (hcd : (x == ("__classdict__" : Str)) = false := by decide) : JI X tg (.Name x pos) (iV i) := by
  refine ⟨_, pi_list (pe_var hN hv hd hcd), fun H0 σ H ρ ds ρ' ok h R' k => ?_⟩
  obtain ⟨H0', p, vs, e0, ok', _, s, l, g⟩ := frz_ok ok h
  exact ⟨_, s, p, rfl, ⟨_, ex_l ok'.base l⟩, k _ H H0' e0 ok' (Ex.refl _) (itd_list l g)⟩
/-- over a new list -/
def iN (f : ME) : MI := fun ρ => match f ρ with
  | some (.new xs) => some (xs, ρ)
  | _ => none
theorem i_n (ha : JE X a f1) : JI X tg a (iN f1) := by
  obtain ⟨ta, pa, va⟩ := ha
  refine ⟨_, pi_list pa, fun H0 σ H ρ ds ρ' ok h R' k => ?_⟩
  unfold iN at h
  split at h
  · rename_i xs hx
    cases h
    refine va _ _ _ _ _ ok hx H (Ex.refl H) _ fun v H2 e2 ⟨p, vs, hv, n, l, gd⟩ => ?_
    subst hv
    obtain ⟨B, okb⟩ := ok
    have no := okb.fresh n
    have ok2 : Ok X H0 σ H2 ρ := Ok.ex ⟨B, okb⟩ e2
    obtain ⟨B2, okb2⟩ := ok2
    refine ⟨p, rfl, ⟨_, sq_of l⟩, k _ H2 _ (okb2.e0.trans okb2.hid) okb2.pin e2 (itd_list (sq_of ?_) (gd.imp okb2.tex))⟩
    rw [hidO_no no]
    exact l
  · cases h
/-- over a tuple -/
def iT (f : ME) : MI := fun ρ => (asTup (f ρ)).map fun xs => (xs, ρ)
theorem i_t (ha : JE X a f1) : JI X tg a (iT f1) := by
  obtain ⟨ta, pa, va⟩ := ha
  refine ⟨_, pi_tup pa, fun H0 σ H ρ ds ρ' ok h R' k => ?_⟩
  unfold iT at h
  obtain ⟨xs, hx, h⟩ := Option.map_eq_some_iff.mp h
  cases h
  refine (va _ _ _ _ _ ok (asTup_some hx)).tup H (Ex.refl H) _ fun p vs H2 e2 l gd => ?_
  obtain ⟨B2, okb2⟩ := ok.ex e2
  exact ⟨p, rfl, ⟨_, l⟩, k _ H2 _ (okb2.e0.trans okb2.hid) okb2.pin e2 (itd_tup (okb2.tex.t _ _ l) (gd.imp okb2.tex))⟩
end

/-! ### defs -/
def argC : R → C
  | .dat d => .dat d
  | .lst xs => .bor xs
  | .new xs => .bor xs
  | .ro xs => .bor xs
def startC (n : Nat) (rs : List R) : Rho := rs.map argC ++ List.replicate (n - rs.length) .un
def outR : Option F → Option R
  | some (.ret r) => some r
  | some (.nx _) => some (.dat .non)
  | _ => none
def mDef (n np : Nat) (body : MS) : Mir := fun rs => if rs.length = np then outR (body (startC n rs)) else none
theorem start_ok {X : Cx} {H : Hp} {vs : List V} {rs : List R} (ht : ArgT X.K X.mg H vs rs) (N : List Str) : Ok X H (L2.start N vs) H (startC N.length rs) := by
  have h := ht.l
  have len := h.length
  have get : ∀ {vs : List V} {rs : List R} {i : Nat} {r : R}, ArgL X.K H vs rs → rs[i]? = some r → ∃ v, vs[i]? = some v ∧ ArgOk X.K H v r := by
    intro vs rs i r h
    induction h generalizing i with
    | nil => intro e; simp at e
    | cons h1 h2 ih =>
      intro e
      cases i with
      | zero => cases Option.some.inj e; exact ⟨_, rfl, h1⟩
      | succ i =>
        obtain ⟨v, e1, e2⟩ := ih (i := i) (by simpa using e)
        exact ⟨v, by simpa using e1, e2⟩
  have own : ∀ (i : Nat) (xs : List D), (startC N.length rs)[i]? ≠ some (.own xs) := by
    intro i xs e
    unfold startC at e
    rw [List.getElem?_append] at e
    split at e
    · rw [List.getElem?_map] at e
      cases q : rs[i]? with
      | none => rw [q] at e; cases e
      | some r => rw [q] at e; cases r <;> cases Option.some.inj e
    · rw [List.getElem?_replicate] at e
      split at e <;> cases e
  refine ⟨H, ⟨Ex.refl _, ht.tb⟩, Ex.refl _, ?_, fun i c hi => ?_, fun i j xs ys a hi _ _ _ => absurd hi (own i xs)⟩
  · unfold L2.start startC
    rw [List.length_append, List.length_append, List.length_map, List.length_map, List.length_replicate, List.length_replicate, len]
  · unfold startC at hi
    rw [List.getElem?_append] at hi
    split at hi
    · rename_i hlt
      rw [List.length_map] at hlt
      rw [List.getElem?_map] at hi
      cases q : rs[i]? with
      | none => rw [q] at hi; cases hi
      | some r =>
        rw [q] at hi
        cases Option.some.inj hi
        obtain ⟨v, e1, e2⟩ := get h q
        have s : (L2.start N vs)[i]? = some (some v) := by
          unfold L2.start
          rw [List.getElem?_append_left (by rw [List.length_map, len]; exact hlt), List.getElem?_map, e1]
          rfl
        cases r with
        | dat d => exact ⟨v, s, e2⟩
        | lst xs =>
          obtain ⟨a, ws, rfl, l, g⟩ := e2
          exact ⟨a, ws, s, sq_of l, g⟩
        | new xs =>
          obtain ⟨a, ws, rfl, l, g⟩ := e2
          exact ⟨a, ws, s, sq_of l, g⟩
        | ro xs =>
          obtain ⟨a, ws, rfl, l, g⟩ := e2
          exact ⟨a, ws, s, l, g⟩
    · rw [List.getElem?_replicate] at hi
      split at hi
      · cases hi; trivial
      · cases hi
abbrev W0 : WX := fun _ _ _ _ => False
section
variable {P : Program} {w : World} {K : PySem.W.Frag} {mg : Str → Option Value} {base : Heap}
theorem d_ok {x qual : Str} {st : Stmt} {f : Addr} {fd : FuncData} {N ps : List Str} {k : Nat} {mb : MS} (F : Fun K x qual st f fd) (S : FnScope N ps (defScope st))
    (hb : ∀ (cdv : Value) (A : Around) (outer : List Env) (s : Shared) (H : Hp) (E : XK), Room k (A.deeper (envOfC qual (defScope st) s.heap.objs.size f cdv)) → JB (cxOf CX0 P w K mg base N qual (defScope st) f cdv A outer s H E).nox W0 (defBody st) mb) :
    FnOk P w K mg base CX0 (k + 1) f fd ps (spM K mg (mDef N.length ps.length mb)) := by
  refine F.ok S (fun vs H Q E h => ?_) (fun cdv A outer s H vs Q E hr h => ?_)
  · obtain ⟨rs, r, ha, hm, _⟩ := h
    unfold mDef at hm
    split at hm
    · rename_i hl
      rw [ha.length]; exact hl
    · cases hm
  · obtain ⟨rs, r, ha, hm, q⟩ := h
    obtain ⟨ts, p, v⟩ := hb cdv A outer s H E hr
    unfold mDef at hm
    split at hm
    · refine ⟨ts, p, ?_⟩
      cases hf : mb (startC N.length rs) with
      | none => rw [hf] at hm; cases hm
      | some fl =>
        rw [hf] at hm
        refine v H _ _ H _ fl (start_ok (X := (cxOf CX0 P w K mg base N qual (defScope st) f cdv A outer s H E).nox) ha N) hf ?_
        cases fl with
        | ret r' => cases hm; exact fun u H' e g => q u H' e g
        | nx ρ' => cases hm; exact fun σ' H' ok' => q .non H' ok'.base .non
        | brk _ => cases hm
        | cnt _ => cases hm
        | exc _ _ _ => cases hm
        | exc0 _ _ => cases hm
    · cases hm
/-- a def of the text, as others call it -/
def Cal (P : Program) (w : World) (K : PySem.W.Frag) (mg : Str → Option Value) (base : Heap) (x : Str) (k : Nat) (m : Mir) : Prop :=
  ∃ f fd ps, FnOk P w K mg base CX0 k f fd ps (spM K mg m) ∧ mg x = some (.ref f) ∧ PySem.W.keepIn K (.ref f) = true ∧ Binds K fd ps []
theorem x_cal {X : Cx} {a : Expr} {es : List Expr} {ma : MA} {pos p : Pos} {x : Str} {k : Nat} {m : Mir} (h : Cal X.prog X.w X.K X.mg X.base x k m) (hr : Room k X.A)
    (ha : JA X (a :: es) ma) (hg : Gl X x := by rfl) (hdb : (x == ("__debug__" : Str)) = false := by decide)
    (he : starEach (a :: es) X.env = (false, eval a X.env) :: starEach es X.env := by rfl) (hpl : (backTo pos (starEach es X.env)).any (·.1) = false := by rfl) : JE X (.Call (.Name x p) (a :: es) [] pos) (mCall m ma) := by
  obtain ⟨f, fd, ps, F, hm, hk, hb⟩ := h
  exact x_call F hr hm hk hb ha hg hdb he hpl
theorem law_end {m : Mir} {H : Hp} {a : Addr} {ns : List Int} (ht : Tbs K mg H) (hS : SqL K H a (ns.map V.int)) (h : m [.ro (ns.map D.int)] = some (.dat (.bl true))) {E : XK} : spM K mg m [.ref a] H (fun v _ => v = .bl true) E :=
  ⟨[.ro (ns.map D.int)], .dat (.bl true), ⟨.cons ⟨a, _, rfl, hS, DenL.of_ints ns⟩ .nil, ht⟩, h, fun v H' e g => by
    have g : Den K H' v (.bl true) := g
    cases g
    rfl⟩
end
end
end Tl

namespace Tl
open PySem PySem.Spec PyProof.Rows L2 Evl
noncomputable section
/-! ### == at any depth -/
mutual
def py : D → PyData
  | .non => .none
  | .bl b => .bool b
  | .int i => .int i
  | .str x => .str x
  | .tup xs => .tuple (pyL xs)
  | .dic _ => .str ⟨#[0x110000]⟩
def pyL : List D → List PyData
  | [] => []
  | x :: xs => py x :: pyL xs
end
section
variable {K : PySem.W.Frag} {H : Hp}
mutual
theorem Den.dp : ∀ {v : V} {d : D}, Den K H v d → PyData.canLay0 (py d) = true → Dp K H v (py d)
  | _, _, .non, _ => .non
  | _, _, .bl b, _ => .bl b
  | _, _, .int i, _ => .int i
  | _, _, .str x, _ => .str x
  | _, _, .tup h hl, z => .tup h (DenL.dp hl (by simpa only [py, PyData.canLay0] using z))
  | _, _, .dic _ _, z => absurd z (by simp [py, PyData.canLay0, PyData.strOk])
theorem DenL.dp : ∀ {vs : List V} {ds : List D}, DenL K H vs ds → PyData.canLayAll0 (pyL ds) = true → DpAll K H vs (pyL ds)
  | _, _, .nil, _ => .nil
  | _, _, .cons h hl, z => by
    simp only [pyL, PyData.canLayAll0, Bool.and_eq_true] at z
    exact .cons (Den.dp h z.1) (DenL.dp hl z.2)
end
end
def shp (d : D) : Bool := SeqAt.shaped (py d)
theorem shp_lay {d : D} (h : shp d = true) : PyData.canLay0 (py d) = true := by
  unfold shp SeqAt.shaped at h
  rw [Bool.and_eq_true] at h
  exact h.1
def eqD (a b : D) : Bool := PyData.eqv (py a) (py b)
def mEqD (f1 f2 : ME) : ME := fun ρ => (asDat (f1 ρ)).bind fun a => (asDat (f2 ρ)).bind fun b => if (shp a && shp b) = true then some (.dat (.bl (eqD a b))) else none
def mNeD (f1 f2 : ME) : ME := fun ρ => (asDat (f1 ρ)).bind fun a => (asDat (f2 ρ)).bind fun b => if (shp a && shp b) = true then some (.dat (.bl (!eqD a b))) else none
section
variable {X : Cx} {W : WX} {a b c e : Expr} {pos : Pos} {f1 f2 f3 : ME} {es : List Expr} {ma : MA} {m1 m2 : MS} {t : MT}
theorem ev_eqD {ta tb : TE} {σ : L2.St} {H : Hp} {ρ : Rho} {r : R} {H0 : Hp} (va : ∀ H0 σ H ρ r, Ok X H0 σ H ρ → f1 ρ = some r → EvR X.K ta σ H r) (vb : ∀ H0 σ H ρ r, Ok X H0 σ H ρ → f2 ρ = some r → EvR X.K tb σ H r) (ok : Ok X H0 σ H ρ)
    (h : mEqD f1 f2 ρ = some r) : EvR X.K (tOp (rEqD X.K) ta tb) σ H r := by
  unfold mEqD at h
  obtain ⟨d, hd, h⟩ := Option.bind_eq_some_iff.mp h
  obtain ⟨e, he, h⟩ := Option.bind_eq_some_iff.mp h
  split at h
  · rename_i hz
    rw [Bool.and_eq_true] at hz
    cases h
    intro H1 e1 Q q
    refine va _ _ _ _ _ ok (asDat_some hd) H1 e1 _ fun v H2 e2 gv => ?_
    refine vb _ _ _ _ _ ok (asDat_some he) H2 (e1.trans e2) _ fun w H3 e3 gw => ?_
    exact ⟨py d, py e, (Den.ex gv e3).dp (shp_lay hz.1), Den.dp gw (shp_lay hz.2), hz.1, hz.2, q _ H3 (e2.trans e3) (.bl _)⟩
  · cases h
theorem ev_neD {ta tb : TE} {σ : L2.St} {H : Hp} {ρ : Rho} {r : R} {H0 : Hp} (va : ∀ H0 σ H ρ r, Ok X H0 σ H ρ → f1 ρ = some r → EvR X.K ta σ H r) (vb : ∀ H0 σ H ρ r, Ok X H0 σ H ρ → f2 ρ = some r → EvR X.K tb σ H r) (ok : Ok X H0 σ H ρ)
    (h : mNeD f1 f2 ρ = some r) : EvR X.K (tOp (rNeD X.K) ta tb) σ H r := by
  unfold mNeD at h
  obtain ⟨d, hd, h⟩ := Option.bind_eq_some_iff.mp h
  obtain ⟨e, he, h⟩ := Option.bind_eq_some_iff.mp h
  split at h
  · rename_i hz
    rw [Bool.and_eq_true] at hz
    cases h
    intro H1 e1 Q q
    refine va _ _ _ _ _ ok (asDat_some hd) H1 e1 _ fun v H2 e2 gv => ?_
    refine vb _ _ _ _ _ ok (asDat_some he) H2 (e1.trans e2) _ fun w H3 e3 gw => ?_
    exact ⟨py d, py e, (Den.ex gv e3).dp (shp_lay hz.1), Den.dp gw (shp_lay hz.2), hz.1, hz.2, q _ H3 (e2.trans e3) (.bl _)⟩
  · cases h
theorem x_eqD (hu : X.A.units + 64 < cLine) (ha : JE X a f1) (hb : JE X b f2) : JE X (.Compare a [.Eq] [b] pos) (mEqD f1 f2) := by
  obtain ⟨ta, pa, va⟩ := ha
  obtain ⟨tb, pb, vb⟩ := hb
  exact ⟨_, pe_cmpR (op_eqD hu) pa pb (nomark _), fun H0 σ H ρ r ok h => ev_eqD va vb ok h⟩
theorem t_eqD (hu : X.A.units + 64 < cLine) (ha : JE X a f1) (hb : JE X b f2) : JT X (.Compare a [.Eq] [b] pos) (mT (mEqD f1 f2)) := by
  obtain ⟨ta, pa, va⟩ := ha
  obtain ⟨tb, pb, vb⟩ := hb
  exact ⟨_, pt_cmpR (op_eqD hu) pa pb (nomark _), fun H0 σ H ρ r ok h => ev_test h fun r hr => ev_eqD va vb ok hr⟩
theorem x_neD (hu : X.A.units + 64 < cLine) (ha : JE X a f1) (hb : JE X b f2) : JE X (.Compare a [.NotEq] [b] pos) (mNeD f1 f2) := by
  obtain ⟨ta, pa, va⟩ := ha
  obtain ⟨tb, pb, vb⟩ := hb
  exact ⟨_, pe_cmpR (op_neD hu) pa pb (nomark _), fun H0 σ H ρ r ok h => ev_neD va vb ok h⟩
theorem t_neD (hu : X.A.units + 64 < cLine) (ha : JE X a f1) (hb : JE X b f2) : JT X (.Compare a [.NotEq] [b] pos) (mT (mNeD f1 f2)) := by
  obtain ⟨ta, pa, va⟩ := ha
  obtain ⟨tb, pb, vb⟩ := hb
  exact ⟨_, pt_cmpR (op_neD hu) pa pb (nomark _), fun H0 σ H ρ r ok h => ev_test h fun r hr => ev_neD va vb ok hr⟩
/-! ### isinstance of plain data -/
def isiD : String → D → Option Bool
  | "int", .int _ => some true
  | "int", .bl _ => some true
  | "int", .non => some false
  | "int", .str _ => some false
  | "int", .tup _ => some false
  | "bool", .int _ => some false
  | "bool", .bl _ => some true
  | "bool", .non => some false
  | "bool", .str _ => some false
  | "bool", .tup _ => some false
  | "str", .int _ => some false
  | "str", .bl _ => some false
  | "str", .non => some false
  | "str", .str _ => some true
  | "str", .tup _ => some false
  | "tuple", .int _ => some false
  | "tuple", .bl _ => some false
  | "tuple", .non => some false
  | "tuple", .str _ => some false
  | "tuple", .tup _ => some true
  | _, _ => none
def tyD : D → String
  | .int _ => "int"
  | .bl _ => "bool"
  | .non => "NoneType"
  | .str _ => "str"
  | .tup _ => "tuple"
  | .dic _ => "dict"
theorem isi_kit {T : String} {d : D} {k : Bool} (h : isiD T d = some k) : kitB (tyD d) T = some k := by
  unfold isiD at h
  split at h <;> first | (cases h; first | decide +kernel | rfl) | cases h
theorem den_ty {K : PySem.W.Frag} {H : Hp} {v : V} {d : D} (h : Den K H v d) : TyX K H v (.type (tyD d)) := by
  cases h with
  | non => exact .base .non
  | bl b => exact .base (.bl b)
  | int i => exact .base (.int i)
  | str x => exact .base (.str x)
  | dic h _ => exact .base (.dK h)
  | tup h _ =>
    rcases h with (h | ⟨o, h⟩) | ⟨o, its, n, h1, h2, _⟩
    · exact .base (.tup h)
    · exact .fTuple h
    · exact .kTuple h1 h2
def mIsi (T : String) (f : ME) : ME := fun ρ => (asDat (f ρ)).bind fun d => (isiD T d).map fun k => .dat (.bl k)
theorem x_isi {T : String} {y : Str} {p p2 : Pos} (hm : X.mg "isinstance" = none) (hmT : X.mg y = none) (hvT : bootBuiltins y = some (.type T)) (ha : JE X a f1) (hg : Gl X "isinstance" := by rfl) (hgT : Gl X y := by rfl) (hnT : y ≠ "__name__" := by decide) (hdT : (y == ("__debug__" : Str)) = false := by decide)
    (hs : starEach (a :: [.Name y p2]) X.env = (false, eval a X.env) :: starEach [.Name y p2] X.env := by rfl) (hs2 : starEach (.Name y p2 :: []) X.env = (false, eval (.Name y p2) X.env) :: starEach [] X.env := by rfl)
    (hpl : (backTo pos (starEach [.Name y p2] X.env)).any (·.1) = false := by rfl) : JE X (.Call (.Name "isinstance" p) [a, .Name y p2] [] pos) (mIsi T f1) := by
  obtain ⟨ta, pa, va⟩ := ha
  refine ⟨_, pe_callB call_isi hg hm PyProof.Rows.boot_isinstance (pa_cons pa (pa_cons (pe_bltn (v := .ty T) hgT hmT hvT rfl hnT hdT) pa_nil hs2) hs) (he := hs) (hpl := hpl), fun H0 σ H ρ r ok h => ?_⟩
  unfold mIsi at h
  obtain ⟨d, hd, h⟩ := Option.bind_eq_some_iff.mp h
  obtain ⟨k, hk, h⟩ := Option.map_eq_some_iff.mp h
  subst h
  intro H1 e1 Q q
  refine va _ _ _ _ _ ok (asDat_some hd) H1 e1 _ fun v H2 e2 gv => ?_
  exact ⟨v, _, _, _, k, rfl, .ty T, den_ty gv, kit_ty (isi_kit hk), q _ H2 e2 (.bl k)⟩
/-! ### int(a bool) -/
def gIntB : List R → Option R
  | [.dat (.bl k)] => some (.dat (.int (if k then 1 else 0)))
  | [.dat (.int i)] => some (.dat (.int i))
  | _ => none
def mIntOf (f : ME) : ME := fun ρ => (aCons f aNil ρ).bind gIntB
theorem x_intOf {p : Pos} (hm : X.mg "int" = none) (ha : JE X a f1) (hg : Gl X "int" := by rfl) (hs : starEach (a :: []) X.env = (false, eval a X.env) :: starEach [] X.env := by rfl) : JE X (.Call (.Name "int" p) [a] [] pos) (mIntOf f1) := by
  refine x_bltT call_int1 hg hm PyProof.Rows.boot_int (g := gIntB) (fun rs vs H q Q h g k => ?_) (a_cons ha a_nil hs) (he := hs)
  unfold gIntB at h
  split at h
  · rename_i i
    cases h
    cases g with
    | cons g1 g2 =>
      cases g2
      have g1 : Den X.K H _ (.bl i) := g1
      cases g1
      exact .inr ⟨i, rfl, k _ H (Ex.refl H) (.int _)⟩
  · rename_i i
    cases h
    cases g with
    | cons g1 g2 =>
      cases g2
      have g1 : Den X.K H _ (.int i) := g1
      cases g1
      exact .inl ⟨i, rfl, k _ H (Ex.refl H) (.int _)⟩
  · cases h
/-! ### is None -/
def isNon : D → Bool
  | .non => true
  | _ => false
def mIsN (f : ME) : ME := fun ρ => (asDat (f ρ)).map fun d => .dat (.bl (isNon d))
def mNotN (f : ME) : ME := fun ρ => (asDat (f ρ)).map fun d => .dat (.bl (!isNon d))
theorem den_non {K : PySem.W.Frag} {H : Hp} {v : V} {d : D} (h : Den K H v d) : decide (v = .non) = isNon d := by
  cases h <;> simp [isNon]
theorem t_isN {j pos'} (ha : JE X a f1) : JT X (.Compare a [.Is] [.Constant .none j pos'] pos) (mT (mIsN f1)) := by
  obtain ⟨ta, pa, va⟩ := ha
  refine ⟨_, pt_cmp (pc_isN pa), fun H0 σ H ρ k ok h => ?_⟩
  have h := asBl_some h
  unfold mIsN at h
  obtain ⟨d, hd, h⟩ := Option.map_eq_some_iff.mp h
  cases h
  exact et_B fun H1 e1 Q q => va _ _ _ _ _ ok (asDat_some hd) H1 e1 _ fun v H2 e2 gv => by
    show Q (.bl (decide (v = .non))) H2
    rw [den_non gv]
    exact q H2 e2
theorem x_isN {j pos'} (ha : JE X a f1) : JE X (.Compare a [.Is] [.Constant .none j pos'] pos) (mIsN f1) := by
  obtain ⟨ta, pa, va⟩ := ha
  refine ⟨_, pe_cmp (pc_isN pa), fun H0 σ H ρ k ok h => ?_⟩
  unfold mIsN at h
  obtain ⟨d, hd, h⟩ := Option.map_eq_some_iff.mp h
  cases h
  exact fun H1 e1 Q q => va _ _ _ _ _ ok (asDat_some hd) H1 e1 _ fun v H2 e2 gv => by
    show Q (.bl (decide (v = .non))) H2
    rw [den_non gv]
    exact q _ H2 e2 (.bl _)
theorem t_notN {j pos'} (ha : JE X a f1) : JT X (.Compare a [.IsNot] [.Constant .none j pos'] pos) (mT (mNotN f1)) := by
  obtain ⟨ta, pa, va⟩ := ha
  refine ⟨_, pt_cmp (pc_notN pa), fun H0 σ H ρ k ok h => ?_⟩
  have h := asBl_some h
  unfold mNotN at h
  obtain ⟨d, hd, h⟩ := Option.map_eq_some_iff.mp h
  cases h
  exact et_B fun H1 e1 Q q => va _ _ _ _ _ ok (asDat_some hd) H1 e1 _ fun v H2 e2 gv => by
    show Q (.bl (!decide (v = .non))) H2
    rw [den_non gv]
    exact q H2 e2
theorem x_notN {j pos'} (ha : JE X a f1) : JE X (.Compare a [.IsNot] [.Constant .none j pos'] pos) (mNotN f1) := by
  obtain ⟨ta, pa, va⟩ := ha
  refine ⟨_, pe_cmp (pc_notN pa), fun H0 σ H ρ k ok h => ?_⟩
  unfold mNotN at h
  obtain ⟨d, hd, h⟩ := Option.map_eq_some_iff.mp h
  cases h
  exact fun H1 e1 Q q => va _ _ _ _ _ ok (asDat_some hd) H1 e1 _ fun v H2 e2 gv => by
    show Q (.bl (!decide (v = .non))) H2
    rw [den_non gv]
    exact q _ H2 e2 (.bl _)
end
end
end Tl

namespace Tl
open PySem PySem.Spec PyProof.Rows L2 Evl
noncomputable section
theorem loop_all {g : MG} {body : MS} (I : Rho → Prop) : ∀ {ds : List D}, (∀ d ∈ ds, ∀ ρ, I ρ → ∃ ρ1 ρ2, g d ρ = some ρ1 ∧ body ρ1 = some (.nx ρ2) ∧ I ρ2) → ∀ ρ, I ρ → ∃ ρ', loopM g body ds ρ = some (.nx ρ') ∧ I ρ'
  | [], _, ρ, hI => ⟨ρ, rfl, hI⟩
  | d :: ds, h, ρ, hI => by
    obtain ⟨ρ1, ρ2, h1, h2, h3⟩ := h d List.mem_cons_self ρ hI
    obtain ⟨ρ', h4, h5⟩ := loop_all I (ds := ds) (fun d hd => h d (List.mem_cons_of_mem _ hd)) ρ2 h3
    refine ⟨ρ', ?_, h5⟩
    unfold loopM
    rw [h1]
    show (match body ρ1 with | some (.nx ρ') => loopM g body ds ρ' | some (.cnt ρ') => loopM g body ds ρ' | some (.brk ρ') => some (.nx ρ') | r => r) = _
    rw [h2]
    exact h4
theorem mem_rngD {lo : Int} {n : Nat} {d : D} (h : d ∈ rngD lo n) : ∃ i : Nat, i < n ∧ d = .int (lo + (i : Nat)) := by
  unfold rngD at h
  obtain ⟨i, hi, e⟩ := List.mem_map.mp h
  exact ⟨i, List.mem_range.mp hi, e.symm⟩
theorem v_seq {s t : MS} {ρ ρ' : Rho} {r : Option F} (h1 : s ρ = some (.nx ρ')) (h2 : t ρ' = r) : mSeq s t ρ = r := by
  unfold mSeq
  rw [h1]
  exact h2
theorem v_for {mi : MI} {g : MG} {mb : MS} {ρ ρ' : Rho} {ds : List D} {r : Option F} (h1 : mi ρ = some (ds, ρ')) (h2 : loopM g mb ds ρ' = r) : mFor mi g mb ρ = r := by
  unfold mFor
  rw [h1]
  exact h2
theorem v_call {m : Mir} {ma : MA} {ρ : Rho} {rs : List R} {r : Option R} (h1 : ma ρ = some rs) (h2 : m (rs.map argN) = r) : mCall m ma ρ = r := by
  unfold mCall
  rw [h1]
  exact h2
theorem v_def {n np : Nat} {b : MS} {rs : List R} {r : Option R} (h : rs.length = np) (h2 : outR (b (startC n rs)) = r) : mDef n np b rs = r := by
  unfold mDef
  rw [if_pos h]
  exact h2
/-! data -/
theorem canLay_ints : ∀ ns : List Int, PyData.canLayAll0 (pyL (ns.map D.int)) = true
  | [] => by simp [pyL, PyData.canLayAll0]
  | n :: ns => by simp [pyL, py, PyData.canLayAll0, PyData.canLay0, canLay_ints ns]
theorem depth_ints : ∀ ns : List Int, PyData.depthAll (pyL (ns.map D.int)) = 0
  | [] => by simp [pyL, PyData.depthAll]
  | n :: ns => by simp [pyL, py, PyData.depthAll, PyData.depth, depth_ints ns]
theorem shp_ints (ns : List Int) : shp (.tup (ns.map D.int)) = true := by
  simp [shp, SeqAt.shaped, py, PyData.canLay0, PyData.depth, canLay_ints, depth_ints]
theorem shp_int (n : Int) : shp (.int n) = true := by simp [shp, SeqAt.shaped, py, PyData.canLay0, PyData.depth]
theorem shp_non : shp .non = true := by simp [shp, SeqAt.shaped, py, PyData.canLay0, PyData.depth]
theorem eqv_ints : ∀ ns ms : List Int, PyData.eqvAll (pyL (ns.map D.int)) (pyL (ms.map D.int)) = okP (ns = ms)
  | [], [] => by rw [okP_t rfl]; simp [pyL, PyData.eqvAll]
  | [], m :: ms => by rw [okP_f (by simp)]; simp [pyL, PyData.eqvAll]
  | n :: ns, [] => by rw [okP_f (by simp)]; simp [pyL, PyData.eqvAll]
  | n :: ns, m :: ms => by
    by_cases h : n = m
    · by_cases h2 : ns = ms
      · rw [okP_t (by rw [h, h2])]
        have ih := eqv_ints ns ms
        rw [okP_t h2] at ih
        simp [pyL, py, PyData.eqvAll, PyData.eqv, ih, h]
      · rw [okP_f (by simp [h2])]
        have ih := eqv_ints ns ms
        rw [okP_f h2] at ih
        simp [pyL, py, PyData.eqvAll, PyData.eqv, ih, h]
    · rw [okP_f (by simp [h])]
      simp [pyL, py, PyData.eqvAll, PyData.eqv, h]
theorem eqD_ints (ns ms : List Int) : eqD (.tup (ns.map D.int)) (.tup (ms.map D.int)) = okP (ns = ms) := by
  simp [eqD, py, PyData.eqv, eqv_ints]
theorem eqD_pair (a b c d : Int) : eqD (.tup [.int a, .int b]) (.tup [.int c, .int d]) = okP (a = c ∧ b = d) := by
  have h := eqD_ints [a, b] [c, d]
  simp only [List.map_cons, List.map_nil] at h
  rw [h]
  congr 1
  simp
theorem shp_pair (a b : Int) : shp (.tup [.int a, .int b]) = true := shp_ints [a, b]
/-! places -/
theorem atI_map {α : Type} {f : α → D} {ns : List α} {i : Int} {v : α} (h : atI ns i = some v) : atI (ns.map f) i = some (f v) := by
  unfold atI at h ⊢
  rw [List.length_map]
  obtain ⟨j, hj, h⟩ := Option.bind_eq_some_iff.mp h
  rw [hj]
  show (ns.map f)[j]? = _
  rw [List.getElem?_map, h]
  rfl
theorem atI_in {α : Type} {ns : List α} {i : Int} (h0 : 0 ≤ i) (h1 : i < ns.length) : ∃ v, atI ns i = some v := by
  unfold atI ixN
  rw [if_pos h0, if_pos h1]
  have : i.toNat < ns.length := by omega
  exact ⟨ns[i.toNat], by simp [this]⟩
theorem atI_0 {α : Type} {a : α} {l : List α} : atI (a :: l) 0 = some a := atI_nat (j := 0) rfl
theorem atI_1 {α : Type} {a b : α} {l : List α} : atI (a :: b :: l) 1 = some b := atI_nat (j := 1) rfl
theorem atI_2 {α : Type} {a b c : α} {l : List α} : atI (a :: b :: c :: l) 2 = some c := atI_nat (j := 2) rfl
theorem atI_3 {α : Type} {a b c d : α} {l : List α} : atI (a :: b :: c :: d :: l) 3 = some d := atI_nat (j := 3) rfl
theorem atI_4 {α : Type} {a b c d e : α} {l : List α} : atI (a :: b :: c :: d :: e :: l) 4 = some e := atI_nat (j := 4) rfl
theorem atI_5 {α : Type} {a b c d e f : α} {l : List α} : atI (a :: b :: c :: d :: e :: f :: l) 5 = some f := atI_nat (j := 5) rfl
theorem cut3 {α : Type} (a b c d : α) : cutD [a, b, c, d] none (some 3) = [a, b, c] := rfl
/-- numbers drawn: each below its width -/
inductive Drawn : List Int → List Int → Prop
  | nil : Drawn [] []
  | cons {d w : Int} {ds ws : List Int} : 0 ≤ d → d < w → Drawn ds ws → Drawn (d :: ds) (w :: ws)
theorem Drawn.snoc : ∀ {ds ws : List Int} {d w : Int}, Drawn ds ws → 0 ≤ d → d < w → Drawn (ds ++ [d]) (ws ++ [w])
  | _, _, _, _, .nil, h0, h1 => .cons h0 h1 .nil
  | _, _, _, _, .cons a b t, h0, h1 => .cons a b (t.snoc h0 h1)
theorem Drawn.length : ∀ {ds ws : List Int}, Drawn ds ws → ds.length = ws.length
  | _, _, .nil => rfl
  | _, _, .cons _ _ t => congrArg (· + 1) t.length
/-- widths: positive, not too great -/
def WOk (w : Int) : Prop := 0 < w ∧ w.natAbs.log2 < 9000
theorem wok_of {w : Int} {b : Nat} (h : 0 < w) (hb : w.natAbs < 2 ^ b) (h0 : 0 < b) (h9 : b ≤ 9000) : WOk w := ⟨h, Nat.lt_of_lt_of_le (PySem.Flt.log2_lt_of h0 hb) h9⟩
theorem take_snoc {α : Type} {l : List α} {i : Nat} {x : α} (h : l[i]? = some x) : l.take (i + 1) = l.take i ++ [x] := by
  rw [List.take_add_one, h]; rfl
theorem drop_rng {lo : Int} {n i : Nat} (hi : i < n) : (rngD lo n).drop i = .int (lo + (i : Nat)) :: (rngD lo n).drop (i + 1) := by
  have hr : i < (rngD lo n).length := by rw [rngD_len]; exact hi
  rw [List.drop_eq_getElem_cons hr]
  congr 1
  have := rngD_get (lo := lo) hi
  rw [List.getElem?_eq_getElem hr] at this
  exact Option.some.inj this
end
end Tl

namespace Tl
open PySem PySem.Spec PyProof.Rows L2 Evl
noncomputable section
/-! ### exceptions made where nothing is handled: their context is None -/
section
variable {X : Cx} {e : Expr} {es : List Expr} {ta : TA} {p pos : Pos}
theorem mkN {CX : CXT} {x : Str} {C fI : Addr} {k : Nat} {fd : FuncData} {ps : List Str} {sp : Sp} (T : OexC X.K C) (iC : PySem.W.findIn X.K (.ref C) "__init__" = some (some (.ref fI))) (tI : PySem.W.typeIn X.K (.ref fI) = some (.type "function"))
    (G : FnOk X.prog X.w X.K X.mg X.base CX k fI fd ps sp) (hr : Room (k + 1) X.A) (hb : Binds X.K fd ps []) (hx : Passes CX X (fun _ _ _ => False)) (hg : Gl X x) (hm : X.mg x = some (.ref C)) (ha : PA X (e :: es) ta)
    (hdb : (x == ("__debug__" : Str)) = false := by decide) (he : starEach (e :: es) X.env = (false, eval e X.env) :: starEach es X.env := by rfl) (hpl : (backTo pos (starEach es X.env)).any (·.1) = false := by rfl) :
    L2N.PMk X (.Call (.Name x p) (e :: es) [] pos) (tMkO C sp [] ta) := by
  intro pins s σ H Q I hh
  obtain ⟨nm, qn, nN, bs, bm, sn, sub, ab, col, dd, k0, k1, k2, k3, k5, hC, hbm⟩ := T.cls
  refine wpAny_Call_Name_kw (ld_glob I hg hm (PySem.W.callWith_K (h₀ := X.base) I.ok.mod.kin T.kC (thn (ha.run pos pins s σ H _ I hh) fun us s1 ⟨vs, H1, J, r1, hz, q1⟩ => ⟨J.kIn, ?_⟩) he hpl) hdb)
  show wpAny _ _ (call (.ref C) us) _ _ _; obtain ⟨hp, g, dr, tk, os⟩ := s1
  generalize hA : hp.objs.size + 1 = A0
  have sz : hp.objs.size ≤ A0 := by omega
  have hq := q1 A0 (J.hok.fresh sz)
  rw [List.append_nil] at hq
  generalize hG : (hp.push (PySem.W.kdv_tup us)).push (PySem.HandSPX.excO C hp.objs.size) = hp2
  have kk : ∀ b o, hp.get? b = some o → hp2.get? b = some o := fun b o z => by rw [← hG]; exact Heap.get?_push_of_some _ (Heap.get?_push_of_some _ z)
  have hget : hp2.get? A0 = some (PySem.HandSPX.excO C hp.objs.size) := by rw [← hG, ← hA]; heap_get
  have J2 : Inv X pins σ (upd H1 A0 (exo A0 C none)) ⟨hp2, g, dr, tk, os⟩ := J.laid (t' := tk) (a := A0) (o := exo A0 C none) (h' := hp2) kk sz (exo_ok hget)
  have r2 : Vals (V.ref A0 :: vs) (Value.ref A0 :: us) := .cons rfl r1
  have hl : (Value.ref A0 :: us).length = ps.length := r2.length.symm.trans (G.len _ _ _ _ hq)
  have b2 := hb ⟨hp2, g, dr, tk, os⟩ (Value.ref A0 :: us) J2.kIn (by rw [List.append_nil]; exact hl)
  rw [List.append_nil] at b2
  have zus : us.length ≤ sizeLine := by
    rw [← Paired.length r1, sizeLine_eq]; omega
  have run := G.run _ X.stack _ _ ⟨Value.ref A0 :: us, []⟩ (Value.ref A0 :: us) _ _ (fun _ _ _ => False) (hr.make C us []) (J2.env0.make C us []) b2 r2 hq
  subst hA hG
  refine wpAny_call (PySem.HandSPX.call_own F.excBase_ValueError (fun Y => PySem.HandSPX.refsVE_contains Y bm hbm) (J.kIn _ _ hC) (PySem.W.looks_findIn J.kIn iC) (fun self => PySem.W.bind_fn J.kIn self tI) zus (codeAny_mono run fun r s' hq' => ?_))
  cases r with
  | error er => exact hx pins σ _ _ er s' J2 hq'
  | ok fl =>
    cases fl with
    | next => cases hq'
    | brk => cases hq'
    | cont => cases hq'
    | ret u =>
      obtain ⟨v, H2, os2, bare2, un2, hok2, rv, ev, d, fs, ea, ed, hd1, q2⟩ := hq'
      subst ev
      obtain ⟨h2, g2, d2, t2, os'⟩ := s'
      obtain ⟨t0, Gh, JG, kG, ge, hoe, na⟩ := mk_end0 (d2 := d2) (t2 := t2) J sz kk un2 hok2 os2 bare2 ea ed hd1
      exact ⟨rv, _, _, _, ⟨Gh, g2, d2, t2, os'⟩, _, .ref C, some d, rfl, JG, kG, ge, hoe, ⟨rfl, rfl, fun ws hv => by cases hv; rfl⟩, rfl, rfl, na, rfl, bare2, raises_own T.exC T.tyC, q2⟩
theorem mkN1 {C : Addr} {bmB : List Value} {B newId initId : String} {x : Str} {tb : TE} (F : ExcBaseFacts B newId initId bmB) (q : PySem.W.excIn X.K C bmB newId = true) (gC : X.mg x = some (.ref C)) (kC : PySem.W.keepIn X.K (.ref C) = true) (r : Raises X (.ref C)) (hg : Gl X x)
    (ha : PE X e tb) (hs : starEach [e] X.env = (false, eval e X.env) :: starEach [] X.env := by rfl) (hdb : (x == ("__debug__" : Str)) = false := by decide) : L2N.PMk X (.Call (.Name x p) [e] [] pos) (fun σ H Q => tb σ H fun _ H1 => Q (.ref C) none H1) := by
  intro pins s σ H Q I hh
  refine wpAny_Call_Name_kw (ld_glob I hg gC (PySem.W.callWith_K (h₀ := X.base) I.ok.mod.kin kC ?_ hs (by rfl)) hdb)
  rw [hs]
  show wpAny _ _ (spliced ((false, eval e X.env) :: backTo pos (starEach [] X.env))) _ _ s
  refine Calls.spliced_cons (thn (ha.run pins s σ H _ I hh) fun u s1 ⟨v, H1, J, r1, q1⟩ => Calls.spliced_nil ⟨J.kIn, ?_⟩)
  show wpAny _ _ (call (.ref C) [u]) _ _ _
  obtain ⟨bm, N, nm, qn, bs, hdct, sn, sub, ab, col, dd, k0, k1, k2, k3, k5, mN, hC, hN, hni, T⟩ := exc_obj J.kIn q
  exact wpAny_call_exc_subT F T hC hN hni (fun h' e hm => L2N.mk_of J hm r q1 (J.hok.gone hm.new)) (by show 1 ≤ sizeLine; rw [sizeLine_eq]; omega)
theorem takesN {X : Cx} : L2N.Takes X (fun _ _ _ _ => False) := fun _ _ ⟨_, _, _, _, _, _, _, _, _, _, _, _, _, _, _, _, z⟩ => False.elim z
theorem passN {X : Cx} : Passes (L2N.CX X.prog X.w) X E0 := fun _ _ _ _ _ _ _ ⟨_, _, _, _, _, _, _, _, _, _, _, _, z⟩ => False.elim z
theorem okN {P : Program} {w : World} {K : PySem.W.Frag} {mg : Str → Option Value} {base : Heap} {x qual : Str} {st : Stmt} {f : Addr} {fd : FuncData} {N ps : List Str} {k : Nat} {sp : Sp} (G : Fun K x qual st f fd) (S : FnScope N ps (defScope st)) (len : ∀ vs H Q E, sp vs H Q E → vs.length = ps.length)
    (hb : ∀ (cdv : Value) (A : Around) (outer : List Env) (s : Shared) (H : Hp) (vs : List V) (Q : VK) (E : XK), Room k (A.deeper (envOfC qual (defScope st) s.heap.objs.size f cdv)) → sp vs H Q E →
      ∃ t, PSs (cxOf (L2N.CX P w) P w K mg base N qual (defScope st) f cdv A outer s H E) (defBody st) t ∧ t { nx := fun _ H' => Q .non H', rt := Q } (start N vs) H) : FnOk P w K mg base (L2N.CX P w) (k + 1) f fd ps sp := by
  obtain ⟨oc, od, kV, dc, pm, an, cv, ct, sl, rfl, lk, hc⟩ := G.ex
  exact fn_of lk hc S len fun A outer s H vs Q E hr h => hb cv A outer s H vs Q E hr h
end
end
end Tl

namespace Tl
open PySem PySem.Spec PyProof.Rows L2 Evl
noncomputable section
/-! ### defs that may refuse -/
inductive Out where
  | ok (r : R) | exc (c : Str) (fs : List (Str × D)) | exc0 (c : Str)
abbrev MirX := List R → Option Out
def OutP (K : PySem.W.Frag) (mg : Str → Option Value) (H : Hp) (Q : VK) (E : XK) : Out → Prop
  | .ok r => RetP K H Q r
  | .exc c fs => ∀ C d H' gs, mg c = some (.ref C) → Ex H H' → H d = none → H' d = some (.xd gs) → FldL K H' gs fs → E (.ref C) (some d) H'
  | .exc0 c => ∀ C H', mg c = some (.ref C) → Ex H H' → E (.ref C) none H'
def spX (K : PySem.W.Frag) (mg : Str → Option Value) (m : MirX) : Sp := fun vs H Q E => ∃ rs o, ArgT K mg H vs rs ∧ m rs = some o ∧ OutP K mg H Q E o
def outX : Option F → Option Out
  | some (.ret r) => some (.ok r)
  | some (.nx _) => some (.ok (.dat .non))
  | some (.exc c fs _) => some (.exc c fs)
  | some (.exc0 c _) => some (.exc0 c)
  | _ => none
def mDefX (n np : Nat) (body : MS) : MirX := fun rs => if rs.length = np then outX (body (startC n rs)) else none
def okX (m : MirX) : Mir := fun rs => match m rs with
  | some (.ok r) => some r
  | _ => none
section
variable {P : Program} {w : World} {K : PySem.W.Frag} {mg : Str → Option Value} {base : Heap}
theorem d_okX {x qual : Str} {st : Stmt} {f : Addr} {fd : FuncData} {N ps : List Str} {k : Nat} {mb : MS} (F : Fun K x qual st f fd) (S : FnScope N ps (defScope st))
    (hb : ∀ (cdv : Value) (A : Around) (outer : List Env) (s : Shared) (H : Hp) (E : XK), Room k (A.deeper (envOfC qual (defScope st) s.heap.objs.size f cdv)) → L2N.Takes (cxOf (L2N.CX P w) P w K mg base N qual (defScope st) f cdv A outer s H E) (fun cls d _ H => E cls d H) →
      JB (cxOf (L2N.CX P w) P w K mg base N qual (defScope st) f cdv A outer s H E) (fun cls d _ H => E cls d H) (defBody st) mb) :
    FnOk P w K mg base (L2N.CX P w) (k + 1) f fd ps (spX K mg (mDefX N.length ps.length mb)) := by
  refine okN F S (fun vs H Q E h => ?_) (fun cdv A outer s H vs Q E hr h => ?_)
  · obtain ⟨rs, r, ha, hm, _⟩ := h
    unfold mDefX at hm
    split at hm
    · rename_i hl
      rw [ha.length]; exact hl
    · cases hm
  · obtain ⟨rs, r, ha, hm, q⟩ := h
    obtain ⟨ts, p, v⟩ := hb cdv A outer s H E hr (L2N.takes_of rfl rfl rfl rfl)
    unfold mDefX at hm
    split at hm
    · refine ⟨ts, p, ?_⟩
      cases hf : mb (startC N.length rs) with
      | none => rw [hf] at hm; cases hm
      | some fl =>
        rw [hf] at hm
        refine v H _ _ H _ fl (start_ok (X := cxOf (L2N.CX P w) P w K mg base N qual (defScope st) f cdv A outer s H E) ha N) hf ?_
        cases fl with
        | ret r' => cases hm; exact fun u H' e g => q u H' e g
        | nx ρ' => cases hm; exact fun σ' H' ok' => q .non H' ok'.base .non
        | brk _ => cases hm
        | cnt _ => cases hm
        | exc c fs ρ' => cases hm; exact fun C d σ' H' gs hc ok' n hd hf => q C d H' gs hc ok'.base n hd hf
        | exc0 c ρ' => cases hm; exact fun C σ' H' hc ok' => q C H' hc ok'.base
    · cases hm
def CalX (P : Program) (w : World) (K : PySem.W.Frag) (mg : Str → Option Value) (base : Heap) (x : Str) (k : Nat) (m : MirX) : Prop :=
  ∃ f fd ps, FnOk P w K mg base (L2N.CX P w) k f fd ps (spX K mg m) ∧ mg x = some (.ref f) ∧ PySem.W.keepIn K (.ref f) = true ∧ Binds K fd ps []
end
section
variable {X : Cx} {W : WX} {a b c e : Expr} {pos p : Pos} {f1 f2 f3 : ME} {es : List Expr} {ma : MA} {x : Str} {k : Nat} {m : MirX}
/-- a call that refuses nothing here -/
theorem x_calX (h : CalX X.prog X.w X.K X.mg X.base x k m) (hr : Room k X.A)
    (ha : JA X (a :: es) ma) (hg : Gl X x := by rfl) (hdb : (x == ("__debug__" : Str)) = false := by decide)
    (he : starEach (a :: es) X.env = (false, eval a X.env) :: starEach es X.env := by rfl) (hpl : (backTo pos (starEach es X.env)).any (·.1) = false := by rfl) : JE X (.Call (.Name x p) (a :: es) [] pos) (mCall (okX m) ma) := by
  obtain ⟨f, fd, ps, F, hm, hk, hb⟩ := h
  refine x_callW (m := okX m) (E := E0) F (fun vs H Q h => ?_) hr hg hm hk hb passN ha hdb he hpl
  obtain ⟨rs, r, ha, hm, q⟩ := h
  unfold okX at hm
  split at hm
  · rename_i r' hr'
    cases hm
    exact ⟨rs, _, ha, hr', q⟩
  · cases hm
/-- what comes of a call that may refuse -/
def callX (m : MirX) (ma : MA) (ρ : Rho) : Option Out := (ma ρ).bind fun rs => m (rs.map argN)
def mSetX (i : Nat) (m : MirX) (ma : MA) : MS := fun ρ => match callX m ma ρ with
  | some (.ok r) => (setR i ρ (some r)).map .nx
  | some (.exc c fs) => some (.exc c fs ρ)
  | some (.exc0 c) => some (.exc0 c ρ)
  | none => none
def mExprX (m : MirX) (ma : MA) : MS := fun ρ => match callX m ma ρ with
  | some (.ok _) => some (.nx ρ)
  | some (.exc c fs) => some (.exc c fs ρ)
  | some (.exc0 c) => some (.exc0 c ρ)
  | none => none
def mRetX (m : MirX) (ma : MA) : MS := fun ρ => match callX m ma ρ with
  | some (.ok r) => retR (some r)
  | some (.exc c fs) => some (.exc c fs ρ)
  | some (.exc0 c) => some (.exc0 c ρ)
  | none => none
theorem outp_of {H0 H H2 : Hp} {σ : L2.St} {ρ : Rho} {D : Ends} {Q : VK} {o : Out} {fl : F} (ok : Ok X H0 σ H ρ) (e2 : Ex H H2) (q : Post X H0 D W fl)
    (h1 : ∀ r, o = .ok r → RetP X.K H2 Q r) (h2 : ∀ c fs, o = .exc c fs → fl = .exc c fs ρ) (h3 : ∀ c, o = .exc0 c → fl = .exc0 c ρ) : OutP X.K X.mg H2 Q (WE W σ) o := by
  cases o with
  | ok r => exact h1 r rfl
  | exc c fs =>
    have z := h2 c fs rfl
    subst z
    exact fun C d H' gs hc e' n hd hf => q C d σ H' gs hc (ok.ex (e2.trans e')) (fresh_back (ok.base.trans e2) n) hd hf
  | exc0 c =>
    have z := h3 c rfl
    subst z
    exact fun C H' hc e' => q C σ H' hc (ok.ex (e2.trans e'))
theorem s_setX (i : Nat) {y : Str} {pos' cp : Pos} (h : CalX X.prog X.w X.K X.mg X.base x k m) (hr : Room k X.A) (tk : L2N.Takes X W) (hN : X.N.Nodup) (ha : JA X (a :: es) ma) (hg : Gl X x := by rfl) (hdb : (x == ("__debug__" : Str)) = false := by decide)
    (he : starEach (a :: es) X.env = (false, eval a X.env) :: starEach es X.env := by rfl) (hpl : (backTo cp (starEach es X.env)).any (·.1) = false := by rfl)
    (hi : X.N[i]? = some y := by rfl) (hx : Loc X.env.scope y := by first | exact Or.inl rfl | exact Or.inr rfl) (hs : swapsWith (.Call (.Name x p) (a :: es) [] cp) (some (.Name y pos')) pos.line X.env = pure false := by rfl)
    (hf : X.fn y = true ∨ X.env.scope.names.lookup y = some .local := by first | exact .inl rfl | exact .inr rfl | assumption) : JS X W (.Assign [.Name y pos'] (.Call (.Name x p) (a :: es) [] cp) pos) (mSetX i m ma) := by
  obtain ⟨f, fd, ps, F, hm, hk, hb⟩ := h
  obtain ⟨ta, pa, va⟩ := ha
  refine ⟨_, ps_set hN hi hx (pe_callS F hr hg hm hk hb (fun σ => L2N.passAt tk σ) pa hdb he hpl) hs hf, fun H0 D σ H ρ fl ok h q => ?_⟩
  unfold mSetX callX at h
  cases hrs : ma ρ with
  | none => rw [hrs] at h; cases h
  | some rs =>
    rw [hrs, Option.bind_some] at h
    refine va _ _ _ _ _ ok hrs H (Ex.refl H) _ fun vs H2 e2 g => ?_
    cases ho : m (rs.map argN) with
    | none => rw [ho] at h; cases h
    | some o =>
      rw [ho] at h
      refine ⟨rs.map argN, o, ⟨g.norm, ok.tbs.ex e2⟩, ho, outp_of ok e2 q (fun r z => ?_) (fun c fs z => ?_) (fun c z => ?_)⟩
      · subst z
        obtain ⟨ρ', h1, h2⟩ := Option.map_eq_some_iff.mp h
        subst h2
        exact fun v H' e' gv => q _ _ (setR_ok (ok.ex e2) h1 e' gv)
      · subst z
        cases h
        rfl
      · subst z
        cases h
        rfl
theorem s_exprX {cp : Pos} (h : CalX X.prog X.w X.K X.mg X.base x k m) (hr : Room k X.A) (tk : L2N.Takes X W) (ha : JA X (a :: es) ma) (hg : Gl X x := by rfl) (hdb : (x == ("__debug__" : Str)) = false := by decide)
    (he : starEach (a :: es) X.env = (false, eval a X.env) :: starEach es X.env := by rfl) (hpl : (backTo cp (starEach es X.env)).any (·.1) = false := by rfl)
    (hs : swapsWith (.Call (.Name x p) (a :: es) [] cp) none pos.line X.env = pure false := by rfl) : JS X W (.Expr (.Call (.Name x p) (a :: es) [] cp) pos) (mExprX m ma) := by
  obtain ⟨f, fd, ps, F, hm, hk, hb⟩ := h
  obtain ⟨ta, pa, va⟩ := ha
  refine ⟨_, ps_expr (pe_callS F hr hg hm hk hb (fun σ => L2N.passAt tk σ) pa hdb he hpl) hs, fun H0 D σ H ρ fl ok h q => ?_⟩
  unfold mExprX callX at h
  cases hrs : ma ρ with
  | none => rw [hrs] at h; cases h
  | some rs =>
    rw [hrs, Option.bind_some] at h
    refine va _ _ _ _ _ ok hrs H (Ex.refl H) _ fun vs H2 e2 g => ?_
    cases ho : m (rs.map argN) with
    | none => rw [ho] at h; cases h
    | some o =>
      rw [ho] at h
      refine ⟨rs.map argN, o, ⟨g.norm, ok.tbs.ex e2⟩, ho, outp_of ok e2 q (fun r z => ?_) (fun c fs z => ?_) (fun c z => ?_)⟩
      · subst z
        cases h
        exact fun v H' e' gv => q _ _ (ok.ex (e2.trans e'))
      · subst z
        cases h
        rfl
      · subst z
        cases h
        rfl
theorem s_retX {cp : Pos} (h : CalX X.prog X.w X.K X.mg X.base x k m) (hr : Room k X.A) (tk : L2N.Takes X W) (ha : JA X (a :: es) ma) (hg : Gl X x := by rfl) (hdb : (x == ("__debug__" : Str)) = false := by decide)
    (he : starEach (a :: es) X.env = (false, eval a X.env) :: starEach es X.env := by rfl) (hpl : (backTo cp (starEach es X.env)).any (·.1) = false := by rfl) : JS X W (.Return (some (.Call (.Name x p) (a :: es) [] cp)) pos) (mRetX m ma) := by
  obtain ⟨f, fd, ps, F, hm, hk, hb⟩ := h
  obtain ⟨ta, pa, va⟩ := ha
  refine ⟨_, ps_ret (pe_callS F hr hg hm hk hb (fun σ => L2N.passAt tk σ) pa hdb he hpl), fun H0 D σ H ρ fl ok h q => ?_⟩
  unfold mRetX callX at h
  cases hrs : ma ρ with
  | none => rw [hrs] at h; cases h
  | some rs =>
    rw [hrs, Option.bind_some] at h
    refine va _ _ _ _ _ ok hrs H (Ex.refl H) _ fun vs H2 e2 g => ?_
    cases ho : m (rs.map argN) with
    | none => rw [ho] at h; cases h
    | some o =>
      rw [ho] at h
      refine ⟨rs.map argN, o, ⟨g.norm, ok.tbs.ex e2⟩, ho, outp_of ok e2 q (fun r z => ?_) (fun c fs z => ?_) (fun c z => ?_)⟩
      · subst z
        refine fun v H' e' gv => ?_
        have eb := ok.base.trans e2
        cases r with
        | dat d => cases h; exact q v H' (eb.trans e') (gv.back eb)
        | new xs => cases h; exact q v H' (eb.trans e') (gv.back eb)
        | lst xs => cases h
        | ro xs => cases h
      · subst z
        cases h
        rfl
      · subst z
        cases h
        rfl
end
/-! ### the error classes: __init__ sets its fields -/
def spI1 (K : PySem.W.Frag) (f : Str) : Sp := fun vs H Q _ => ∃ (a C : Addr) (y : V), vs = [.ref a, y] ∧ OexC K C ∧ PySem.W.findIn K (.ref C) f = some none ∧ H a = some (exo a C none) ∧ ∀ dx, H dx = none → dx ≠ a → Q .non (upd (upd H dx (exd dx [(f, y)])) a (exo a C (some dx)))
def spI2 (K : PySem.W.Frag) (f g : Str) : Sp := fun vs H Q _ => ∃ (a C : Addr) (y z : V), vs = [.ref a, y, z] ∧ OexC K C ∧ PySem.W.findIn K (.ref C) f = some none ∧ PySem.W.findIn K (.ref C) g = some none ∧ H a = some (exo a C none) ∧
  ∀ dx, H dx = none → dx ≠ a → Q .non (upd (upd (upd H dx (exd dx [(f, y)])) a (exo a C (some dx))) dx (exd dx [(g, z), (f, y)]))
/-- a class of one field, of two -/
def Xc1 (P : Program) (w : World) (K : PySem.W.Frag) (mg : Str → Option Value) (base : Heap) (c f : Str) : Prop :=
  ∃ C fI fd ps, mg c = some (.ref C) ∧ OexC K C ∧ PySem.W.findIn K (.ref C) "__init__" = some (some (.ref fI)) ∧ PySem.W.typeIn K (.ref fI) = some (.type "function") ∧ FnOk P w K mg base CX0 1 fI fd ps (spI1 K f) ∧ Binds K fd ps [] ∧ PySem.W.findIn K (.ref C) f = some none
def Xc2 (P : Program) (w : World) (K : PySem.W.Frag) (mg : Str → Option Value) (base : Heap) (c f g : Str) : Prop :=
  ∃ C fI fd ps, mg c = some (.ref C) ∧ OexC K C ∧ PySem.W.findIn K (.ref C) "__init__" = some (some (.ref fI)) ∧ PySem.W.typeIn K (.ref fI) = some (.type "function") ∧ FnOk P w K mg base CX0 1 fI fd ps (spI2 K f g) ∧ Binds K fd ps [] ∧ PySem.W.findIn K (.ref C) f = some none ∧ PySem.W.findIn K (.ref C) g = some none
def mRaise1 (c f : Str) (f1 : ME) : MS := fun ρ => (asDat (f1 ρ)).map fun d => .exc c [(f, d)] ρ
def mRaise2 (c f g : Str) (f1 f2 : ME) : MS := fun ρ => (asDat (f1 ρ)).bind fun d => (asDat (f2 ρ)).map fun e => .exc c [(g, e), (f, d)] ρ
section
variable {X : Cx} {W : WX} {a b : Expr} {pos p pos2 : Pos} {f1 f2 : ME} {c f g : Str}
theorem s_raise1 (h : Xc1 X.prog X.w X.K X.mg X.base c f) (hc : X.calm = true) (hr : Room 2 X.A) (tk : L2N.Takes X W) (ha : JE X a f1) (hg : Gl X c := by rfl) (hdb : (c == ("__debug__" : Str)) = false := by decide)
    (he : starEach (a :: []) X.env = (false, eval a X.env) :: starEach [] X.env := by rfl) (hpl : (backTo pos (starEach [] X.env)).any (·.1) = false := by rfl) : JS X W (.Raise (some (.Call (.Name c p) [a] [] pos)) none pos2) (mRaise1 c f f1) := by
  obtain ⟨C, fI, fd, ps, gC, T, iC, tI, F, hb, no⟩ := h
  obtain ⟨ta, pa, va⟩ := ha
  refine ⟨_, L2N.ps_raise hc tk (mkN T iC tI F hr hb pass0 hg gC (pa_cons pa pa_nil he) hdb he hpl), fun H0 D σ H ρ fl ok h q => ?_⟩
  unfold mRaise1 at h
  obtain ⟨d, hd, h⟩ := Option.map_eq_some_iff.mp h
  subst h
  refine va _ _ _ _ _ ok (asDat_some hd) H (Ex.refl H) _ fun v H2 e2 gv => ?_
  refine ⟨by show 1 ≤ 1000; decide, fun a na => ?_⟩
  refine ⟨a, C, v, rfl, T, no, upd_same, fun dx ndx ne => ?_⟩
  have n2 : H2 dx = none := by rw [upd_ne ne] at ndx; exact ndx
  refine ⟨rfl, dx, [(f, v)], upd_same, by rw [upd_ne ne, upd_same], n2, ?_⟩
  have e3 : Ex H2 (upd (del (upd (upd (upd H2 a (exo a C none)) dx (exd dx [(f, v)])) a (exo a C (some dx))) a) dx (.xd [(f, v)])) := exI fun b o hb => by
    have b1 : b ≠ dx := ne_of_none hb n2
    have b2 : b ≠ a := ne_of_none hb na
    rw [upd_ne b1, del_ne b2, upd_ne b2, upd_ne b1, upd_ne b2]
    exact hb
  exact q C dx σ _ _ gC (ok.ex (e2.trans e3)) (fresh_back (ok.base.trans e2) n2) upd_same (.cons (Den.ex gv e3) .nil)
theorem s_raise2 (h : Xc2 X.prog X.w X.K X.mg X.base c f g) (hc : X.calm = true) (hr : Room 2 X.A) (tk : L2N.Takes X W) (ha : JE X a f1) (hb' : JE X b f2) (hg : Gl X c := by rfl) (hdb : (c == ("__debug__" : Str)) = false := by decide)
    (he : starEach (a :: [b]) X.env = (false, eval a X.env) :: starEach [b] X.env := by rfl) (he2 : starEach (b :: []) X.env = (false, eval b X.env) :: starEach [] X.env := by rfl) (hpl : (backTo pos (starEach [b] X.env)).any (·.1) = false := by rfl) :
    JS X W (.Raise (some (.Call (.Name c p) [a, b] [] pos)) none pos2) (mRaise2 c f g f1 f2) := by
  obtain ⟨C, fI, fd, ps, gC, T, iC, tI, F, hb, no, no2⟩ := h
  obtain ⟨ta, pa, va⟩ := ha
  obtain ⟨tb, pb, vb⟩ := hb'
  refine ⟨_, L2N.ps_raise hc tk (mkN T iC tI F hr hb pass0 hg gC (pa_cons pa (pa_cons pb pa_nil he2) he) hdb he hpl), fun H0 D σ H ρ fl ok h q => ?_⟩
  unfold mRaise2 at h
  obtain ⟨d, hd, h⟩ := Option.bind_eq_some_iff.mp h
  obtain ⟨e, he', h⟩ := Option.map_eq_some_iff.mp h
  subst h
  refine va _ _ _ _ _ ok (asDat_some hd) H (Ex.refl H) _ fun v H1 e1 gv => ?_
  refine vb _ _ _ _ _ ok (asDat_some he') H1 e1 _ fun u H2 e2 gu => ?_
  refine ⟨by show 2 ≤ 1000; decide, fun a na => ?_⟩
  refine ⟨a, C, v, u, rfl, T, no, no2, upd_same, fun dx ndx ne => ?_⟩
  have n2 : H2 dx = none := by rw [upd_ne ne] at ndx; exact ndx
  refine ⟨rfl, dx, [(g, u), (f, v)], by rw [upd_ne ne.symm, upd_same], upd_same, n2, ?_⟩
  have e3 : Ex H2 (upd (del (upd (upd (upd (upd H2 a (exo a C none)) dx (exd dx [(f, v)])) a (exo a C (some dx))) dx (exd dx [(g, u), (f, v)])) a) dx (.xd [(g, u), (f, v)])) := exI fun b o hb => by
    have b1 : b ≠ dx := ne_of_none hb n2
    have b2 : b ≠ a := ne_of_none hb na
    rw [upd_ne b1, del_ne b2, upd_ne b1, upd_ne b2, upd_ne b1, upd_ne b2]
    exact hb
  exact q C dx σ _ _ gC (ok.ex ((e1.trans e2).trans e3)) (fresh_back (ok.base.trans (e1.trans e2)) n2) upd_same (.cons (Den.ex gu e3) (.cons (Den.ex gv (e2.trans e3)) .nil))
end
end
end Tl

namespace Tl
open PySem PySem.Spec PyProof.Rows L2 Evl
noncomputable section
/-! ### try .. except C as n -/
def dropX : C → C
  | .exc _ _ => .un
  | c => c
theorem Ok.drop {X Y : Cx} {H0 H : Hp} {σ : L2.St} {ρ : Rho} (ok : Ok X H0 σ H ρ) (hK : Y.K = X.K) (hG : Y.mg = X.mg := by rfl) : Ok Y H0 σ H (ρ.map dropX) := by
  obtain ⟨B, ok⟩ := ok
  have own : ∀ (i : Nat) (xs : List D), (ρ.map dropX)[i]? = some (.own xs) → ρ[i]? = some (.own xs) := fun i xs h => by
    rw [List.getElem?_map] at h
    cases q : ρ[i]? with
    | none => rw [q] at h; cases h
    | some c => rw [q] at h; cases c <;> cases Option.some.inj h; rfl
  refine ⟨B, by rw [hK, hG]; exact ok.e0, ok.e1, by rw [List.length_map]; exact ok.len, fun i c hi => ?_, fun i j xs ys a hi hj => ok.inj i j xs ys a (own i xs hi) (own j ys hj)⟩
  rw [List.getElem?_map] at hi
  cases q : ρ[i]? with
  | none => rw [q] at hi; cases hi
  | some c' =>
    rw [q] at hi
    have z := ok.slot i c' q
    cases c' with
    | un => cases Option.some.inj hi; trivial
    | dat d =>
      cases Option.some.inj hi
      show SlotOk Y B H σ[i]? (.dat d)
      unfold SlotOk
      rw [hK]
      exact z
    | own xs =>
      cases Option.some.inj hi
      show SlotOk Y B H σ[i]? (.own xs)
      unfold SlotOk
      rw [hK]
      exact z
    | bor xs =>
      cases Option.some.inj hi
      show SlotOk Y B H σ[i]? (.bor xs)
      unfold SlotOk
      rw [hK]
      exact z
    | exc _ _ => cases Option.some.inj hi; trivial
    | fn x =>
      cases Option.some.inj hi
      show SlotOk Y B H σ[i]? (.fn x)
      unfold SlotOk
      rw [hG]
      exact z
theorem OkB.setX {X : Cx} {H0 B H : Hp} {σ : L2.St} {ρ : Rho} {i : Nat} {a C : Addr} {oe : Obj} {c : Str} {fs : List (Str × D)} (h : OkB X H0 B σ H ρ) (hp : AtE X B a oe) (h3 : oe.cls = .ref C) (h4 : X.mg c = some (.ref C))
    (h6 : ∃ vs, oe.data = .fields vs) (h7 : DicE X.K B H oe fs) : OkB X H0 B (σ.set i (some (.ref a))) H (ρ.set i (.exc c fs)) := by
  refine ⟨h.e0, h.e1, by rw [List.length_set, List.length_set]; exact h.len, fun j cc hj => ?_, fun j k xs ys b hj hk sj sk => ?_⟩
  · by_cases e : i = j
    · subst e
      have hl := lt_of_get hj
      rw [List.length_set, h.len] at hl
      rw [get_set_eq hj]
      exact ⟨a, oe, C, set_get hl, h3, h4, h6, hp, h7⟩
    · rw [List.getElem?_set_ne e] at hj ⊢
      exact h.slot j cc hj
  · have nj : i ≠ j := fun e => by subst e; exact absurd (get_set_eq hj) (by intro z; cases z)
    have nk : i ≠ k := fun e => by subst e; exact absurd (get_set_eq hk) (by intro z; cases z)
    rw [List.getElem?_set_ne nj] at hj sj
    rw [List.getElem?_set_ne nk] at hk sk
    exact h.inj j k xs ys b hj hk sj sk
def endT (i : Nat) : Option F → Option F
  | some (.nx ρ) => some (.nx ((ρ.map dropX).set i .un))
  | some (.brk ρ) => some (.brk ((ρ.map dropX).set i .un))
  | some (.cnt ρ) => some (.cnt ((ρ.map dropX).set i .un))
  | some (.ret r) => some (.ret r)
  | _ => none
def mTry (i : Nat) (mt : Str → Option Bool) (mb ms : MS) : MS := fun ρ => match mb (ρ.map dropX) with
  | some (.exc0 c ρ') => (match mt c with
    | some true => endT i (ms ((ρ'.map dropX).set i (.exc c [])))
    | some false => some (.exc0 c (ρ'.map dropX))
    | none => none)
  | some (.exc c fs ρ') => (match mt c with
    | some true => endT i (ms ((ρ'.map dropX).set i (.exc c fs)))
    | some false => some (.exc c fs (ρ'.map dropX))
    | none => none)
  | some (.nx ρ') => some (.nx (ρ'.map dropX))
  | some (.brk ρ') => some (.brk (ρ'.map dropX))
  | some (.cnt ρ') => some (.cnt (ρ'.map dropX))
  | some (.ret r) => some (.ret r)
  | _ => none
section
variable {X : Cx} {W : WX} {pos pos' np : Pos} {body suite : List Stmt} {b₀ : Stmt} {mb ms : MS} {n x : Str} {Ch : Addr}
theorem s_tryAs (i : Nat) (mt : Str → Option Bool) (hN : X.N.Nodup) (hc : Names X x (.ref Ch)) (tk : L2N.Takes X W) (hmt : ∀ c b C, mt c = some b → X.mg c = some (.ref C) → PySem.W.exmOne X.K (.ref C) (.ref Ch) = some b)
    (hb : ∀ (W' : WX) (pn : List (Addr × Obj)) (xe : Value → Shared → Prop), L2N.Takes (X.tr pn xe) W' → PassesOwn (model X.prog X.w) X.A X.env xe → JB (X.tr pn xe) W' body mb)
    (hsu : ∀ (a : Addr) (oe : Obj) (cls : Value) (d : Option Addr) (pn : List (Addr × Obj)), L2N.Zn cls d oe → (∃ vs, oe.data = .fields vs) → JB (X.suite a ((a, oe) :: pn)) W0 (b₀ :: suite) ms)
    (hs : X.stack = X.env :: X.outer := by rfl) (hf : X.env.frame = some X.env.locals := by rfl) (hi : X.N[i]? = some n := by rfl) (hln : X.env.kindOf n = some .local := by rfl) :
    JS X W (.Try body [.ExceptHandler (some (.Name x np)) (some n) (b₀ :: suite) pos'] [] [] pos) (mTry i mt mb ms) := by
  refine ⟨_, L2N.ps_try_as (i := i) (tb := fun W' D σ H => ∃ H0 ρ fl, (∀ pn xe, Ok (X.tr pn xe) H0 σ H ρ) ∧ mb ρ = some fl ∧ ∀ pn xe, Post (X.tr pn xe) H0 D W' fl)
    (ts := fun a cls d D σ H => ∀ (oe : Obj) (pn : List (Addr × Obj)), L2N.Zn cls d oe → (∃ vs, oe.data = .fields vs) → ∃ H0 ρ fl, Ok (X.suite a ((a, oe) :: pn)) H0 σ H ρ ∧ ms ρ = some fl ∧ Post (X.suite a ((a, oe) :: pn)) H0 D W0 fl)
    hs hf hN hi hln hc tk (fun W' pn xe t po => ?_) (fun a oe cls d pn hz hd => ?_), fun H0 D σ H ρ fl ok h q => ?_⟩
  · obtain ⟨ts, p, v⟩ := hb W' pn xe t po
    refine ⟨fun pins s σ H D I h => ?_⟩
    obtain ⟨H0, ρ, fl, ok, hm, q⟩ := h
    exact p.run pins s σ H D I (v H0 D σ H ρ fl (ok pn xe) hm (q pn xe))
  · obtain ⟨ts, p, v⟩ := hsu a oe cls d pn hz hd
    refine ⟨fun pins s σ H D I h => ?_⟩
    obtain ⟨H0, ρ, fl, ok, hm, q⟩ := h oe pn hz hd
    exact p.run pins s σ H D I (v H0 D σ H ρ fl ok hm q)
  · unfold mTry at h
    cases hbd : mb (ρ.map dropX) with
    | none => rw [hbd] at h; cases h
    | some fl1 =>
      rw [hbd] at h
      refine ⟨H0, ρ.map dropX, fl1, fun pn xe => ok.drop rfl, hbd, fun pn xe => ?_⟩
      cases fl1 with
      | nx ρ' => cases h; exact fun σ' H' ok' => q σ' H' (Ok.drop (Y := X) ok' rfl)
      | brk ρ' => cases h; exact fun σ' H' ok' => q σ' H' (Ok.drop (Y := X) ok' rfl)
      | cnt ρ' => cases h; exact fun σ' H' ok' => q σ' H' (Ok.drop (Y := X) ok' rfl)
      | ret r => cases h; exact q
      | exc0 c ρ' =>
        intro C σ' H' hgc ok'
        cases hm : mt c with
        | none =>
          have h' : (match mt c with | some true => endT i (ms ((ρ'.map dropX).set i (.exc c []))) | some false => some (F.exc0 c (ρ'.map dropX)) | none => none) = some fl := h
          rw [hm] at h'; cases h'
        | some b =>
          have h' : (match mt c with | some true => endT i (ms ((ρ'.map dropX).set i (.exc c []))) | some false => some (F.exc0 c (ρ'.map dropX)) | none => none) = some fl := h
          rw [hm] at h'
          refine ⟨b, hmt c b C hm hgc, fun eb a na => ?_, fun eb => ?_⟩
          · subst eb
            intro oe pn hz hdd
            have okS : Ok (X.suite a ((a, oe) :: pn)) H0 σ' H' (ρ'.map dropX) := Ok.drop (Y := X.suite a ((a, oe) :: pn)) ok' rfl
            obtain ⟨B, okB⟩ := okS
            obtain ⟨B2, okP⟩ := okB.pin
            have okE := okP.setX (i := i) (a := a) (C := C) (oe := oe) (c := c) (fs := []) ⟨pn, rfl⟩ hz.1 hgc hdd (.inr ⟨hz.2.1, rfl⟩)
            cases hms : ms ((ρ'.map dropX).set i (.exc c [])) with
            | none => rw [hms] at h'; cases h'
            | some fl2 =>
              rw [hms] at h'
              refine ⟨_, _, fl2, ⟨B2, okE⟩, hms, ?_⟩
              have q' := Post.up (X := X) (W := W) (okB.e0.trans okB.hid) q
              cases fl2 with
              | nx ρ2 => cases h'; exact fun σ2 H2 ok2 => q' _ H2 (Ok.drop (Y := X) ok2 rfl).un
              | brk ρ2 => cases h'; exact fun σ2 H2 ok2 => q' _ H2 (Ok.drop (Y := X) ok2 rfl).un
              | cnt ρ2 => cases h'; exact fun σ2 H2 ok2 => q' _ H2 (Ok.drop (Y := X) ok2 rfl).un
              | ret r => cases h'; exact q'
              | exc _ _ _ => cases h'
              | exc0 _ _ => cases h'
          · subst eb
            cases h'
            exact q C σ' H' hgc (Ok.drop (Y := X) ok' rfl)
      | exc c fs ρ' =>
        intro C d σ' H' gs hgc ok' nd hd hfl
        cases hm : mt c with
        | none =>
          have h' : (match mt c with | some true => endT i (ms ((ρ'.map dropX).set i (.exc c fs))) | some false => some (F.exc c fs (ρ'.map dropX)) | none => none) = some fl := h
          rw [hm] at h'; cases h'
        | some b =>
          have h' : (match mt c with | some true => endT i (ms ((ρ'.map dropX).set i (.exc c fs))) | some false => some (F.exc c fs (ρ'.map dropX)) | none => none) = some fl := h
          rw [hm] at h'
          refine ⟨b, hmt c b C hm hgc, fun eb a na => ?_, fun eb => ?_⟩
          · subst eb
            intro oe pn hz hdd
            have okS : Ok (X.suite a ((a, oe) :: pn)) H0 σ' H' (ρ'.map dropX) := Ok.drop (Y := X.suite a ((a, oe) :: pn)) ok' rfl
            obtain ⟨B, okB⟩ := okS
            have nown : ¬ Owned σ' (ρ'.map dropX) d := fun z => by
              obtain ⟨_, vs, z2⟩ := okB.owned z
              rw [z2] at hd; cases hd
            obtain ⟨B2, okP⟩ := okB.pin
            have hdB : B2 d = some (.xd gs) := okP.e0.ex _ _ (by rw [hidO_no nown]; exact hd)
            have okE := okP.setX (i := i) (a := a) (C := C) (oe := oe) (c := c) (fs := fs) ⟨pn, rfl⟩ hz.1 hgc hdd (.inl ⟨d, gs, hz.2.1, hdB, hfl⟩)
            cases hms : ms ((ρ'.map dropX).set i (.exc c fs)) with
            | none => rw [hms] at h'; cases h'
            | some fl2 =>
              rw [hms] at h'
              refine ⟨_, _, fl2, ⟨B2, okE⟩, hms, ?_⟩
              have q' := Post.up (X := X) (W := W) (okB.e0.trans okB.hid) q
              cases fl2 with
              | nx ρ2 => cases h'; exact fun σ2 H2 ok2 => q' _ H2 (Ok.drop (Y := X) ok2 rfl).un
              | brk ρ2 => cases h'; exact fun σ2 H2 ok2 => q' _ H2 (Ok.drop (Y := X) ok2 rfl).un
              | cnt ρ2 => cases h'; exact fun σ2 H2 ok2 => q' _ H2 (Ok.drop (Y := X) ok2 rfl).un
              | ret r => cases h'; exact q'
              | exc _ _ _ => cases h'
              | exc0 _ _ => cases h'
          · subst eb
            cases h'
            exact q C d σ' H' gs hgc (Ok.drop (Y := X) ok' rfl) nd hd hfl
end
theorem mt_one {X : Cx} {c0 : Str} {C0 Ch : Addr} (g0 : X.mg c0 = some (.ref C0)) (h : PySem.W.exmOne X.K (.ref C0) (.ref Ch) = some true) : ∀ c b C, (fun c : Str => if c = c0 then some true else none) c = some b → X.mg c = some (.ref C) → PySem.W.exmOne X.K (.ref C) (.ref Ch) = some b := by
  intro c b C hc hg
  have hc' : (if c = c0 then some true else none) = some b := hc
  split at hc'
  · rename_i e
    cases hc'
    subst e
    rw [g0] at hg
    cases hg
    exact h
  · cases hc'
/-! ### what a suite asks of the exception it holds -/
theorem FldL.lookup {K : PySem.W.Frag} {H : Hp} {f : Str} {d : D} : ∀ {gs : List (Str × V)} {fs : List (Str × D)}, FldL K H gs fs → fs.lookup f = some d → ∃ v, gs.lookup f = some v ∧ Den K H v d
  | _, _, .nil, h => by cases h
  | _, _, .cons (f := g) hd t, h => by
    rw [List.lookup_cons] at h
    rw [List.lookup_cons]
    cases e : (f == g) with
    | true =>
      rw [e] at h
      cases h
      exact ⟨_, rfl, hd⟩
    | false =>
      rw [e] at h
      exact FldL.lookup t h
def mExF (i : Nat) (cs : List Str) (f : Str) : ME := fun ρ => match ρ[i]? with
  | some (.exc c fs) => if cs.contains c = true then (fs.lookup f).map .dat else none
  | _ => none
def mExI (i : Nat) (cs : List (Str × Bool)) : ME := fun ρ => match ρ[i]? with
  | some (.exc c _) => (cs.lookup c).map fun b => .dat (.bl b)
  | _ => none
theorem kit_one {K : PySem.W.Frag} {C D' : Addr} {b : Bool} (i : PySem.W.isClsIn K D' = true) (t : PySem.W.typeIn K (.ref D') = some (.type "type")) (s : PySem.W.subIn K (.ref C) (.ref D') = some b) (sC : PySem.W.subIn K (.ref C) (.ref C) = some true) : PySem.W.kitOne K (.ref C) (.ref D') = some b := by
  unfold PySem.W.kitOne
  split
  · rename_i e
    have e' : C = D' := Value.ref.inj (beq_iff_eq.mp e)
    subst e'
    rw [sC] at s
    exact s
  · unfold PySem.W.kitCls
    have i' : (PySem.W.clsIn K D').isSome = true := i
    have z : ((PySem.W.clsIn K D').isSome && PySem.W.typeIn K (.ref D') == some (.type "type")) = true := by rw [i', t]; rfl
    show (if ((PySem.W.clsIn K D').isSome && PySem.W.typeIn K (.ref D') == some (.type "type")) = true then PySem.W.subIn K (.ref C) (.ref D') else none) = some b
    rw [if_pos z]
    exact s
/-- what the written part says of an error's class -/
structure ExK (K : PySem.W.Frag) (mg : Str → Option Value) (c : Str) (C : Addr) : Prop where
  gC : mg c = some (.ref C)
  xf : XfC K C
  cl : (PySem.W.clsIn K C).isSome = true
  ha : PySem.W.findIn K (.ref C) "__class__" = some (some (.builtin "object.__class__"))
  hn : PySem.W.specialIn K (.builtin "object.__class__") "__get__" = some (some (.builtin "getset_descriptor.__get__"))
  ht : PySem.W.takesIn K (.builtin "object.__class__") = some true
  hm : PySem.W.mroIn K C (.type "object") = some true
section
variable {X : Cx} {a : Addr} {oe : Obj} {pins : List (Addr × Obj)} {σ : L2.St} {H : Hp} {s : Shared} {pos p p2 : Pos} {n f : Str}
theorem at_get (I : Inv X pins σ H s) (h : AtE X H a oe) : s.heap.get? a = some oe := by
  obtain ⟨pn, e⟩ := h
  exact (I.pin (a, oe) (List.mem_append.mpr (.inl (by rw [e]; exact List.mem_cons_self)))).1
/-- how the dict of a held exception is known -/
def DkE (H : Hp) (oe : Obj) : Prop := oe.dict = none ∨ ∃ dd gs, oe.dict = some dd ∧ H dd = some (.xd gs)
theorem inst_at {C : Addr} (I : Inv X pins σ H s) (h : AtE X H a oe) (hc : oe.cls = .ref C) (hf : ∃ vs, oe.data = .fields vs) (hd : DkE H oe) : ∃ od, PySem.W.InstAt s.heap a oe C od := by
  obtain ⟨vs, hv⟩ := hf
  have no : PySem.W.notCls oe = true := by unfold PySem.W.notCls; rw [hv]
  rcases hd with e | ⟨dd, gs, e, ed⟩
  · exact ⟨none, at_get I h, hc, no, by rw [e]; trivial⟩
  · have hx : ObjOk X.prog X.w H s.heap dd (.xd gs) := I.hok dd _ ed
    obtain ⟨mA, hns, _⟩ := hx
    obtain ⟨od, ho, _⟩ := lookIn_ns hns
    exact ⟨some od, at_get I h, hc, no, by rw [e]; exact ho⟩
/-- e.f of a held exception -/
def tXg (X : Cx) (f : Str) (te : TE) : TE := fun σ H Q => te σ H fun x H1 => ∃ (a C dd : Addr) (oe : Obj) (gs : List (Str × V)) (v : V),
  x = .ref a ∧ AtE X H1 a oe ∧ oe.cls = .ref C ∧ (∃ vs, oe.data = .fields vs) ∧ XfC X.K C ∧ PySem.W.findIn X.K (.ref C) f = some none ∧ oe.dict = some dd ∧ H1 dd = some (.xd gs) ∧ gs.lookup f = some v ∧ Q v H1
theorem pe_xg {e : Expr} {te : TE} (he : PE X e te) (hb : attributeBase e f X.env (eval e X.env) = eval e X.env := by rfl) : PE X (.Attribute e f pos) (tXg X f te) := by
  refine ⟨fun pins s σ H Q I h => attr_of hb (thn (he.run pins s σ H _ I h) fun u s1 hh => ?_)⟩
  obtain ⟨x, H1, I1, rx, a, C, dd, oe, gs, v, rfl, ha, hc, ⟨vs, hv⟩, T, hno, hdd, ea, l, q⟩ := hh
  obtain rfl : u = Value.ref a := rx
  have hx : ObjOk X.prog X.w H1 s1.heap dd (.xd gs) := I1.hok dd _ ea
  obtain ⟨mA, hns, hr⟩ := hx
  obtain ⟨od, ho, hl⟩ := lookIn_ns hns
  obtain ⟨y, hy, ry⟩ := RelO.some_of (v := v) (o := mA f) (by rw [← l]; exact hr f)
  have J : PySem.W.InstAt s1.heap a oe C (some od) := ⟨at_get I1 ha, hc, by unfold PySem.W.notCls; rw [hv], by rw [hdd]; exact ho⟩
  refine HandSPX.exc_get I1.kIn J T.ga T.gg T.exC (PySem.W.findObj_own T.hdC hno rfl ?_) (handed_of ry) ⟨v, H1, I1.tok _, ry, q⟩
  rw [hl, hy]
theorem x_exF (i : Nat) (cs : List Str) (T : ∀ c ∈ cs, ∃ C, ExK X.K X.mg c C ∧ PySem.W.findIn X.K (.ref C) f = some none) (hN : X.N[i]? = some n := by rfl)
    (hv : Vis X.env.scope n := by first | exact Or.inl rfl | exact Or.inr (Or.inl rfl) | exact Or.inr (Or.inr rfl)) (hd : (n == ("__debug__" : Str)) = false := by decide) (hcd : (n == ("__classdict__" : Str)) = false := by decide)
    (hb : attributeBase (.Name n p) f X.env (eval (.Name n p) X.env) = eval (.Name n p) X.env := by rfl) : JE X (.Attribute (.Name n p) f pos) (mExF i cs f) := by
  refine ⟨_, pe_xg (pe_var hN hv hd hcd) hb, fun H0 σ H ρ r ok h => ?_⟩
  unfold mExF at h
  split at h
  · rename_i c fs hc
    split at h
    · rename_i hm
      obtain ⟨dd, hdd, h⟩ := Option.map_eq_some_iff.mp h
      subst h
      obtain ⟨B, ok⟩ := ok
      obtain ⟨a', oe', C', h2, h3, h4, h5, h6, h8⟩ := ok.slot i _ hc
      obtain ⟨C, TC, hno⟩ := T c (by simpa using hm)
      have e2 : C = C' := by
        have z := TC.gC
        rw [h4] at z
        exact (Value.ref.inj (Option.some.inj z)).symm
      subst e2
      intro H1 e Q q
      rcases h8 with ⟨d', gs, g1, g2, g3⟩ | ⟨_, g⟩
      · obtain ⟨v, hv1, hv2⟩ := (g3.ex e).lookup hdd
        exact ⟨_, h2, a', C, d', oe', gs, v, rfl, h6.ex (ok.e1.trans e), h3, h5, TC.xf, hno, g1, e _ _ (ok.e1 _ _ g2), hv1, q v H1 (Ex.refl _) hv2⟩
      · rw [g] at hdd; cases hdd
    · cases h
  · cases h
/-- isinstance(e, c) -/
def rIsG (X : Cx) : List V → Hp → VK → Prop := fun xs H Q => ∃ (a C : Addr) (oe : Obj) (c : V) (cv : Value) (b : Bool), xs = [.ref a, c] ∧ AtE X H a oe ∧ oe.cls = .ref C ∧ (∃ vs, oe.data = .fields vs) ∧ DkE H oe ∧ (∃ c0, ExK X.K X.mg c0 C) ∧ (∀ u, RelV c u → u = cv) ∧ PySem.W.kitOne X.K (.ref C) cv = some b ∧ Q (.bl b) H
theorem call_isG : CallR X (.builtin "isinstance") (rIsG X) := by
  intro pins s σ H xs us Q I r h
  obtain ⟨a, C, oe, c, cv, b, rfl, ha, hc, hf, hd, ⟨c0, T⟩, hcv, e, q⟩ := h
  obtain ⟨od, J⟩ := inst_at I ha hc hf hd
  cases r with
  | cons rx rr =>
    cases rr with
    | cons rt rr =>
      cases rr
      cases rx
      have ec := hcv _ rt
      subst ec
      exact PySem.W.kia_one (PySem.W.kitx_exc T.cl T.xf.ga T.xf.gg T.xf.exC T.ha T.hn T.ht T.hm) I.kIn J e (fun z => nomatch z) fun tk => ⟨.bl b, H, I.kept (t' := tk) fun _ _ z => z, rfl, q⟩
theorem ev_is {te : TE} {cv : Value} {c : V} {cs : List (Str × Bool)} {i : Nat} (hcv : ∀ u, RelV c u → u = cv) (T : ∀ c b, cs.lookup c = some b → ∃ C, ExK X.K X.mg c C ∧ PySem.W.kitOne X.K (.ref C) cv = some b)
    {H0 : Hp} {ρ : Rho} {r : R} (ok : Ok X H0 σ H ρ) (h : mExI i cs ρ = some r) (H1 : Hp) (e : Ex H H1) (Q : VK) (q : ∀ v H2, Ex H1 H2 → Got X.K H1 v H2 r → Q v H2) : ∃ v, σ[i]? = some (some v) ∧ rIsG X [v, c] H1 Q := by
  unfold mExI at h
  split at h
  · rename_i c1 fs hc
    obtain ⟨b, hb, h⟩ := Option.map_eq_some_iff.mp h
    subst h
    obtain ⟨B, ok⟩ := ok
    obtain ⟨a', oe', C', h2, h3, h4, h5, h6, h8⟩ := ok.slot i _ hc
    obtain ⟨C, TC, hk⟩ := T c1 b hb
    have e2 : C = C' := by
      have z := TC.gC
      rw [h4] at z
      exact (Value.ref.inj (Option.some.inj z)).symm
    subst e2
    refine ⟨_, h2, a', C, oe', c, cv, b, rfl, h6.ex (ok.e1.trans e), h3, h5, ?_, ⟨c1, TC⟩, hcv, hk, q _ H1 (Ex.refl _) (.bl b)⟩
    rcases h8 with ⟨d', gs, g1, g2, g3⟩ | ⟨g, _⟩
    · exact .inr ⟨d', gs, g1, e _ _ (ok.e1 _ _ g2)⟩
    · exact .inl g
  · cases h
theorem x_exI (i : Nat) {y : Str} {D' : Addr} (cs : List (Str × Bool)) (hm : X.mg "isinstance" = none) (gD : X.mg y = some (.ref D')) (T : ∀ c b, cs.lookup c = some b → ∃ C, ExK X.K X.mg c C ∧ PySem.W.kitOne X.K (.ref C) (.ref D') = some b) (hN : X.N[i]? = some n := by rfl)
    (hv : Vis X.env.scope n := by first | exact Or.inl rfl | exact Or.inr (Or.inl rfl) | exact Or.inr (Or.inr rfl)) (hd : (n == ("__debug__" : Str)) = false := by decide) (hcd : (n == ("__classdict__" : Str)) = false := by decide)
    (hg : Gl X "isinstance" := by rfl) (hgD : Gl X y := by rfl) (hdy : (y == ("__debug__" : Str)) = false := by decide)
    (hs : starEach (.Name n p :: [.Name y p2]) X.env = (false, eval (.Name n p) X.env) :: starEach [.Name y p2] X.env := by rfl) (hs2 : starEach (.Name y p2 :: []) X.env = (false, eval (.Name y p2) X.env) :: starEach [] X.env := by rfl)
    (hpl : (backTo pos (starEach [.Name y p2] X.env)).any (·.1) = false := by rfl) {p0 : Pos} : JE X (.Call (.Name "isinstance" p0) [.Name n p, .Name y p2] [] pos) (mExI i cs) := by
  refine ⟨_, pe_callB call_isG hg hm PyProof.Rows.boot_isinstance (pa_cons (pe_var hN hv hd hcd) (pa_cons (pe_glob (v := .ref D') hgD gD rfl hdy) pa_nil hs2) hs) (he := hs) (hpl := hpl), fun H0 σ H ρ r ok h => ?_⟩
  intro H1 e Q q
  exact ev_is (te := tVar i) (c := .ref D') (fun u ru => ru) T ok h H1 e Q q
/-- .. of a builtin class -/
theorem x_exIB (i : Nat) {y : Str} {t : String} (cs : List (Str × Bool)) (hm : X.mg "isinstance" = none) (gD : X.mg y = none) (hv' : bootBuiltins y = some (.type t)) (T : ∀ c b, cs.lookup c = some b → ∃ C, ExK X.K X.mg c C ∧ PySem.W.kitOne X.K (.ref C) (.type t) = some b) (hN : X.N[i]? = some n := by rfl)
    (hv : Vis X.env.scope n := by first | exact Or.inl rfl | exact Or.inr (Or.inl rfl) | exact Or.inr (Or.inr rfl)) (hd : (n == ("__debug__" : Str)) = false := by decide) (hcd : (n == ("__classdict__" : Str)) = false := by decide)
    (hg : Gl X "isinstance" := by rfl) (hgD : Gl X y := by rfl) (hdy : (y == ("__debug__" : Str)) = false := by decide) (hny : y ≠ "__name__" := by decide)
    (hs : starEach (.Name n p :: [.Name y p2]) X.env = (false, eval (.Name n p) X.env) :: starEach [.Name y p2] X.env := by rfl) (hs2 : starEach (.Name y p2 :: []) X.env = (false, eval (.Name y p2) X.env) :: starEach [] X.env := by rfl)
    (hpl : (backTo pos (starEach [.Name y p2] X.env)).any (·.1) = false := by rfl) {p0 : Pos} : JE X (.Call (.Name "isinstance" p0) [.Name n p, .Name y p2] [] pos) (mExI i cs) := by
  refine ⟨_, pe_callB call_isG hg hm PyProof.Rows.boot_isinstance (pa_cons (pe_var hN hv hd hcd) (pa_cons (pe_bltn (v := .ty t) hgD gD hv' rfl hny hdy) pa_nil hs2) hs) (he := hs) (hpl := hpl), fun H0 σ H ρ r ok h => ?_⟩
  intro H1 e Q q
  exact ev_is (te := tVar i) (c := .ty t) (fun u ru => ru) T ok h H1 e Q q
end
end
end Tl

namespace Tl
open PySem PySem.Spec PyProof.Rows L2 Evl
noncomputable section
/-! ### x in (..) of flat values -/
def eqF : D → D → Option Bool
  | .non, .non => some true
  | .bl a, .bl b => some (a == b)
  | .int a, .int b => some (okP (a = b))
  | .str a, .str b => some (decide (a = b))
  | .non, .str _ => some false
  | .str _, .non => some false
  | .non, .int _ => some false
  | .int _, .non => some false
  | .int _, .str _ => some false
  | .str _, .int _ => some false
  | _, _ => none
def inF (x : D) : List D → Option Bool
  | [] => some false
  | y :: ys => (eqF y x).bind fun b => (inF x ys).map fun c => b || c
theorem beq_okP (a b : Int) : (a == b) = okP (a = b) := by
  by_cases h : a = b
  · rw [okP_t h, h]; simp
  · rw [okP_f h]; simp [h]
theorem eqF_of {K : PySem.W.Frag} {H H' : Hp} {v w : V} {d e : D} {k : Bool} (hv : Den K H v d) (hw : Den K H' w e) (h : eqF d e = some k) : flatV v = true ∧ flatV w = true ∧ eqV v w = k := by
  cases hv <;> cases hw <;> simp only [eqF, Option.some.injEq, reduceCtorEq] at h <;> subst h <;> refine ⟨rfl, rfl, ?_⟩ <;> first | rfl | exact beq_okP _ _ | simp [eqV]
theorem inF_of {K : PySem.W.Frag} {H : Hp} {v : V} {x : D} (hv : Den K H v x) : ∀ {ds : List D} {vs : List V} {b : Bool}, DenL K H vs ds → inF x ds = some b → vs.all flatV = true ∧ (ds ≠ [] → flatV v = true) ∧ inV v vs = b
  | [], _, _, .nil, h => by cases h; exact ⟨rfl, fun z => absurd rfl z, rfl⟩
  | y :: ys, _, _, .cons h1 h2, h => by
    obtain ⟨k, hk, h⟩ := Option.bind_eq_some_iff.mp (show ((eqF y x).bind fun b => (inF x ys).map fun c => b || c) = _ from h)
    obtain ⟨c, hc, h⟩ := Option.map_eq_some_iff.mp h
    subst h
    obtain ⟨a1, a2, a3⟩ := eqF_of h1 hv hk
    obtain ⟨b1, _, b3⟩ := inF_of hv h2 hc
    refine ⟨by rw [List.all_cons, a1, b1]; rfl, fun _ => a2, ?_⟩
    unfold inV at b3 ⊢
    rw [List.any_cons, a3, b3]
def mIn (f g : ME) : ME := fun ρ => (asDat (f ρ)).bind fun x => (asTup (g ρ)).bind fun ys => if ys.isEmpty = true then none else (inF x ys).map fun b => .dat (.bl b)
def mNi (f g : ME) : ME := fun ρ => (asDat (f ρ)).bind fun x => (asTup (g ρ)).bind fun ys => if ys.isEmpty = true then none else (inF x ys).map fun b => .dat (.bl (!b))
section
variable {X : Cx} {W : WX} {a b c e : Expr} {pos p : Pos} {f1 f2 f3 : ME} {es : List Expr} {ma : MA}
theorem ev_in {ta tb : TE} {σ : L2.St} {H : Hp} {ρ : Rho} {r : R} {H0 : Hp} (va : ∀ H0 σ H ρ r, Ok X H0 σ H ρ → f1 ρ = some r → EvR X.K ta σ H r) (vb : ∀ H0 σ H ρ r, Ok X H0 σ H ρ → f2 ρ = some r → EvR X.K tb σ H r) (ok : Ok X H0 σ H ρ)
    (h : mIn f1 f2 ρ = some r) : EvR X.K (tOp (rIn X.K false) ta tb) σ H r := by
  unfold mIn at h
  obtain ⟨x, hx, h⟩ := Option.bind_eq_some_iff.mp h
  obtain ⟨ys, hy, h⟩ := Option.bind_eq_some_iff.mp h
  split at h
  · cases h
  · rename_i hne
    obtain ⟨k, hk, h⟩ := Option.map_eq_some_iff.mp h
    subst h
    intro H1 e1 Q q
    refine va _ _ _ _ _ ok (asDat_some hx) H1 e1 _ fun v H2 e2 gv => ?_
    refine (vb _ _ _ _ _ ok (asTup_some hy)).tup H2 (e1.trans e2) _ fun p ws H3 e3 hl hdn => ?_
    obtain ⟨h1, h2, h3⟩ := inF_of (Den.ex gv e3) hdn hk
    refine ⟨p, ws, rfl, .inr hl, h2 (by intro z; subst z; exact hne rfl), h1, ?_⟩
    show Q (.bl (inV v ws)) H3
    rw [h3]
    exact q _ H3 (e2.trans e3) (.bl k)
theorem ev_ni {ta tb : TE} {σ : L2.St} {H : Hp} {ρ : Rho} {r : R} {H0 : Hp} (va : ∀ H0 σ H ρ r, Ok X H0 σ H ρ → f1 ρ = some r → EvR X.K ta σ H r) (vb : ∀ H0 σ H ρ r, Ok X H0 σ H ρ → f2 ρ = some r → EvR X.K tb σ H r) (ok : Ok X H0 σ H ρ)
    (h : mNi f1 f2 ρ = some r) : EvR X.K (tOp (rIn X.K true) ta tb) σ H r := by
  unfold mNi at h
  obtain ⟨x, hx, h⟩ := Option.bind_eq_some_iff.mp h
  obtain ⟨ys, hy, h⟩ := Option.bind_eq_some_iff.mp h
  split at h
  · cases h
  · rename_i hne
    obtain ⟨k, hk, h⟩ := Option.map_eq_some_iff.mp h
    subst h
    intro H1 e1 Q q
    refine va _ _ _ _ _ ok (asDat_some hx) H1 e1 _ fun v H2 e2 gv => ?_
    refine (vb _ _ _ _ _ ok (asTup_some hy)).tup H2 (e1.trans e2) _ fun p ws H3 e3 hl hdn => ?_
    obtain ⟨h1, h2, h3⟩ := inF_of (Den.ex gv e3) hdn hk
    refine ⟨p, ws, rfl, .inr hl, h2 (by intro z; subst z; exact hne rfl), h1, ?_⟩
    show Q (.bl (!inV v ws)) H3
    rw [h3]
    exact q _ H3 (e2.trans e3) (.bl _)
theorem x_in (ha : JE X a f1) (hb : JE X b f2) (hm : behindInMarks .In b = false := by rfl) : JE X (.Compare a [.In] [b] pos) (mIn f1 f2) := by
  obtain ⟨ta, pa, va⟩ := ha
  obtain ⟨tb, pb, vb⟩ := hb
  exact ⟨_, pe_cmpR op_in_seq pa pb hm, fun H0 σ H ρ r ok h => ev_in va vb ok h⟩
theorem t_in (ha : JE X a f1) (hb : JE X b f2) (hm : behindInMarks .In b = false := by rfl) : JT X (.Compare a [.In] [b] pos) (mT (mIn f1 f2)) := by
  obtain ⟨ta, pa, va⟩ := ha
  obtain ⟨tb, pb, vb⟩ := hb
  exact ⟨_, pt_cmpR op_in_seq pa pb hm, fun H0 σ H ρ r ok h => ev_test h fun r hr => ev_in va vb ok hr⟩
theorem x_ni (ha : JE X a f1) (hb : JE X b f2) (hm : behindInMarks .NotIn b = false := by rfl) : JE X (.Compare a [.NotIn] [b] pos) (mNi f1 f2) := by
  obtain ⟨ta, pa, va⟩ := ha
  obtain ⟨tb, pb, vb⟩ := hb
  exact ⟨_, pe_cmpR op_notIn_seq pa pb hm, fun H0 σ H ρ r ok h => ev_ni va vb ok h⟩
theorem t_ni (ha : JE X a f1) (hb : JE X b f2) (hm : behindInMarks .NotIn b = false := by rfl) : JT X (.Compare a [.NotIn] [b] pos) (mT (mNi f1 f2)) := by
  obtain ⟨ta, pa, va⟩ := ha
  obtain ⟨tb, pb, vb⟩ := hb
  exact ⟨_, pt_cmpR op_notIn_seq pa pb hm, fun H0 σ H ρ r ok h => ev_test h fun r hr => ev_ni va vb ok hr⟩
/-! ### a module's constant -/
def Gcon (K : PySem.W.Frag) (mg : Str → Option Value) (x : Str) (d : D) : Prop := ∃ v u, mg x = some u ∧ RelV v u ∧ ∀ H, Den K H v d
theorem x_gcon {x : Str} {d : D} (h : Gcon X.K X.mg x d) (hg : Gl X x := by rfl) (hdb : (x == ("__debug__" : Str)) = false := by decide) : JE X (.Name x pos) (mC d) := by
  obtain ⟨v, u, hm, r, hd⟩ := h
  exact x_glob hg hm r hd hdb
theorem gcon_int {K : PySem.W.Frag} {mg : Str → Option Value} {x : Str} {i : Int} {t : Tok} (h : mg x = some (.int i t)) : Gcon K mg x (.int i) := ⟨.int i, _, h, ⟨t, rfl⟩, fun _ => .int i⟩
inductive TupV : List Value → List V → List D → Prop
  | nil : TupV [] [] []
  | str {t : Tok} {us : List Value} {vs : List V} {ds : List D} (z : Str) : TupV us vs ds → TupV (.str z t :: us) (.str z :: vs) (.str z :: ds)
  | int {t : Tok} {us : List Value} {vs : List V} {ds : List D} (z : Int) : TupV us vs ds → TupV (.int z t :: us) (.int z :: vs) (.int z :: ds)
theorem TupV.vals : ∀ {us : List Value} {vs : List V} {ds : List D}, TupV us vs ds → Vals vs us
  | _, _, _, .nil => .nil
  | _, _, _, .str (t := t) z h => .cons ⟨t, rfl⟩ h.vals
  | _, _, _, .int (t := t) z h => .cons ⟨t, rfl⟩ h.vals
theorem TupV.den {K : PySem.W.Frag} {H : Hp} : ∀ {us : List Value} {vs : List V} {ds : List D}, TupV us vs ds → DenL K H vs ds
  | _, _, _, .nil => .nil
  | _, _, _, .str z h => .cons (.str z) h.den
  | _, _, _, .int z h => .cons (.int z) h.den
theorem den_tupK {K : PySem.W.Frag} {a : Addr} {dd : Option Addr} {us : List Value} {n : Nat} {sl : Array (Option Value)} {vs : List V} {ds : List D} (l : K.lookup a = some ⟨.type "tuple", dd, .seq us.toArray n, sl⟩) (hz : us.length ≤ 1000) (h : TupV us vs ds) (H : Hp) : Den K H (.ref a) (.tup ds) :=
  .tup (.inr ⟨_, _, _, l, rfl, rfl, by rw [List.size_toArray]; exact Nat.le_trans hz (by decide), by simpa using h.vals⟩) h.den
theorem gcon_tup {K : PySem.W.Frag} {mg : Str → Option Value} {x : Str} {a : Addr} {dd : Option Addr} {us : List Value} {n : Nat} {sl : Array (Option Value)} {vs : List V} {ds : List D} (h : mg x = some (.ref a)) (l : K.lookup a = some ⟨.type "tuple", dd, .seq us.toArray n, sl⟩) (hz : us.length ≤ 1000)
    (t : TupV us vs ds) : Gcon K mg x (.tup ds) := ⟨.ref a, _, h, rfl, den_tupK l hz t⟩
/-! ### slices of texts -/
def mSlS (f : ME) (lo hi : MO) : ME := fun ρ => (asStr (f ρ)).bind fun z => (lo ρ).bind fun l => (hi ρ).bind fun u => if szOk z.length = true then some (.dat (.str (cutS z l u))) else none
theorem x_slS {lo hi : Option Expr} {ml mh : MO} (ha : JE X a f1) (hl : JO X lo ml) (hh : JO X hi mh) {p2 : Pos} : JE X (.Subscript a (.Slice lo hi none p2) pos) (mSlS f1 ml mh) := by
  obtain ⟨ta, pa, va⟩ := ha
  obtain ⟨tl, pl, vl⟩ := hl
  obtain ⟨th, ph, vh⟩ := hh
  refine ⟨_, pe_slice sl_str pa pl ph, fun H0 σ H ρ r ok h => ?_⟩
  unfold mSlS at h
  obtain ⟨xs, hx, h⟩ := Option.bind_eq_some_iff.mp h
  obtain ⟨l, hl, h⟩ := Option.bind_eq_some_iff.mp h
  obtain ⟨u, hu, h⟩ := Option.bind_eq_some_iff.mp h
  split at h
  · rename_i hz
    cases h
    intro H1 e1 Q q
    refine (va _ _ _ _ _ ok (asStr_some hx)).str H1 e1 _ fun H2 e2 => ?_
    refine vl _ _ _ _ _ ok hl H2 (e1.trans e2) _ fun H3 e3 => ?_
    refine vh _ _ _ _ _ ok hu H3 ((e1.trans e2).trans e3) _ fun H4 e4 => ?_
    exact ⟨xs, rfl, szOk_of hz, q _ H4 ((e2.trans e3).trans e4) (.str _)⟩
  · cases h
end
end
end Tl

namespace Tl
open PySem PySem.Spec PyProof.Rows L2 Evl
noncomputable section
theorem okP_T : okP True = true := okP_t trivial
theorem okP_F : okP False = false := okP_f id
mutual
theorem eqv_refl : ∀ d : D, PyData.eqv (py d) (py d) = true
  | .non => by simp [py, PyData.eqv]
  | .bl b => by simp [py, PyData.eqv]
  | .int i => by simp [py, PyData.eqv]
  | .str x => by simp [py, PyData.eqv]
  | .dic x => by simp [py, PyData.eqv]
  | .tup xs => by
    simp only [py, PyData.eqv]
    exact eqvL_refl xs
theorem eqvL_refl : ∀ xs : List D, PyData.eqvAll (pyL xs) (pyL xs) = true
  | [] => by simp [pyL, PyData.eqvAll]
  | x :: xs => by
    simp only [pyL, PyData.eqvAll, eqv_refl x, eqvL_refl xs, Bool.and_self]
end
theorem eqD_refl (d : D) : eqD d d = true := eqv_refl d
/-! data of which == may be asked -/
mutual
def okD : D → Bool
  | .str x => PyData.strOk x
  | .tup xs => okDL xs
  | .dic _ => false
  | _ => true
def okDL : List D → Bool
  | [] => true
  | x :: xs => okD x && okDL xs
end
mutual
def dpD : D → Nat
  | .tup xs => dpDL xs + 1
  | _ => 0
def dpDL : List D → Nat
  | [] => 0
  | x :: xs => max (dpD x) (dpDL xs)
end
mutual
theorem lay_of : ∀ d : D, PyData.canLay0 (py d) = okD d
  | .non => by simp [py, PyData.canLay0, okD]
  | .bl b => by simp [py, PyData.canLay0, okD]
  | .int i => by simp [py, PyData.canLay0, okD]
  | .str x => by simp [py, PyData.canLay0, okD]
  | .dic _ => by simp [py, PyData.canLay0, okD, PyData.strOk]
  | .tup xs => by
    simp only [py, PyData.canLay0, okD]
    exact layL_of xs
theorem layL_of : ∀ xs : List D, PyData.canLayAll0 (pyL xs) = okDL xs
  | [] => by simp [pyL, PyData.canLayAll0, okDL]
  | x :: xs => by simp only [pyL, PyData.canLayAll0, okDL, lay_of x, layL_of xs]
end
mutual
theorem dp_of : ∀ d : D, PyData.depth (py d) = dpD d
  | .non => by simp [py, PyData.depth, dpD]
  | .bl b => by simp [py, PyData.depth, dpD]
  | .int i => by simp [py, PyData.depth, dpD]
  | .str x => by simp [py, PyData.depth, dpD]
  | .dic _ => by simp [py, PyData.depth, dpD]
  | .tup xs => by
    simp only [py, PyData.depth, dpD]
    rw [dpL_of xs]
theorem dpL_of : ∀ xs : List D, PyData.depthAll (pyL xs) = dpDL xs
  | [] => by simp [pyL, PyData.depthAll, dpDL]
  | x :: xs => by simp only [pyL, PyData.depthAll, dpDL, dp_of x, dpL_of xs]
end
theorem shp_of {d : D} (h : okD d = true) (h2 : dpD d ≤ 64) : shp d = true := by
  unfold shp SeqAt.shaped
  rw [lay_of, dp_of, h, decide_eq_true h2]
  rfl
/-! texts -/
theorem cps_append (x y : Str) : (x ++ y).cps.toList = x.cps.toList ++ y.cps.toList := by
  show (x.cps ++ y.cps).toList = _
  simp
def okS (x : Str) : Prop := ∀ c ∈ x.cps.toList, c < 0x110000
theorem okS_iff {x : Str} : okS x ↔ PyData.strOk x = true := by
  unfold okS PyData.strOk
  rw [Array.all_eq_true_iff_forall_mem]
  simp
theorem okS_append {x y : Str} (hx : okS x) (hy : okS y) : okS (x ++ y) := by
  intro c hc
  rw [cps_append] at hc
  rcases List.mem_append.mp hc with h | h
  · exact hx c h
  · exact hy c h
theorem okS_cut {x : Str} (hx : okS x) (l u : Option Int) : okS (cutS x l u) := by
  intro c hc
  unfold cutS at hc
  have hc : c ∈ (x.cps.toList.drop (HT.sIx x.length 0 l)).take (HT.sIx x.length x.length u - HT.sIx x.length 0 l) := by simpa using hc
  exact hx c (List.mem_of_mem_drop (List.mem_of_mem_take hc))
theorem okS_one {c : Nat} (h : c < 0x110000) : okS ⟨#[c]⟩ := by
  intro d hd
  simp at hd
  omega
theorem len_append (x y : Str) : (x ++ y).length = x.length + y.length := by
  show (x.cps ++ y.cps).size = _
  rw [Array.size_append]; rfl
theorem len_cut (x : Str) (l u : Option Int) : (cutS x l u).length ≤ x.length := by
  unfold cutS
  show ((x.cps.toList.drop _).take _).toArray.size ≤ x.cps.size
  rw [List.size_toArray, List.length_take, List.length_drop, Array.length_toList]
  omega
theorem atI_ints {ns : List Int} {i : Int} (h0 : 0 ≤ i) (h1 : i < ns.length) : ∃ v, atI (ns.map D.int) i = some (.int v) := by
  obtain ⟨v, hv⟩ := atI_in h0 h1
  exact ⟨v, atI_map hv⟩
end
end Tl

namespace Tl
open PySem PySem.Spec PyProof.Rows L2 Evl
noncomputable section
/-! ### the same slots in another context -/
theorem Ok.cx {X Y : Cx} {H0 H : Hp} {σ : L2.St} {ρ : Rho} (ok : Ok X H0 σ H ρ) (hK : Y.K = X.K) (hm : Y.mg = X.mg) (hp : Y.pn = X.pn) (hb : Y.base = X.base := by rfl) : Ok Y H0 σ H ρ := by
  obtain ⟨B, ok⟩ := ok
  refine ⟨B, by rw [hK, hm]; exact ok.e0, ok.e1, ok.len, fun i c hi => ?_, ok.inj⟩
  have z := ok.slot i c hi
  cases c with
  | un => trivial
  | dat d => unfold SlotOk; rw [hK]; exact z
  | own xs => unfold SlotOk; rw [hK]; exact z
  | bor xs => unfold SlotOk; rw [hK]; exact z
  | exc c fs =>
    unfold SlotOk ExcAt AtE
    rw [hK, hm, hp]
    exact z
  | fn x => unfold SlotOk; rw [hm]; exact z
/-! ### list comprehensions -/
def wipeC (ρ : Rho) : List Nat → Rho
  | [] => ρ
  | v :: vs => (wipeC ρ vs).set v .un
theorem Ok.wipe {X : Cx} {H0 H : Hp} {σ : L2.St} {ρ : Rho} (ok : Ok X H0 σ H ρ) : ∀ vs : List Nat, Ok X H0 (L2.wipe σ vs) H (wipeC ρ vs)
  | [] => ok
  | v :: vs => (Ok.wipe ok vs).un
def lcM (g : MG) (t : MT) (f : ME) (ρ : Rho) : List D → Option (List D)
  | [] => some []
  | d :: ds => (g d ρ).bind fun ρ1 => (t ρ1).bind fun b => if b = true then (asDat (f ρ1)).bind fun y => (lcM g t f ρ ds).map fun ys => y :: ys else lcM g t f ρ ds
def mLc (mi : MI) (g : MG) (t : MT) (f : ME) (vs : List Nat) : ME := fun ρ => (mi ρ).bind fun p => if szOk (p.1.length + 1) = true then (lcM g t f (wipeC (p.2.map dropX) vs) p.1).map .new else none
def tYesM : MT := fun _ => some true
/-- targets that set the slots js and no others -/
def JGw (X : Cx) (tg : Expr) (g : MG) (js : List Nat) : Prop := ∃ t, PG X tg t ∧ ∀ H0 σ H ρ v d ρ', Ok X H0 σ H ρ → Den X.K H v d → g d ρ = some ρ' → ∀ Q : L2.St → Hp → Prop, (∀ σ', Ok X H0 σ' H ρ' → σ'.length = σ.length → (∀ k, k ∉ js → σ'[k]? = σ[k]?) → Q σ' H) → t v σ H Q
def JGsw (X : Cx) (tgs : List Expr) (g : MGs) (js : List Nat) : Prop := ∃ t, PGs X tgs t ∧ ∀ H0 σ H ρ vs ds ρ', Ok X H0 σ H ρ → DenL X.K H vs ds → g ds ρ = some ρ' → ∀ Q : L2.St → Hp → Prop, (∀ σ', Ok X H0 σ' H ρ' → σ'.length = σ.length → (∀ k, k ∉ js → σ'[k]? = σ[k]?) → Q σ' H) → t vs σ H Q
theorem wipe_get {σ : L2.St} {k : Nat} : ∀ {vs : List Nat}, k ∈ vs → k < σ.length → (L2.wipe σ vs)[k]? = some none
  | v :: vs, h, hl => by
    unfold L2.wipe
    by_cases e : v = k
    · subst e
      exact set_get (by rw [wipe_length]; exact hl)
    · rw [List.getElem?_set_ne e]
      exact wipe_get (by rcases List.mem_cons.mp h with z | z; exact absurd z.symm e; exact z) hl
theorem wipe_eq {σ σ' : L2.St} {vs : List Nat} (hl : σ'.length = σ.length) (h : ∀ k, k ∉ vs → σ'[k]? = σ[k]?) : L2.wipe σ' vs = L2.wipe σ vs := by
  apply List.ext_getElem?
  intro k
  by_cases hk : k ∈ vs
  · by_cases hk2 : k < σ.length
    · rw [wipe_get hk hk2, wipe_get hk (by omega)]
    · rw [List.getElem?_eq_none (by rw [wipe_length]; omega), List.getElem?_eq_none (by rw [wipe_length]; omega)]
  · rw [wipe_out hk, wipe_out hk]
    exact h k hk
section
variable {X : Cx} {W : WX} {a b c e : Expr} {pos p : Pos} {f1 f2 f3 : ME} {es : List Expr} {ma : MA} {tg it elt : Expr} {mi : MI} {g : MG} {t : MT}
theorem gw_nm (i : Nat) {x : Str} (hN : X.N.Nodup) (hi : X.N[i]? = some x := by rfl) (hx : Loc X.env.scope x := by first | exact Or.inl rfl | exact Or.inr rfl) (hf : X.fn x = true ∨ X.env.scope.names.lookup x = some .local := by first | exact .inl rfl | exact .inr rfl | assumption) :
    JGw X (.Name x pos) (gNm i) [i] := ⟨_, pg_name hN hi hx hf, fun H0 σ H ρ v d ρ' ok hd h Q q => by
  cases h
  exact q _ (ok.set hd) (List.length_set ..) fun k hk => List.getElem?_set_ne (fun z => hk (by simp [z]))⟩
theorem gsw_nil : JGsw X [] gNil' [] := ⟨_, pgs_nil, fun H0 σ H ρ vs ds ρ' ok hd h Q q => by
  cases hd with
  | nil => cases h; exact ⟨rfl, q _ ok rfl fun _ _ => rfl⟩
  | cons _ _ => cases h⟩
theorem gsw_cons {g : MG} {gs : MGs} {js ks : List Nat} (h1 : JGw X e g js) (h2 : JGsw X es gs ks) (hpg : ∀ t u, PG X e t → PGs X es u → PGs X (e :: es) (gCons t u) := by exact fun t u h1 h2 => pgs_cons h1 h2) : JGsw X (e :: es) (gCons' g gs) (js ++ ks) := by
  obtain ⟨t, p, v⟩ := h1
  obtain ⟨u, pu, vu⟩ := h2
  refine ⟨_, hpg _ _ p pu, fun H0 σ H ρ vs ds ρ' ok hd h Q q => ?_⟩
  cases hd with
  | nil => cases h
  | cons hd1 hd2 =>
    obtain ⟨ρ1, h1, h2⟩ := Option.bind_eq_some_iff.mp (show (g _ ρ).bind (fun ρ' => gs _ ρ') = some ρ' from h)
    refine ⟨_, _, rfl, ?_⟩
    exact v _ _ _ _ _ _ _ ok hd1 h1 _ fun σ1 ok1 l1 k1 => vu _ _ _ _ _ _ _ ok1 hd2 h2 Q fun σ2 ok2 l2 k2 => q σ2 ok2 (l2.trans l1) fun k hk => (k2 k fun z => hk (List.mem_append.mpr (.inr z))).trans (k1 k fun z => hk (List.mem_append.mpr (.inl z)))
theorem gw_tp {gs : MGs} {k : Nat} {n : Nat} {js : List Nat} (h : JGsw X es gs js) (hl : ∀ ds ρ ρ', gs ds ρ = some ρ' → ds.length = n) (hpg : ∀ t, PGs X es t → PG X (.Tuple es k pos) (gTup X.K n t) := by exact fun t h => pg_tup rfl h) : JGw X (.Tuple es k pos) (gTp gs) js := by
  obtain ⟨t, p, v⟩ := h
  refine ⟨_, hpg _ p, fun H0 σ H ρ w d ρ' ok hd h Q q => ?_⟩
  cases hd with
  | non => cases h
  | bl _ => cases h
  | int _ => cases h
  | str _ => cases h
  | dic _ _ => cases h
  | tup h1 h2 => exact ⟨_, _, rfl, h1, by rw [h2.length]; exact hl _ _ _ h, v _ _ _ _ _ _ _ ok h2 h Q q⟩
/-- [elt for tg in it] and the reading of the parts in the block -/
theorem lc_any {Pj : TE → Prop} {scope : Scope} {own : List (Str × Nat)} {js : List Nat} {ifs : List Expr} {wi : TI} (Hb : Cx → Prop) (vi : ∀ H0 σ H ρ ds ρ', Ok X H0 σ H ρ → mi ρ = some (ds, ρ') → ∀ R' : It → Hp → Prop, (∀ J H1 H0', Ex H0 H0' → Ok X H0' σ H1 ρ' → Ex H H1 → ItD X.K H0' J ds → R' J H1) → wi σ H R') (hjs : ∀ k, k ∈ js → k ∈ own.map (·.2))
    (hg : ∀ (s : Shared) (H : Hp) (C : Addr) (cl : List (Str × Addr)) (fp : List Addr), Hb (X.blk s H scope (compEnvC scope cl C X.env) fp) → JGw (X.blk s H scope (compEnvC scope cl C X.env) fp) tg g js)
    (ht : ∀ (s : Shared) (H : Hp) (C : Addr) (cl : List (Str × Addr)) (fp : List Addr), ∃ tt, PTs (X.blk s H scope (compEnvC scope cl C X.env) fp) ifs tt ∧ ∀ H0 σ H' ρ b, Ok (X.blk s H scope (compEnvC scope cl C X.env) fp) H0 σ H' ρ → t ρ = some b → EvT tt σ H' b)
    (he : ∀ (s : Shared) (H : Hp) (C : Addr) (cl : List (Str × Addr)) (fp : List Addr), JE (X.blk s H scope (compEnvC scope cl C X.env) fp) elt f1)
    (hpe : ∀ (g' : TG) (t' : TT) (e' : TE), (∀ (s : Shared) (H : Hp) (C : Addr) (cl : List (Str × Addr)) (fp : List Addr), Hb (X.blk s H scope (compEnvC scope cl C X.env) fp) → PG (X.blk s H scope (compEnvC scope cl C X.env) fp) tg g') →
      (∀ (s : Shared) (H : Hp) (C : Addr) (cl : List (Str × Addr)) (fp : List Addr), PTs (X.blk s H scope (compEnvC scope cl C X.env) fp) ifs t') → (∀ (s : Shared) (H : Hp) (C : Addr) (cl : List (Str × Addr)) (fp : List Addr), PE (X.blk s H scope (compEnvC scope cl C X.env) fp) elt e') →
      Pj (tLc wi g' t' e' (own.map (·.2)))) :
    ∃ te, Pj te ∧ ∀ H0 σ H ρ r, Ok X H0 σ H ρ → mLc mi g t f1 (own.map (·.2)) ρ = some r → EvR X.K te σ H r := by
  let Y : Cx := X.tr [] X.xe
  let gC : TG := fun v σ H Q => ∃ H0 ρ d ρ', Ok Y H0 σ H ρ ∧ Den X.K H v d ∧ g d ρ = some ρ' ∧ ∀ σ', Ok Y H0 σ' H ρ' → σ'.length = σ.length → (∀ k, k ∉ js → σ'[k]? = σ[k]?) → Q σ' H
  let tC' : TT := fun σ H Q => ∃ H0 ρ k, Ok Y H0 σ H ρ ∧ t ρ = some k ∧ ∀ H2, Ex H H2 → Q k H2
  let eC : TE := fun σ H Q => ∃ H0 ρ r, Ok Y H0 σ H ρ ∧ f1 ρ = some r ∧ ∀ v H2, Ex H H2 → Got X.K H v H2 r → Q v H2
  have pg : ∀ (s : Shared) (H : Hp) (C : Addr) (cl : List (Str × Addr)) (fp : List Addr), Hb (X.blk s H scope (compEnvC scope cl C X.env) fp) → PG (X.blk s H scope (compEnvC scope cl C X.env) fp) tg gC := fun s H C cl fp hb => by
    obtain ⟨t', p', v'⟩ := hg s H C cl fp hb
    refine ⟨fun pins s σ H v u Q I r h => ?_⟩
    obtain ⟨H0, ρ, d, ρ', ok', hd, hgd, q⟩ := h
    exact p'.run pins s σ H v u Q I r (v' H0 σ H ρ v d ρ' (ok'.cx rfl rfl rfl) hd hgd Q fun σ' ok2 l k => q σ' (ok2.cx rfl rfl rfl) l k)
  have pt : ∀ (s : Shared) (H : Hp) (C : Addr) (cl : List (Str × Addr)) (fp : List Addr), PTs (X.blk s H scope (compEnvC scope cl C X.env) fp) ifs tC' := fun s H C cl fp => by
    obtain ⟨t', p', v'⟩ := ht s H C cl fp
    refine ⟨fun pins s σ H Q I h => ?_⟩
    obtain ⟨H0, ρ, k, ok', hk, q⟩ := h
    exact p'.run pins s σ H Q I (v' H0 σ H ρ k (ok'.cx rfl rfl rfl) hk H (Ex.refl H) Q q)
  have pe : ∀ (s : Shared) (H : Hp) (C : Addr) (cl : List (Str × Addr)) (fp : List Addr), PE (X.blk s H scope (compEnvC scope cl C X.env) fp) elt eC := fun s H C cl fp => by
    obtain ⟨t', p', v'⟩ := he s H C cl fp
    refine ⟨fun pins s σ H Q I h => ?_⟩
    obtain ⟨H0, ρ, r, ok', hr, q⟩ := h
    exact p'.run pins s σ H Q I (v' H0 σ H ρ r (ok'.cx rfl rfl rfl) hr H (Ex.refl H) Q q)
  refine ⟨_, hpe _ _ _ pg pt pe, fun H0 σ H ρ r ok0 h => ?_⟩
  unfold mLc at h
  obtain ⟨⟨ds, ρ'⟩, hm, h⟩ := Option.bind_eq_some_iff.mp h
  split at h
  · rename_i hz
    obtain ⟨total, htot, h⟩ := Option.map_eq_some_iff.mp h
    subst h
    intro H1 e1 Q q
    refine vi H0 σ H1 ρ ds ρ' (ok0.ex e1) hm _ fun J H2 H0' e0 ok1 e2 T => ?_
    intro D nD
    have okw : Ok Y H0' (L2.wipe σ (own.map (·.2))) H2 (wipeC (ρ'.map dropX) (own.map (·.2))) := Ok.wipe (Ok.drop (Y := Y) ok1 rfl) _
    have hz' : ds.length + 1 ≤ 100000 := okP_of hz
    refine ⟨fun i m H' => m = ds.length - i ∧ i ≤ ds.length ∧ Ex H2 H' ∧ ∃ acc done rest, H' D = some (.lst acc) ∧ DenL X.K H' acc done ∧ lcM g t f1 (wipeC (ρ'.map dropX) (own.map (·.2))) (ds.drop i) = some rest ∧ done ++ rest = total ∧ done.length ≤ i,
      ⟨ds.length, by simp, Nat.zero_le _, Ex.new nD, [], [], total, upd_same, .nil, by rw [List.drop_zero]; exact htot, rfl, Nat.le_refl _⟩, ?_⟩
    rintro i m H' ⟨rfl, hi, eH, acc, done, rest, hacc, hden, hlc, htt, hdl⟩
    by_cases hlt : i < ds.length
    · refine .inr ⟨T.go i H' (ok1.base.trans eH) hlt, fun H'' => i + 1 ≤ ds.length ∧ Ex H2 H'' ∧ ∃ acc done rest, H'' D = some (.lst acc) ∧ DenL X.K H'' acc done ∧ lcM g t f1 (wipeC (ρ'.map dropX) (own.map (·.2))) (ds.drop (i + 1)) = some rest ∧ done ++ rest = total ∧ done.length ≤ i + 1,
        fun H'' hN => ⟨ds.length - (i + 1), by omega, rfl, hN⟩, fun x H'' y => ?_⟩
      obtain ⟨e3, d, hd, hdn⟩ := T.yld i H' x H'' (ok1.base.trans eH) hlt y
      have hdrop : ds.drop i = d :: ds.drop (i + 1) := by
        rw [List.drop_eq_getElem_cons hlt]
        congr 1
        rw [List.getElem?_eq_getElem hlt] at hd
        exact Option.some.inj hd
      rw [hdrop] at hlc
      unfold lcM at hlc
      obtain ⟨ρ2, hg2, hlc⟩ := Option.bind_eq_some_iff.mp hlc
      obtain ⟨k, hk, hlc⟩ := Option.bind_eq_some_iff.mp hlc
      refine ⟨H0', _, d, ρ2, okw.ex (eH.trans e3), hdn, hg2, fun σ2 ok2 l2 k2 => ?_⟩
      refine ⟨wipe_eq (σ := L2.wipe σ (own.map (·.2))) l2 (fun z hz => k2 z fun hjz => hz (hjs z hjz)) |>.trans ?_, ?_⟩
      · apply List.ext_getElem?
        intro z
        by_cases hk : z ∈ own.map (·.2)
        · by_cases hk2 : z < σ.length
          · rw [wipe_get hk (by rw [wipe_length]; exact hk2), wipe_get hk hk2]
          · rw [List.getElem?_eq_none (by rw [wipe_length, wipe_length]; omega), List.getElem?_eq_none (by rw [wipe_length]; omega)]
        · rw [wipe_out hk]
      · refine ⟨H0', ρ2, k, ok2, hk, fun H3 e4 => ?_⟩
        cases k with
        | false =>
          show _
          exact ⟨by omega, (eH.trans e3).trans e4, acc, done, rest, e4 _ _ (e3 _ _ hacc), (hden.ex e3).ex e4, hlc, htt, by omega⟩
        | true =>
          have hlc' : ((asDat (f1 ρ2)).bind fun y => (lcM g t f1 (wipeC (ρ'.map dropX) (own.map (·.2))) (ds.drop (i + 1))).map fun ys => y :: ys) = some rest := hlc
          obtain ⟨yd, hyd, hlc'⟩ := Option.bind_eq_some_iff.mp hlc'
          obtain ⟨ys, hys, hlc'⟩ := Option.map_eq_some_iff.mp hlc'
          subst hlc'
          refine ⟨H0', ρ2, _, ok2.ex e4, asDat_some hyd, fun v H4 e5 gv => ?_⟩
          have ea : H4 D = some (.lst acc) := e5 _ _ (e4 _ _ (e3 _ _ hacc))
          have te : TEx X.K H4 (upd H4 D (.lst (acc ++ [v]))) := TEx.mut ea
          refine ⟨acc, ea, ?_, by omega, ?_, acc ++ [v], done ++ [yd], ys, upd_same, ((((hden.ex e3).ex e4).ex e5).append (.cons gv .nil)).imp te, hys, ?_, ?_⟩
          · rw [hden.length]
            exact sz_lt (by omega)
          · exact (((eH.trans e3).trans e4).trans e5).mut nD
          · rw [List.append_assoc]
            exact htt
          · rw [List.length_append]
            show done.length + 1 ≤ i + 1
            omega
    · have e : i = ds.length := by omega
      subst e
      rw [List.drop_length] at hlc
      cases hlc
      rw [List.append_nil] at htt
      subst htt
      exact .inl ⟨T.stop _ H' (ok1.base.trans eH) (Nat.le_refl _), q _ H' (e2.trans eH) ⟨D, acc, rfl, fresh_back e2 nD, hacc, hden⟩⟩
  · cases h
theorem x_lcW {scope : Scope} {own : List (Str × Nat)} {js : List Nat} {ifs : List Expr} {wi : TI} (Hb : Cx → Prop) (vi : ∀ H0 σ H ρ ds ρ', Ok X H0 σ H ρ → mi ρ = some (ds, ρ') → ∀ R' : It → Hp → Prop, (∀ J H1 H0', Ex H0 H0' → Ok X H0' σ H1 ρ' → Ex H H1 → ItD X.K H0' J ds → R' J H1) → wi σ H R') (hjs : ∀ k, k ∈ js → k ∈ own.map (·.2))
    (hg : ∀ (s : Shared) (H : Hp) (C : Addr) (cl : List (Str × Addr)) (fp : List Addr), Hb (X.blk s H scope (compEnvC scope cl C X.env) fp) → JGw (X.blk s H scope (compEnvC scope cl C X.env) fp) tg g js)
    (ht : ∀ (s : Shared) (H : Hp) (C : Addr) (cl : List (Str × Addr)) (fp : List Addr), ∃ tt, PTs (X.blk s H scope (compEnvC scope cl C X.env) fp) ifs tt ∧ ∀ H0 σ H' ρ b, Ok (X.blk s H scope (compEnvC scope cl C X.env) fp) H0 σ H' ρ → t ρ = some b → EvT tt σ H' b)
    (he : ∀ (s : Shared) (H : Hp) (C : Addr) (cl : List (Str × Addr)) (fp : List Addr), JE (X.blk s H scope (compEnvC scope cl C X.env) fp) elt f1)
    (hpe : ∀ (g' : TG) (t' : TT) (e' : TE), (∀ (s : Shared) (H : Hp) (C : Addr) (cl : List (Str × Addr)) (fp : List Addr), Hb (X.blk s H scope (compEnvC scope cl C X.env) fp) → PG (X.blk s H scope (compEnvC scope cl C X.env) fp) tg g') →
      (∀ (s : Shared) (H : Hp) (C : Addr) (cl : List (Str × Addr)) (fp : List Addr), PTs (X.blk s H scope (compEnvC scope cl C X.env) fp) ifs t') → (∀ (s : Shared) (H : Hp) (C : Addr) (cl : List (Str × Addr)) (fp : List Addr), PE (X.blk s H scope (compEnvC scope cl C X.env) fp) elt e') →
      PE X (.ListComp elt [⟨tg, it, ifs, 0⟩] scope pos) (tLc wi g' t' e' (own.map (·.2)))) :
    JE X (.ListComp elt [⟨tg, it, ifs, 0⟩] scope pos) (mLc mi g t f1 (own.map (·.2))) := 
  lc_any (Pj := PE X (.ListComp elt [⟨tg, it, ifs, 0⟩] scope pos)) Hb vi hjs hg ht he hpe
theorem x_lcG {scope : Scope} {own : List (Str × Nat)} {js : List Nat} {ifs : List Expr} (hN : X.N.Nodup) (hc : X.calm = true) (hi : JI X tg it mi) (ok : BlkOk X.N X.env.scope scope own) (hjs : ∀ k, k ∈ js → k ∈ own.map (·.2))
    (hg : ∀ (s : Shared) (H : Hp) (C : Addr) (cl : List (Str × Addr)) (fp : List Addr), JGw (X.blk s H scope (compEnvC scope cl C X.env) fp) tg g js)
    (ht : ∀ (s : Shared) (H : Hp) (C : Addr) (cl : List (Str × Addr)) (fp : List Addr), ∃ tt, PTs (X.blk s H scope (compEnvC scope cl C X.env) fp) ifs tt ∧ ∀ H0 σ H' ρ b, Ok (X.blk s H scope (compEnvC scope cl C X.env) fp) H0 σ H' ρ → t ρ = some b → EvT tt σ H' b)
    (he : ∀ (s : Shared) (H : Hp) (C : Addr) (cl : List (Str × Addr)) (fp : List Addr), JE (X.blk s H scope (compEnvC scope cl C X.env) fp) elt f1) (hs : ∀ x, foldedSetIterable it X.env x = pure x := by intro _; rfl) :
    JE X (.ListComp elt [⟨tg, it, ifs, 0⟩] scope pos) (mLc mi g t f1 (own.map (·.2))) := by
  obtain ⟨wi, pi, vi⟩ := hi
  exact x_lcW (fun _ => True) vi hjs (fun s H C cl fp _ => hg s H C cl fp) ht he fun g' t' e' pg pt pe => pe_lc hc hN pi ok (fun s H C cl fp => pg s H C cl fp trivial) pt pe hs
theorem x_lc {scope : Scope} {own : List (Str × Nat)} {js : List Nat} (hN : X.N.Nodup) (hc : X.calm = true) (hi : JI X tg it mi) (ok : BlkOk X.N X.env.scope scope own) (hjs : ∀ k, k ∈ js → k ∈ own.map (·.2))
    (hg : ∀ (s : Shared) (H : Hp) (C : Addr) (cl : List (Str × Addr)) (fp : List Addr), JGw (X.blk s H scope (compEnvC scope cl C X.env) fp) tg g js)
    (he : ∀ (s : Shared) (H : Hp) (C : Addr) (cl : List (Str × Addr)) (fp : List Addr), JE (X.blk s H scope (compEnvC scope cl C X.env) fp) elt f1) (hs : ∀ x, foldedSetIterable it X.env x = pure x := by intro _; rfl) :
    JE X (.ListComp elt [⟨tg, it, [], 0⟩] scope pos) (mLc mi g tYesM f1 (own.map (·.2))) :=
  x_lcG hN hc hi ok hjs hg (fun s H C cl fp => ⟨_, pts_nil, fun H0 σ H' ρ b ok h => by cases h; exact fun H1 _ Q q => q H1 (Ex.refl H1)⟩) he hs
theorem x_lcIf {scope : Scope} {own : List (Str × Nat)} {js : List Nat} (hN : X.N.Nodup) (hc : X.calm = true) (hi : JI X tg it mi) (ok : BlkOk X.N X.env.scope scope own) (hjs : ∀ k, k ∈ js → k ∈ own.map (·.2))
    (hg : ∀ (s : Shared) (H : Hp) (C : Addr) (cl : List (Str × Addr)) (fp : List Addr), JGw (X.blk s H scope (compEnvC scope cl C X.env) fp) tg g js)
    (ht : ∀ (s : Shared) (H : Hp) (C : Addr) (cl : List (Str × Addr)) (fp : List Addr), JT (X.blk s H scope (compEnvC scope cl C X.env) fp) c t)
    (he : ∀ (s : Shared) (H : Hp) (C : Addr) (cl : List (Str × Addr)) (fp : List Addr), JE (X.blk s H scope (compEnvC scope cl C X.env) fp) elt f1) (hs : ∀ x, foldedSetIterable it X.env x = pure x := by intro _; rfl) :
    JE X (.ListComp elt [⟨tg, it, [c], 0⟩] scope pos) (mLc mi g t f1 (own.map (·.2))) :=
  x_lcG hN hc hi ok hjs hg (fun s H C cl fp => by
    obtain ⟨tt, p, v⟩ := ht s H C cl fp
    exact ⟨tt, pts_one p, v⟩) he hs
/-! ### tuple(list), all(list) -/
def mTupOf (f : ME) : ME := fun ρ => (asLst (f ρ)).map fun xs => .dat (.tup xs)
theorem x_tupOf {p : Pos} (hm : X.mg "tuple" = none) (ha : JE X a f1) (hg : Gl X "tuple" := by rfl) (hs : starEach (a :: []) X.env = (false, eval a X.env) :: starEach [] X.env := by rfl) : JE X (.Call (.Name "tuple" p) [a] [] pos) (mTupOf f1) := by
  obtain ⟨ta, pa, va⟩ := ha
  refine ⟨_, pe_callTy call_tuple_of hg hm PyProof.Rows.boot_tuple (pa_cons pa pa_nil hs) (he := hs), fun H0 σ H ρ r ok h => ?_⟩
  unfold mTupOf at h
  obtain ⟨xs, hx, h⟩ := Option.map_eq_some_iff.mp h
  subst h
  intro H1 e1 Q q
  refine ev_lst hx (fun r hr => va _ _ _ _ _ ok hr) H1 e1 _ fun v H2 e2 ⟨p, vs, hv, hl, hdn⟩ => ?_
  subst hv
  exact ⟨p, vs, rfl, .inl ⟨hl, fun l nl => q _ _ (e2.trans (Ex.new nl)) (.tup (st_of upd_same) (hdn.ex (Ex.new nl)))⟩⟩
def blsOf : List D → Option (List Bool)
  | [] => some []
  | .bl b :: r => (blsOf r).map fun bs => b :: bs
  | _ => none
theorem blsOf_eq : ∀ {ds : List D} {bs : List Bool}, blsOf ds = some bs → ds = bs.map D.bl
  | [], _, h => by cases h; rfl
  | .bl b :: r, _, h => by
    obtain ⟨c, hc, h⟩ := Option.map_eq_some_iff.mp (show (blsOf r).map (fun bs => b :: bs) = _ from h)
    subst h
    rw [blsOf_eq hc]
    rfl
  | .non :: _, _, h => by cases h
  | .int _ :: _, _, h => by cases h
  | .str _ :: _, _, h => by cases h
  | .tup _ :: _, _, h => by cases h
def mAll (f : ME) : ME := fun ρ => ((asLst (f ρ)).bind blsOf).map fun bs => .dat (.bl (bs.all id))
theorem x_all {p : Pos} (hc : X.calm = true) (hm : X.mg "all" = none) (ha : JE X a f1) (hg : Gl X "all" := by rfl) (hs : starEach (a :: []) X.env = (false, eval a X.env) :: starEach [] X.env := by rfl) : JE X (.Call (.Name "all" p) [a] [] pos) (mAll f1) := by
  obtain ⟨ta, pa, va⟩ := ha
  refine ⟨_, pe_callB (cr_all hc) hg hm (by decide +kernel) (pa_cons pa pa_nil hs) (he := hs), fun H0 σ H ρ r ok h => ?_⟩
  unfold mAll at h
  obtain ⟨bs, hb, h⟩ := Option.map_eq_some_iff.mp h
  obtain ⟨xs, hx, hb⟩ := Option.bind_eq_some_iff.mp hb
  subst h
  have e := blsOf_eq hb
  subst e
  intro H1 e1 Q q
  refine ev_lst hx (fun r hr => va _ _ _ _ _ ok hr) H1 e1 _ fun v H2 e2 ⟨p, vs, hv, hl, hdn⟩ => ?_
  subst hv
  have e3 := hdn.bls
  subst e3
  exact ⟨p, bs, rfl, hl, q _ H2 e2 (.bl _)⟩
/-! ### two lists side by side, a list from behind -/
def JL (X : Cx) (e : Expr) (m : MI) : Prop := ∃ te, PE X e te ∧ ∀ H0 σ H ρ ds ρ', Ok X H0 σ H ρ → m ρ = some (ds, ρ') → ∀ H1, Ex H H1 → ∀ Q : VK,
  (∀ p vs H2 H0', Ex H1 H2 → Ex H0 H0' → Ok X H0' σ H2 ρ' → SqL X.K H0' p vs → DenL X.K H0' vs ds → Q (.ref p) H2) → te σ H1 Q
theorem l_v (i : Nat) {x : Str} {pos : Pos} (hN : X.N[i]? = some x := by rfl) (hv : Vis X.env.scope x := by first | exact Or.inl rfl | exact Or.inr (Or.inl rfl) | exact Or.inr (Or.inr rfl)) (hd : (x == ("__debug__" : Str)) = false := by decide)
    (hcd : (x == ("__classdict__" : Str)) = false := by decide) : JL X (.Name x pos) (iV i) := by
  refine ⟨_, pe_var hN hv hd hcd, fun H0 σ H ρ ds ρ' ok h H1 e1 Q k => ?_⟩
  obtain ⟨H0', p, vs, e0, ok', _, s, l, g⟩ := frz_ok (ok.ex e1) h
  exact ⟨_, s, k p vs H1 H0' (Ex.refl _) e0 ok' l g⟩
theorem l_n (ha : JE X a f1) : JL X a (iN f1) := by
  obtain ⟨ta, pa, va⟩ := ha
  refine ⟨_, pa, fun H0 σ H ρ ds ρ' ok h H1 e1 Q k => ?_⟩
  unfold iN at h
  split at h
  · rename_i xs hx
    cases h
    refine va _ _ _ _ _ ok hx H1 e1 _ fun v H2 e2 ⟨p, vs, hv, n, l, gd⟩ => ?_
    subst hv
    obtain ⟨B, okb⟩ := ok.ex e1
    have no := okb.fresh n
    have ok2 : Ok X H0 σ H2 ρ := (ok.ex e1).ex e2
    obtain ⟨B2, okb2⟩ := ok2
    refine k p vs H2 _ e2 (okb2.e0.trans okb2.hid) okb2.pin (sq_of ?_) (gd.imp okb2.tex)
    rw [hidO_no no]
    exact l
  · cases h
def zipD (xs ys : List D) : List D := List.zipWith (fun x y => .tup [x, y]) xs ys
def iZ (m1 m2 : MI) : MI := fun ρ => (m1 ρ).bind fun p => (m2 p.2).map fun q => (zipD p.1 q.1, q.2)
theorem itd_zip {K : PySem.W.Frag} {H0 : Hp} {p q : Addr} {vs ws : List V} {xs ys : List D} (hl : SqL K H0 p vs) (hd : DenL K H0 vs xs) (hl2 : SqL K H0 q ws) (hd2 : DenL K H0 ws ys) : ItD K H0 (Itz K p q) (zipD xs ys) where
  go := fun i H e h => by
    unfold zipD at h
    rw [List.length_zipWith] at h
    obtain ⟨v, h1, _⟩ := hd.get (List.getElem?_eq_getElem (show i < xs.length by omega))
    obtain ⟨w, h2, _⟩ := hd2.get (List.getElem?_eq_getElem (show i < ys.length by omega))
    exact ⟨vs, ws, v, w, ex_l e hl, ex_l e hl2, h1, h2⟩
  yld := fun i H x H' e h hy => by
    obtain ⟨T, v, w, rfl, nT, rfl, f1, f2⟩ := hy
    obtain ⟨d1, g1, k1⟩ := hd.getV (f1 vs (ex_l e hl))
    obtain ⟨d2, g2, k2⟩ := hd2.getV (f2 ws (ex_l e hl2))
    refine ⟨Ex.new nT, .tup [d1, d2], ?_, .tup (st_of upd_same) (.cons (Den.ex k1 (e.trans (Ex.new nT))) (.cons (Den.ex k2 (e.trans (Ex.new nT))) .nil))⟩
    unfold zipD
    rw [List.getElem?_zipWith, g1, g2]
  stop := fun i H e h => by
    unfold zipD at h
    rw [List.length_zipWith] at h
    refine ⟨vs, ws, ex_l e hl, ex_l e hl2, ?_⟩
    rw [hd.length, hd2.length]
    omega
theorem i_zip {m1 m2 : MI} {elts : List Expr} {kk : Nat} {tpos : Pos} {p : Pos} (hm : X.mg "zip" = none) (h1 : JL X a m1) (h2 : JL X b m2) (hg : Gl X "zip" := by rfl)
    (hs : starEach [a, b] X.env = (false, eval a X.env) :: starEach [b] X.env := by rfl) (hs2 : starEach (b :: []) X.env = (false, eval b X.env) :: starEach [] X.env := by rfl) (hpl : (backTo pos (starEach [b] X.env)).any (·.1) = false := by rfl) :
    JI X (.Tuple elts kk tpos) (.Call (.Name "zip" p) [a, b] [] pos) (iZ m1 m2) := by
  obtain ⟨ta, pa, va⟩ := h1
  obtain ⟨tb, pb, vb⟩ := h2
  refine ⟨_, pi_zip hg hm (pa_cons pa (pa_cons pb pa_nil hs2) hs) hs hpl, fun H0 σ H ρ ds ρ' ok h R' k => ?_⟩
  unfold iZ at h
  obtain ⟨⟨xs, ρ1⟩, hm1, h⟩ := Option.bind_eq_some_iff.mp h
  obtain ⟨⟨ys, ρ2⟩, hm2, h⟩ := Option.map_eq_some_iff.mp h
  cases h
  refine va H0 σ H ρ xs ρ1 ok hm1 H (Ex.refl H) _ fun p vs H2 H0' e2 e0 ok1 l1 g1 => ?_
  refine vb H0' σ H2 ρ1 ys ρ2 ok1 hm2 H2 (Ex.refl H2) _ fun q ws H3 H0'' e3 e0' ok2 l2 g2 => ?_
  exact ⟨p, q, vs, ws, rfl, ex_l (e0'.trans ok2.base) l1, ex_l ok2.base l2, k _ H3 H0'' (e0.trans e0') ok2 (e2.trans e3) (itd_zip (ex_l e0' l1) (g1.ex e0') l2 g2)⟩
def iRv (m : MI) : MI := fun ρ => (m ρ).map fun p => (p.1.reverse, p.2)
theorem itd_rev {K : PySem.W.Frag} {H0 : Hp} {p : Addr} {vs : List V} {ds : List D} (hl : SqL K H0 p vs) (hd : DenL K H0 vs ds) : ItD K H0 (Itv K p vs.length) ds.reverse where
  go := fun i H e h => by
    rw [List.length_reverse] at h
    obtain ⟨v, h1, _⟩ := hd.get (List.getElem?_eq_getElem (show vs.length - 1 - i < ds.length by rw [hd.length]; omega))
    exact ⟨by rw [hd.length]; exact h, vs, v, ex_l e hl, h1⟩
  yld := fun i H x H' e h ⟨e1, e2⟩ => by
    subst e1
    rw [List.length_reverse] at h
    obtain ⟨d, h1, h2⟩ := hd.getV (e2 vs (ex_l e hl))
    refine ⟨Ex.refl _, d, ?_, h2.ex e⟩
    rw [List.getElem?_reverse h, ← hd.length]
    exact h1
  stop := fun i H e h => by rw [List.length_reverse, ← hd.length] at h; exact h
theorem i_rev {m : MI} {p : Pos} (hm : X.mg "reversed" = none) (h1 : JL X a m) (hg : Gl X "reversed" := by rfl) (hs : starEach [a] X.env = [(false, eval a X.env)] := by rfl) : JI X tg (.Call (.Name "reversed" p) [a] [] pos) (iRv m) := by
  obtain ⟨ta, pa, va⟩ := h1
  refine ⟨_, pi_reversed hg hm (pa_cons pa pa_nil hs) hs, fun H0 σ H ρ ds ρ' ok h R' k => ?_⟩
  unfold iRv at h
  obtain ⟨⟨xs, ρ1⟩, hm1, h⟩ := Option.map_eq_some_iff.mp h
  cases h
  refine va H0 σ H ρ xs ρ1 ok hm1 H (Ex.refl H) _ fun p vs H2 H0' e2 e0 ok1 l1 g1 => ?_
  exact ⟨p, vs, rfl, ex_l ok1.base l1, k _ H2 H0' e0 ok1 e2 (itd_rev l1 g1)⟩
/-! range(0, n, 2) -/
def rngC (lo c : Int) (n : Nat) : List D := (List.range n).map fun i => .int (lo + (i : Nat) * c)
theorem rngC_get {lo c : Int} {n i : Nat} (h : i < n) : (rngC lo c n)[i]? = some (.int (lo + (i : Nat) * c)) := by
  unfold rngC
  rw [List.getElem?_map, List.getElem?_range h]
  rfl
theorem rngC_len {lo c : Int} {n : Nat} : (rngC lo c n).length = n := by
  unfold rngC
  rw [List.length_map, List.length_range]
theorem itd_rangeC {K : PySem.W.Frag} {H0 : Hp} {lo c : Int} {n : Nat} : ItD K H0 (Itc lo c n) (rngC lo c n) where
  go := fun i H _ h => by rw [rngC_len] at h; exact h
  yld := fun i H x H' _ h ⟨e1, e2⟩ => by
    rw [rngC_len] at h
    subst e1 e2
    exact ⟨Ex.refl _, _, rngC_get h, .int _⟩
  stop := fun i H _ h => by rw [rngC_len] at h; exact h
/-- range(lo, hi, c) with the count told -/
def iR3 (f g h : ME) : MI := fun ρ => (asInt (f ρ)).bind fun i => (asInt (g ρ)).bind fun j => (asInt (h ρ)).bind fun c =>
  if okP (c ≠ 0 ∧ c.natAbs < 1073741824 ∧ Builtin.Range.small i j c = true) = true then some (rngC i c (Builtin.Range.rangeSize i j c).toNat, ρ) else none
end
end
end Tl

namespace Tl
open PySem PySem.Spec PyProof.Rows L2 Evl
noncomputable section
theorem fits_small {a : Int} (h0 : -1000000 ≤ a) (h1 : a ≤ 1000000) : Builtin.Range.rangeFitsLong a = true := by
  unfold Builtin.Range.rangeFitsLong
  simp
  omega
theorem size3 {i j c : Int} (h0 : 0 ≤ i) (h1 : i ≤ 100000) (h2 : 0 ≤ j) (h3 : j ≤ 100000) (h4 : 1 ≤ c) (h5 : c ≤ 1000) : 0 ≤ Builtin.Range.rangeSize i j c ∧ Builtin.Range.rangeSize i j c ≤ 100001 := by
  unfold Builtin.Range.rangeSize
  rw [if_pos (show c > 0 by omega)]
  split
  · have a1 : 0 ≤ (j - i - 1) / c := Int.ediv_nonneg (by omega) (by omega)
    have a2 : (j - i - 1) / c ≤ j - i - 1 := Int.ediv_le_self _ (by omega)
    omega
  · omega
theorem small3 {i j c : Int} (h0 : 0 ≤ i) (h1 : i ≤ 100000) (h2 : 0 ≤ j) (h3 : j ≤ 100000) (h4 : 1 ≤ c) (h5 : c ≤ 1000) : Builtin.Range.small i j c = true := by
  obtain ⟨s1, s2⟩ := size3 h0 h1 h2 h3 h4 h5
  have m1 : Builtin.Range.rangeSize i j c * c ≤ 100001 * 1000 := Int.le_trans (Int.mul_le_mul_of_nonneg_right s2 (by omega)) (Int.mul_le_mul_of_nonneg_left h5 (by omega))
  have m0 : 0 ≤ Builtin.Range.rangeSize i j c * c := Int.mul_nonneg s1 (by omega)
  have m2 : c * Builtin.Range.rangeSize i j c = Builtin.Range.rangeSize i j c * c := Int.mul_comm _ _
  unfold Builtin.Range.small
  generalize Builtin.Range.rangeSize i j c = n at *
  generalize hn : n * c = q at *
  simp only [Builtin.Range.rangeFitsLong, Bool.and_eq_true, Bool.or_eq_true, decide_eq_true_eq, beq_iff_eq, show c > 0 by omega, if_true, m2]
  omega
/-- range(lo, hi, c) of small numbers -/
def cnt3 (i j c : Int) : Nat := (Builtin.Range.rangeSize i j c).toNat
def okR3 (i j c : Int) : Bool := okP (0 ≤ i ∧ i ≤ 100000 ∧ 0 ≤ j ∧ j ≤ 100000 ∧ 1 ≤ c ∧ c ≤ 1000)
def iR3' (f g h : ME) : MI := fun ρ => (asInt (f ρ)).bind fun i => (asInt (g ρ)).bind fun j => (asInt (h ρ)).bind fun c => if okR3 i j c = true then some (rngC i c (cnt3 i j c), ρ) else none
section
variable {X : Cx} {W : WX} {a b c e : Expr} {pos p : Pos} {f1 f2 f3 : ME} {es : List Expr} {ma : MA} {tg it elt : Expr}
theorem i_r3 {p : Pos} (hm : X.mg "range" = none) (ha : JE X a f1) (hb : JE X b f2) (hc : JE X c f3) (hg : Gl X "range" := by rfl) (hs : starEach [a, b, c] X.env = (false, eval a X.env) :: starEach [b, c] X.env := by rfl)
    (hs2 : starEach (b :: [c]) X.env = (false, eval b X.env) :: starEach [c] X.env := by rfl) (hs3 : starEach (c :: []) X.env = (false, eval c X.env) :: starEach [] X.env := by rfl) (hpl : (backTo pos (starEach [b, c] X.env)).any (·.1) = false := by rfl) :
    JI X tg (.Call (.Name "range" p) [a, b, c] [] pos) (iR3' f1 f2 f3) := by
  obtain ⟨ta, pa, va⟩ := ha
  obtain ⟨tb, pb, vb⟩ := hb
  obtain ⟨tc, pc, vc⟩ := hc
  refine ⟨_, pi_range3 hg hm (pa_cons pa (pa_cons pb (pa_cons pc pa_nil hs3) hs2) hs) hs hpl, fun H0 σ H ρ ds ρ' ok h R' k => ?_⟩
  unfold iR3' at h
  obtain ⟨i, hi, h⟩ := Option.bind_eq_some_iff.mp h
  obtain ⟨j, hj, h⟩ := Option.bind_eq_some_iff.mp h
  obtain ⟨d, hd, h⟩ := Option.bind_eq_some_iff.mp h
  split at h
  · rename_i hz
    cases h
    obtain ⟨h0, h1, h2, h3, h4, h5⟩ := okP_of hz
    refine (va _ _ _ _ _ ok (asInt_some hi)).int H (Ex.refl H) _ fun H1 e1 => ?_
    refine (vb _ _ _ _ _ ok (asInt_some hj)).int H1 e1 _ fun H2 e2 => ?_
    refine (vc _ _ _ _ _ ok (asInt_some hd)).int H2 (e1.trans e2) _ fun H3 e3 => ?_
    have e123 := (e1.trans e2).trans e3
    refine ⟨i, j, d, cnt3 i j d, rfl, ⟨by omega, by omega, small3 h0 h1 h2 h3 h4 h5, ?_⟩, k _ H3 H0 (Ex.refl _) (ok.ex e123) e123 itd_rangeC⟩
    unfold cnt3
    rw [Int.toNat_of_nonneg (size3 h0 h1 h2 h3 h4 h5).1]
  · cases h
/-! ### xs.insert(i, e) -/
def mIns (i : Nat) (fi fv : ME) : MS := fun ρ => match ρ[i]? with
  | some (.own xs) => (asInt (fi ρ)).bind fun k => (asDat (fv ρ)).bind fun d => if (szOk (xs.length + 1) && okP (0 ≤ k ∧ k ≤ 100000)) = true then some (.nx (ρ.set i (.own (xs.take k.toNat ++ [d] ++ xs.drop k.toNat)))) else none
  | _ => none
theorem s_ins (i : Nat) {x : Str} {p1 p2 p3 : Pos} {ei ev : Expr} {fi fv : ME} (hi : JE X ei fi) (he : JE X ev fv) (hN : X.N[i]? = some x := by rfl) (hv : Vis X.env.scope x := by first | exact Or.inl rfl | exact Or.inr (Or.inl rfl) | exact Or.inr (Or.inr rfl)) (hd : (x == ("__debug__" : Str)) = false := by decide)
    (hcd : (x == ("__classdict__" : Str)) = false := by decide) (hst : starEach (ei :: [ev]) X.env = (false, eval ei X.env) :: starEach [ev] X.env := by rfl) (hst2 : starEach (ev :: []) X.env = (false, eval ev X.env) :: starEach [] X.env := by rfl)
    (hs : swapsWith (.Call (.Attribute (.Name x p1) "insert" p2) [ei, ev] [] p3) none pos.line X.env = pure false := by rfl)
    (hpe : ∀ to ta, PE X (.Name x p1) to → PA X [ei, ev] ta → PE X (.Call (.Attribute (.Name x p1) "insert" p2) [ei, ev] [] p3) (tBM X.K "list" (fun x vs H Q => ∃ (l : Addr) (xs : List V) (i : Int) (y : V), x = .ref l ∧ vs = [.int i, y] ∧ H l = some (.lst xs) ∧ xs.length < sizeLine ∧ 0 ≤ i ∧ i < 2 ^ 63 ∧
      Q .non (upd H l (.lst (xs.take i.toNat ++ [y] ++ xs.drop i.toNat)))) to ta) := by exact fun _ _ h1 h2 => pe_bm PySem.F.plainAttrs_list PySem.F.slot_list_insert PySem.F.type_list_insert mt_insert h1 h2) :
    JS X W (.Expr (.Call (.Attribute (.Name x p1) "insert" p2) [ei, ev] [] p3) pos) (mIns i fi fv) := by
  obtain ⟨ti, pi, vi⟩ := hi
  obtain ⟨te, pe, ve⟩ := he
  refine ⟨_, ps_expr (hpe _ _ (pe_var hN hv hd hcd) (pa_cons pi (pa_cons pe pa_nil hst2) hst)) hs, fun H0 D σ H ρ fl ok h q => ?_⟩
  unfold mIns at h
  split at h
  · rename_i xs hx
    obtain ⟨k, hk, h⟩ := Option.bind_eq_some_iff.mp h
    obtain ⟨d, hd', h⟩ := Option.bind_eq_some_iff.mp h
    split at h
    · rename_i hz
      rw [Bool.and_eq_true] at hz
      have hz2 := okP_of hz.2
      cases h
      obtain ⟨l, vs, s, hl', g⟩ := ok.own hx
      refine ⟨_, s, .inl ⟨rfl, _, sq_of hl'⟩, ?_⟩
      refine (vi _ _ _ _ _ ok (asInt_some hk)).int H (Ex.refl H) _ fun H1 e1 => ?_
      refine ve _ _ _ _ _ ok (asDat_some hd') H1 e1 _ fun w H2 e2 gw => ?_
      have e12 := e1.trans e2
      have g2 := g.ex e12
      refine ⟨l, vs, k, w, rfl, rfl, e12 _ _ hl', ?_, hz2.1, by omega, q _ _ ((ok.ex e12).mut hx s (e12 _ _ hl') (((g2.take _).append (.cons gw .nil)).append (g2.drop _)))⟩
      have z : xs.length + 1 ≤ 100000 := okP_of hz.1
      rw [g.length]
      exact sz_lt (by omega)
    · cases h
  · cases h
/-! ### an item of a written dict -/
def Dcon (K : PySem.W.Frag) (w : World) (mg : Str → Option Value) (x : Str) (tb : List (Str × D)) : Prop := ∃ a, mg x = some (.ref a) ∧ ∀ k d, tb.lookup k = some d → ∃ v, KDct K w a k v ∧ ∀ H, Den K H v d
def mDix (tb : List (Str × D)) (f : ME) : ME := fun ρ => (asStr (f ρ)).bind fun k => (tb.lookup k).map .dat
theorem x_dix {x : Str} {tb : List (Str × D)} (h : Dcon X.K X.w X.mg x tb) (hb : JE X b f1) (hg : Gl X x := by rfl) (hdb : (x == ("__debug__" : Str)) = false := by decide) (hs : PlainIx b := by exact fun _ _ => rfl) : JE X (.Subscript (.Name x p) b pos) (mDix tb f1) := by
  obtain ⟨a, hm, ht⟩ := h
  obtain ⟨tb', pb, vb⟩ := hb
  refine ⟨_, pe_ix ix_kdict (pe_glob (v := .ref a) hg hm rfl hdb) pb hs, fun H0 σ H ρ r ok h => ?_⟩
  unfold mDix at h
  obtain ⟨k, hk, h⟩ := Option.bind_eq_some_iff.mp h
  obtain ⟨d, hd, h⟩ := Option.map_eq_some_iff.mp h
  subst h
  intro H1 e1 Q q
  refine (vb _ _ _ _ _ ok (asStr_some hk)).str H1 e1 _ fun H2 e2 => ?_
  obtain ⟨v, kd, hv⟩ := ht k d hd
  exact ⟨a, k, v, rfl, rfl, kd, q v H2 e2 (hv H2)⟩
theorem dcon_nil {K : PySem.W.Frag} {w : World} {mg : Str → Option Value} {x : Str} {a : Addr} (h : mg x = some (.ref a)) : Dcon K w mg x [] := ⟨a, h, fun _ _ z => by cases z⟩
theorem dcon_cons {K : PySem.W.Frag} {w : World} {mg : Str → Option Value} {x : Str} {tb : List (Str × D)} {a : Addr} {es : Array DictEntry} {n : Nat} {u : Value} {v : V} {k : Str} {d : D} (hx : mg x = some (.ref a)) (h : Dcon K w mg x tb) (hl : K.lookup a = some ⟨.type "dict", none, .dict es n, #[]⟩) (hk : PySem.W.KeysLit w.params es.toList)
    (e : PySem.W.nsIn K a k = some (some u)) (r : RelV v u) (hd : ∀ H, Den K H v d) : Dcon K w mg x ((k, d) :: tb) := by
  obtain ⟨a', h1, h2⟩ := h
  rw [hx] at h1
  cases h1
  refine ⟨a, hx, fun k' d' hd' => ?_⟩
  rw [List.lookup_cons] at hd'
  cases q : (k' == k) with
  | true =>
    rw [q] at hd'
    cases hd'
    have ek : k' = k := beq_iff_eq.mp q
    subst ek
    exact ⟨v, ⟨es, n, u, hl, hk, e, r⟩, hd⟩
  | false =>
    rw [q] at hd'
    exact h2 k' d' hd'
end
end
end Tl

namespace Tl
open PySem PySem.Spec PyProof.Rows L2 Evl
noncomputable section
/-! ### figures, halves, places: plain lists -/
def figs : Nat → Int → List Int
  | 0, _ => []
  | n + 1, x => x % 10 :: figs n (x / 10)
theorem figs_len : ∀ (n : Nat) (x : Int), (figs n x).length = n
  | 0, _ => rfl
  | n + 1, x => congrArg (· + 1) (figs_len n (x / 10))
theorem figs_bd : ∀ (n : Nat) (x d : Int), d ∈ figs n x → 0 ≤ d ∧ d < 10
  | 0, _, _, h => by cases h
  | n + 1, x, d, h => by
    rcases List.mem_cons.mp h with e | h
    · subst e; omega
    · exact figs_bd n _ d h
theorem figs_snoc : ∀ (n : Nat) (x : Int), figs (n + 1) x = figs n x ++ [x / 10 ^ n % 10]
  | 0, x => by simp [figs]
  | n + 1, x => by
    have ih := figs_snoc n (x / 10)
    rw [figs, ih]
    show x % 10 :: (figs n (x / 10) ++ _) = (x % 10 :: figs n (x / 10)) ++ _
    rw [List.cons_append]
    congr 3
    rw [Int.pow_succ, Int.mul_comm, Int.ediv_ediv_of_nonneg (by decide)]
def pairs : List Int → List Int
  | a :: b :: t => (16 * a + b) :: pairs t
  | _ => []
theorem pairs_len : ∀ hs : List Int, (pairs hs).length = hs.length / 2
  | [] => rfl
  | [_] => by simp [pairs]
  | a :: b :: t => by
    show (pairs t).length + 1 = (t.length + 2) / 2
    rw [pairs_len t]; omega
theorem pairs_bd : ∀ hs : List Int, (∀ h ∈ hs, 0 ≤ h ∧ h < 16) → ∀ b ∈ pairs hs, 0 ≤ b ∧ b < 256
  | [], _, _, h => by cases h
  | [_], _, _, h => by cases h
  | x :: y :: t, hb, b, h => by
    rcases List.mem_cons.mp h with e | h
    · have h1 := hb x (by simp)
      have h2 := hb y (by simp)
      subst e; omega
    · exact pairs_bd t (fun z hz => hb z (by simp [hz])) b h
theorem pairs_range : ∀ hs : List Int, pairs hs = (List.range (hs.length / 2)).map fun k => 16 * hs.getD (2 * k) 0 + hs.getD (2 * k + 1) 0
  | [] => rfl
  | [_] => by simp [pairs]
  | x :: y :: t => by
    have e : (x :: y :: t).length / 2 = t.length / 2 + 1 := by simp only [List.length_cons]; omega
    rw [e, List.range_succ_eq_map, List.map_cons, List.map_map]
    show (16 * x + y) :: pairs t = _
    rw [pairs_range t]
    congr 1
theorem pairs_flat (z : Int) : ∀ ds : List Int, pairs (ds.flatMap fun d => [z, d]) = ds.map fun d => 16 * z + d
  | [] => rfl
  | d :: ds => by
    show (16 * z + d) :: pairs (ds.flatMap fun d => [z, d]) = _
    rw [pairs_flat z ds]; rfl
theorem pairs_app (z : Int) (t : List Int) : ∀ ds : List Int, pairs ((ds.flatMap fun d => [z, d]) ++ t) = (ds.map fun d => 16 * z + d) ++ pairs t
  | [] => rfl
  | d :: ds => by
    show (16 * z + d) :: pairs ((ds.flatMap fun d => [z, d]) ++ t) = _
    rw [pairs_app z t ds]; rfl
/-- what a shape has at a place -/
inductive Pl where
  | fig | sign | ahead | zone
def Pl.nm : Pl → Str
  | .fig => "figure" | .sign => "sign" | .ahead => "ahead" | .zone => "zone"
def plD (p : Pl) : D := .str p.nm
def keepL (s : Int) : List Pl → Int → List Int
  | [], _ => []
  | .fig :: t, r => r % 10 :: keepL s t (r / 10)
  | .sign :: t, r => s :: keepL s t r
  | .ahead :: t, r => 0 :: keepL s t r
  | .zone :: t, r => 15 :: keepL s t r
theorem keepL_len (s : Int) : ∀ (ps : List Pl) (r : Int), (keepL s ps r).length = ps.length
  | [], _ => rfl
  | .fig :: t, r => congrArg (· + 1) (keepL_len s t _)
  | .sign :: t, r => congrArg (· + 1) (keepL_len s t _)
  | .ahead :: t, r => congrArg (· + 1) (keepL_len s t _)
  | .zone :: t, r => congrArg (· + 1) (keepL_len s t _)
theorem keepL_bd {s : Int} (hs : 0 ≤ s ∧ s < 16) : ∀ (ps : List Pl) (r : Int), ∀ h ∈ keepL s ps r, 0 ≤ h ∧ h < 16
  | [], _, _, h => by cases h
  | .fig :: t, r, x, h => by
    rcases List.mem_cons.mp h with e | h
    · subst e; omega
    · exact keepL_bd hs t _ x h
  | .sign :: t, r, x, h => by
    rcases List.mem_cons.mp h with e | h
    · subst e; exact hs
    · exact keepL_bd hs t _ x h
  | .ahead :: t, r, x, h => by
    rcases List.mem_cons.mp h with e | h
    · subst e; decide
    · exact keepL_bd hs t _ x h
  | .zone :: t, r, x, h => by
    rcases List.mem_cons.mp h with e | h
    · subst e; decide
    · exact keepL_bd hs t _ x h
theorem keepL_figs (s : Int) (t : List Pl) : ∀ (n : Nat) (r : Int), keepL s (List.replicate n .fig ++ t) r = figs n r ++ keepL s t (r / 10 ^ n)
  | 0, r => by simp [figs]
  | n + 1, r => by
    rw [List.replicate_succ]
    show r % 10 :: keepL s (List.replicate n .fig ++ t) (r / 10) = _
    rw [keepL_figs s t n, figs, List.cons_append]
    congr 3
    rw [Int.pow_succ, Int.mul_comm, Int.ediv_ediv_of_nonneg (by decide)]
theorem keepL_figs0 (s : Int) (n : Nat) (r : Int) : keepL s (List.replicate n .fig) r = figs n r := by
  have h := keepL_figs s [] n r
  simpa [keepL] using h
theorem keepL_zones (s : Int) : ∀ (n : Nat) (r : Int), keepL s (List.replicate n [Pl.fig, Pl.zone]).flatten r = (figs n r).flatMap fun d => [d, 15]
  | 0, r => rfl
  | n + 1, r => by
    rw [List.replicate_succ, List.flatten_cons]
    show r % 10 :: 15 :: keepL s (List.replicate n [Pl.fig, Pl.zone]).flatten (r / 10) = _
    rw [keepL_zones s n]
    rfl
theorem rep_comm {α : Type} (x : List α) : ∀ n : Nat, (List.replicate n x).flatten ++ x = x ++ (List.replicate n x).flatten
  | 0 => by simp
  | n + 1 => by rw [List.replicate_succ, List.flatten_cons, List.append_assoc, rep_comm x n]
theorem rev_rep {α : Type} (x : List α) : ∀ n : Nat, (List.replicate n x).flatten.reverse = (List.replicate n x.reverse).flatten
  | 0 => rfl
  | n + 1 => by
    rw [List.replicate_succ, List.flatten_cons, List.reverse_append, rev_rep x n, rep_comm, List.replicate_succ, List.flatten_cons]
theorem rev_flat (z : Int) : ∀ ds : List Int, (ds.flatMap fun d => [d, z]).reverse = ds.reverse.flatMap fun d => [z, d]
  | [] => rfl
  | d :: ds => by
    rw [List.flatMap_cons, List.reverse_append, rev_flat z ds, List.reverse_cons (as := ds), List.flatMap_append]
    rfl
/-- the places of a shape -/
def packedP (n : Nat) (e : Bool) : List Pl := (if (n + e.toNat) % 2 = 1 then [.ahead] else []) ++ (List.replicate n .fig ++ (if e then [.sign] else []))
def spreadP (n : Nat) (e : Bool) : List Pl := if e then (List.replicate (n - 1) [Pl.zone, Pl.fig]).flatten ++ [.sign, .fig] else (List.replicate n [Pl.zone, Pl.fig]).flatten
/-- the row of a number: halves from the left -/
def halvesP (ps : List Pl) (s r : Int) : List Int := (keepL s ps.reverse r).reverse
def packedH (n : Nat) (e : Bool) (s r : Int) : List Int := List.replicate ((n + e.toNat) % 2) 0 ++ ((figs n r).reverse ++ (if e then [s] else []))
theorem packed_halves (n : Nat) (e : Bool) (s r : Int) : halvesP (packedP n e) s r = packedH n e s r := by
  unfold halvesP packedP packedH
  have h2 : (n + e.toNat) % 2 = 0 ∨ (n + e.toNat) % 2 = 1 := by omega
  generalize (n + e.toNat) % 2 = q at h2
  rcases h2 with h2 | h2 <;> cases e <;> simp [h2, keepL_figs, keepL_figs0, keepL]
def spreadR (n : Nat) (e : Bool) (s r : Int) : List Int := List.zipWith (fun z d => 16 * z + d) (if e then List.replicate (n - 1) 15 ++ [s] else List.replicate n 15) (figs n r).reverse
theorem zip_rep (z : Int) : ∀ (n : Nat) (ds : List Int), ds.length = n → List.zipWith (fun z d => 16 * z + d) (List.replicate n z) ds = ds.map fun d => 16 * z + d
  | 0, [], _ => rfl
  | n + 1, d :: ds, h => by
    rw [List.replicate_succ, List.zipWith_cons_cons, zip_rep z n ds (by simpa using h)]
    rfl
  | 0, _ :: _, h => by simp at h
  | n + 1, [], h => by simp at h
theorem spread_pairs (n : Nat) (e : Bool) (s r : Int) (h : 1 ≤ n) : pairs (halvesP (spreadP n e) s r) = spreadR n e s r := by
  obtain ⟨m, rfl⟩ : ∃ m, n = m + 1 := ⟨n - 1, by omega⟩
  unfold halvesP spreadP spreadR
  cases e with
  | false =>
    simp only [Bool.false_eq_true, if_false]
    rw [rev_rep]
    show pairs (keepL s (List.replicate (m + 1) [Pl.fig, Pl.zone]).flatten r).reverse = _
    rw [keepL_zones, rev_flat, pairs_flat, zip_rep _ _ _ (by rw [List.length_reverse, figs_len])]
  | true =>
    simp only [if_true, Nat.add_sub_cancel]
    rw [List.reverse_append, rev_rep]
    show pairs (r % 10 :: s :: keepL s (List.replicate m [Pl.fig, Pl.zone]).flatten (r / 10)).reverse = _
    rw [keepL_zones, List.reverse_cons, List.reverse_cons, rev_flat, List.append_assoc, pairs_app]
    show _ = List.zipWith (fun z d => 16 * z + d) (List.replicate m 15 ++ [s]) (r % 10 :: figs m (r / 10)).reverse
    rw [List.reverse_cons, List.zipWith_append (by rw [List.length_replicate, List.length_reverse, figs_len]), zip_rep _ _ _ (by rw [List.length_reverse, figs_len])]
    rfl
theorem packedP_len (n : Nat) (e : Bool) : (packedP n e).length = (n + e.toNat) % 2 + n + e.toNat := by
  unfold packedP
  have h2 : (n + e.toNat) % 2 = 0 ∨ (n + e.toNat) % 2 = 1 := by omega
  generalize (n + e.toNat) % 2 = q at h2
  rcases h2 with h2 | h2 <;> cases e <;> simp [h2] <;> omega
theorem rep_len {α : Type} (x : List α) : ∀ n : Nat, (List.replicate n x).flatten.length = n * x.length
  | 0 => by simp
  | n + 1 => by rw [List.replicate_succ, List.flatten_cons, List.length_append, rep_len x n, Nat.succ_mul]; omega
theorem spreadP_len (n : Nat) (e : Bool) (h : 1 ≤ n) : (spreadP n e).length = 2 * n := by
  unfold spreadP
  cases e with
  | false => rw [if_neg (by decide), rep_len]; show n * 2 = _; omega
  | true => rw [if_pos rfl, List.length_append, rep_len]; show (n - 1) * 2 + 2 = _; omega
theorem v_ifT {t : MT} {s u : MS} {ρ : Rho} {r : Option F} (h1 : t ρ = some true) (h2 : s ρ = r) : mIf t s u ρ = r := by
  unfold mIf
  rw [h1]
  exact h2
theorem v_ifF {t : MT} {s u : MS} {ρ : Rho} {r : Option F} (h1 : t ρ = some false) (h2 : u ρ = r) : mIf t s u ρ = r := by
  unfold mIf
  rw [h1]
  exact h2
theorem v_seqR {s t : MS} {ρ : Rho} {r : R} (h : s ρ = some (.ret r)) : mSeq s t ρ = some (.ret r) := by
  unfold mSeq
  rw [h]
theorem v_set {i : Nat} {f : ME} {ρ : Rho} {d : D} (h : f ρ = some (.dat d)) : mSet i f ρ = some (.nx (ρ.set i (.dat d))) := by
  unfold mSet
  rw [h]
  rfl
theorem v_setN {i : Nat} {f : ME} {ρ : Rho} {d : List D} (h : f ρ = some (.new d)) : mSet i f ρ = some (.nx (ρ.set i (.own d))) := by
  unfold mSet
  rw [h]
  rfl
theorem v_ret {f : ME} {ρ : Rho} {d : D} (h : f ρ = some (.dat d)) : mRet f ρ = some (.ret (.dat d)) := by
  unfold mRet
  rw [h]
  rfl
theorem v_retN {f : ME} {ρ : Rho} {d : List D} (h : f ρ = some (.new d)) : mRet f ρ = some (.ret (.new d)) := by
  unfold mRet
  rw [h]
  rfl
theorem v_out {n np : Nat} {b : MS} {rs : List R} {r : R} (h : rs.length = np) (h2 : b (startC n rs) = some (.ret r)) : mDef n np b rs = some r := v_def h (by rw [h2]; rfl)
theorem v_outX {n np : Nat} {b : MS} {rs : List R} {r : R} (h : rs.length = np) (h2 : b (startC n rs) = some (.ret r)) : mDefX n np b rs = some (.ok r) := by
  unfold mDefX
  rw [if_pos h, h2]
  rfl
theorem v_defX {n np : Nat} {b : MS} {rs : List R} {o : Option Out} (h : rs.length = np) (h2 : outX (b (startC n rs)) = o) : mDefX n np b rs = o := by
  unfold mDefX
  rw [if_pos h]
  exact h2
theorem b63 {n : Nat} (h : n ≤ 1000) : okP (-(2 ^ 63) ≤ (n : Int) ∧ (n : Int) < 2 ^ 63) = true := okP_t (by omega)
theorem mRepL_ok {f g : ME} {ρ : Rho} {xs : List D} {n : Nat} (h1 : asTrk (f ρ) = some xs) (h2 : g ρ = some (.dat (.int (n : Int)))) (hn : n ≤ 1000) (hx : xs.length ≤ 50) : mRepL f g ρ = some (.new (List.replicate n xs).flatten) := by
  have z : szOk (xs.length * n) = true := okP_t (Nat.le_trans (Nat.mul_le_mul hx hn) (by decide))
  unfold mRepL
  rw [h1, h2]
  simp only [Option.bind_some, asInt, b63 hn, Int.toNat_natCast, z, Bool.and_self, if_true]
/-! ### list comprehensions, plainly -/
theorem lcM_map {α : Type} {g : MG} {t : MT} {f : ME} {ρ : Rho} (e y : α → D) : ∀ as : List α, (∀ a ∈ as, ∃ ρ1, g (e a) ρ = some ρ1 ∧ t ρ1 = some true ∧ f ρ1 = some (.dat (y a))) → lcM g t f ρ (as.map e) = some (as.map y)
  | [], _ => rfl
  | a :: as, h => by
    obtain ⟨ρ1, h1, h2, h3⟩ := h a (by simp)
    have ih := lcM_map e y as fun b hb => h b (by simp [hb])
    simp only [List.map_cons, lcM, h1, h2, h3, ih, Option.bind_some, if_true, asDat, Option.map_some]
theorem cnt3_two (n : Nat) : cnt3 0 (n : Int) 2 = (n + 1) / 2 := by
  unfold cnt3 Builtin.Range.rangeSize
  rw [if_pos (by decide)]
  split
  · omega
  · omega
theorem atI_getD {hs : List Int} {i : Int} {k : Nat} (e : i = (k : Int)) (h : k < hs.length) : atI (hs.map D.int) i = some (.int (hs.getD k 0)) := by
  subst e
  refine atI_map (atI_nat ?_)
  rw [List.getD_eq_getElem?_getD, List.getElem?_eq_getElem h]
  rfl
theorem bls_true : ∀ n : Nat, blsOf (List.replicate n (D.bl true)) = some (List.replicate n true)
  | 0 => rfl
  | n + 1 => by
    rw [List.replicate_succ]
    show (blsOf (List.replicate n (D.bl true))).map (fun bs => true :: bs) = _
    rw [bls_true n]
    rfl
theorem map_true {α : Type} (as : List α) : as.map (fun _ => D.bl true) = List.replicate as.length (D.bl true) := by
  induction as with
  | nil => rfl
  | cons a as ih => rw [List.map_cons, ih]; rfl
end
end Tl

namespace Tl
open PySem PySem.Spec PyProof.Rows L2 Evl
noncomputable section
/-! ### enumerate(zip(xs, ys)): the tuple that zip gave out is let go by nobody -/
abbrev ZRec (h : Heap) (z TI TO : Addr) (f0 : Value) (f : Bool) : Prop :=
  h.get? z = some { cls := .type "zip", dict := none, data := .fields #[f0, .bool f, .bool false, .ref TI, .ref TO], slots := #[] }
def ZAny (h : Heap) (z TI TO : Addr) : Prop := ∃ f0 f, (f0 = .none ∨ ∃ T : Addr, f0 = rawInt T) ∧ ZRec h z TI TO f0 f
section
variable {prog : Program} {w : World} {A : Around} {E : Value → Shared → Prop} {s : Shared}
theorem dead_load {a : Addr} {Q : Option Obj → Shared → Prop} (ho : s.heap.get? a = none) (h : Q none s) : wpAny (model prog w) A (loadIfAlive a) Q E s := by
  have h' : Q (s.heap.get? a) s := by rw [ho]; exact h
  exact fun _ _ _ => h'
/-- is the tuple free: it is where it is gone or was never given -/
theorem free_zip {z TI TO : Addr} {f0 : Value} {f : Bool} {Q : Bool → Shared → Prop} (hz : ZRec s.heap z TI TO f0 f) (hf : f0 = .none ∨ ∃ T : Addr, f0 = rawInt T ∧ s.heap.get? T = none) (h : Q true s) :
    wpAny (model prog w) A (Builtin.SmallTypes.ownedTupleIsFree (.ref z)) Q E s := by
  unfold Builtin.SmallTypes.ownedTupleIsFree
  rcases hf with e | ⟨T, e, hT⟩
  · subst e
    exact wpAny_bind (wpAny_field hz rfl (x := .none) rfl (wpAny_pure h))
  · subst e
    refine wpAny_bind (wpAny_field hz rfl (x := rawInt T) rfl ?_)
    show wpAny _ _ (loadIfAlive ((T : Int).toNat) >>= _) _ _ _
    rw [Int.toNat_natCast]
    refine wpAny_bind (dead_load hT ?_)
    simp only [Option.isNone_none, if_true]
    exact wpAny_pure h
theorem zip_free_item {z TI TO i1 i2 l1 l2 : Addr} {k1 k2 : Nat} {xs ys : Array Value} {x y a b f0 : Value} {f : Bool} {Q : Value → Shared → Prop} (D : ZipApart z TI TO i1 i2 l1 l2)
    (hz : ZRec s.heap z TI TO f0 f) (hf : f0 = .none ∨ ∃ T : Addr, f0 = rawInt T ∧ s.heap.get? T = none) (hTI : IsPair s.heap TI (.ref i1) (.ref i2)) (hTO : IsPair s.heap TO a b)
    (h1 : s.heap.IsListIter i1 l1 k1) (h2 : s.heap.IsListIter i2 l2 k2) (hl1 : s.heap.IsList l1 xs) (hl2 : s.heap.IsList l2 ys) (hx : xs[k1]? = some x) (hy : ys[k2]? = some y)
    (hQ : ∀ h', ZAny h' z TI TO → (∃ a b, IsPair h' TO a b) → h'.IsListIter i1 l1 (k1 + 1) → h'.IsListIter i2 l2 (k2 + 1) → IsPair h' s.heap.objs.size x y → h'.objs.size = s.heap.objs.size + 1 →
      (∀ c o, c ≠ z → c ≠ TO → c ≠ i1 → c ≠ i2 → s.heap.get? c = some o → h'.get? c = some o) → Q (.ref s.heap.objs.size) { s with heap := h' }) :
    wpAny (model prog w) A (Builtin.«zip.__next__» ⟨[.ref z], []⟩) (fun fin s' => ∃ v, fin = .done (.ret v) ∧ Q v s') E s := by
  show wpAny _ _ (field (.ref z) 2 >>= _) _ _ _
  refine wpAny_bind (wpAny_field hz rfl (x := .bool false) rfl ?_)
  show wpAny _ _ (field (.ref z) 3 >>= _) _ _ _
  refine wpAny_bind (wpAny_field hz rfl (x := .ref TI) rfl ?_)
  refine wpAny_bind (wpAny_seqItems hTI rfl ?_)
  show wpAny _ _ (Builtin.SmallTypes.ownedTupleIsFree (.ref z) >>= _) _ _ _
  refine wpAny_bind (free_zip hz hf ?_)
  simp only [if_true]
  refine wpAny_bind (wpAny_rule ?_)
  refine wpAny_bind (wpAny_field hz rfl (x := .ref TO) rfl ?_)
  refine wpAny_bind (wpAny_setField_rec hz (by simp) fun ha za sa => ?_)
  replace za : ZRec ha z TI TO .ellipsis f := za
  refine wpAny_bind ?_
  simp only [List.zipIdx_cons, List.zipIdx_nil, List.forIn_cons, List.forIn_nil]
  refine wpAny_bind (wpAny_bind (wpAny_onRaise ?_))
  show wpAny _ _ (Builtin.SmallTypes.nextOf (.ref i1) >>= _) _ _ _
  refine wpAny_bind (wpAny_nextOf_list_item (h1.extBut sa.extBut D.i1z) (hl1.extBut sa.extBut D.l1z) hx fun hb ib sb => wpAny_pure ?_)
  have ob : IsPair hb TO a b := sb.extBut _ _ D.TOi1 (sa.extBut _ _ D.TOz hTO)
  refine wpAny_bind (wpAny_seqItems ob rfl ?_)
  refine wpAny_bind (wpAny_updateSeq_pair ob fun hc oc sc => ?_)
  replace oc : IsPair hc TO x b := oc
  refine wpAny_bind (wpAny_letGo (wpAny_pure ?_))
  refine wpAny_bind (wpAny_bind (wpAny_onRaise ?_))
  show wpAny _ _ (Builtin.SmallTypes.nextOf (.ref i2) >>= _) _ _ _
  refine wpAny_bind (wpAny_nextOf_list_item (((h2.extBut sa.extBut D.i2z).extBut sb.extBut D.i12.symm).extBut sc.extBut D.TOi2.symm)
    (((hl2.extBut sa.extBut D.l2z).extBut sb.extBut D.l2i1).extBut sc.extBut D.l2TO) hy fun hd id' sd => wpAny_pure ?_)
  have od : IsPair hd TO x b := sd.extBut _ _ D.TOi2 oc
  refine wpAny_bind (wpAny_seqItems od rfl ?_)
  refine wpAny_bind (wpAny_updateSeq_pair od fun he oe se => ?_)
  replace oe : IsPair he TO x y := oe
  refine wpAny_bind (wpAny_letGo (wpAny_pure (wpAny_pure ?_)))
  refine wpAny_bind (wpAny_seqItems oe rfl ?_)
  refine wpAny_bind (wpAny_newTuple ?_)
  have hsz : he.objs.size = s.heap.objs.size := by rw [se.1, sd.1, sc.1, sb.1, sa.1]
  have ze : ZRec he z TI TO .ellipsis f := se.extBut _ _ D.TOz.symm (sd.extBut _ _ D.i2z.symm (sc.extBut _ _ D.TOz.symm (sb.extBut _ _ D.i1z.symm za)))
  have ke : ∀ c o, c ≠ z → c ≠ TO → c ≠ i1 → c ≠ i2 → s.heap.get? c = some o → he.get? c = some o := fun c o c1 c2 c3 c4 e =>
    se.extBut _ _ c2 (sd.extBut _ _ c4 (sc.extBut _ _ c2 (sb.extBut _ _ c3 (sa.extBut _ _ c1 e))))
  have ie1 : he.IsListIter i1 l1 (k1 + 1) := ((ib.extBut sc.extBut D.TOi1.symm).extBut sd.extBut D.i12).extBut se.extBut D.TOi1.symm
  have ie2 : he.IsListIter i2 l2 (k2 + 1) := id'.extBut se.extBut D.TOi2.symm
  have zlt : z < he.objs.size := Heap.lt_size ze
  show wpAny _ _ (Builtin.SmallTypes.ownedTupleHandOut (.ref z) (.ref he.objs.size) >>= _) _ _ _
  refine wpAny_bind ?_
  unfold Builtin.SmallTypes.ownedTupleHandOut
  have zf : ZRec (he.push { cls := .type "tuple", data := .seq #[x, y] }) z TI TO .ellipsis f := Heap.get?_push_of_some _ ze
  refine wpAny_bind (wpAny_setField_rec zf (by simp) fun hg zg sg => ?_)
  replace zg : ZRec hg z TI TO (rawInt he.objs.size) f := zg
  refine wpAny_setField_rec zg (by simp) fun hh zh sh => ?_
  replace zh : ZRec hh z TI TO (rawInt he.objs.size) false := zh
  have up : ∀ c o, c ≠ z → he.get? c = some o → hh.get? c = some o := fun c o c1 e => sh.extBut _ _ c1 (sg.extBut _ _ c1 (Heap.get?_push_of_some _ e))
  have hT : IsPair hh he.objs.size x y := sh.extBut _ _ (Nat.ne_of_gt zlt) (sg.extBut _ _ (Nat.ne_of_gt zlt) (Heap.get?_push_size _ rfl))
  have h8 : hh.objs.size = he.objs.size + 1 := by rw [sh.1, sg.1, Heap.size_push]
  rw [hsz] at zh hT h8
  refine wpAny_pure ⟨_, rfl, ?_⟩
  show Q (.ref he.objs.size) _
  rw [hsz]
  exact hQ hh ⟨_, _, .inr ⟨_, rfl⟩, zh⟩ ⟨_, _, up _ _ D.TOz oe⟩ (ie1.at fun o e => up _ o D.i1z e) (ie2.at fun o e => up _ o D.i2z e) hT h8 fun c o c1 c2 c3 c4 e => up c o c1 (ke c o c1 c2 c3 c4 e)
theorem zip_free_end {z TI TO i1 i2 l1 l2 : Addr} {k1 k2 : Nat} {xs ys : Array Value} {a b f0 : Value} {f : Bool} {Q : Fin → Shared → Prop} (hh : A.handled = none) (D : ZipApart z TI TO i1 i2 l1 l2)
    (hz : ZRec s.heap z TI TO f0 f) (hf : f0 = .none ∨ ∃ T : Addr, f0 = rawInt T ∧ s.heap.get? T = none) (hTI : IsPair s.heap TI (.ref i1) (.ref i2)) (hTO : IsPair s.heap TO a b)
    (h1 : s.heap.IsListIter i1 l1 k1) (h2 : s.heap.IsListIter i2 l2 k2) (hl1 : s.heap.IsList l1 xs) (hl2 : s.heap.IsList l2 ys) (hend : xs[k1]? = none ∨ ys[k2]? = none)
    (hE : ∀ h' e, (∀ c o, c ≠ z → c ≠ TO → c ≠ i1 → c ≠ i2 → s.heap.get? c = some o → h'.get? c = some o) → (∃ o, h'.get? e = some o ∧ o.cls = .type "StopIteration") → E (.ref e) { s with heap := h' }) :
    wpAny (model prog w) A (Builtin.«zip.__next__» ⟨[.ref z], []⟩) Q E s := by
  show wpAny _ _ (field (.ref z) 2 >>= _) _ _ _
  refine wpAny_bind (wpAny_field hz rfl (x := .bool false) rfl ?_)
  show wpAny _ _ (field (.ref z) 3 >>= _) _ _ _
  refine wpAny_bind (wpAny_field hz rfl (x := .ref TI) rfl ?_)
  refine wpAny_bind (wpAny_seqItems hTI rfl ?_)
  show wpAny _ _ (Builtin.SmallTypes.ownedTupleIsFree (.ref z) >>= _) _ _ _
  refine wpAny_bind (free_zip hz hf ?_)
  simp only [if_true]
  refine wpAny_bind (wpAny_rule ?_)
  refine wpAny_bind (wpAny_field hz rfl (x := .ref TO) rfl ?_)
  refine wpAny_bind (wpAny_setField_rec hz (by simp) fun ha za sa => ?_)
  replace za : ZRec ha z TI TO .ellipsis f := za
  refine wpAny_bind ?_
  simp only [List.zipIdx_cons, List.zipIdx_nil, List.forIn_cons, List.forIn_nil]
  refine wpAny_bind (wpAny_bind (wpAny_onRaise ?_))
  show wpAny _ _ (Builtin.SmallTypes.nextOf (.ref i1) >>= _) _ _ _
  cases hx : xs[k1]? with
  | none =>
    refine wpAny_bind (wpAny_nextOf_list_end hh (h1.extBut sa.extBut D.i1z) (hl1.extBut sa.extBut D.l1z) hx fun hb e sb he => ?_)
    obtain ⟨oe, hoe, hce⟩ := he
    have zb : ZRec hb z TI TO .ellipsis f := sb _ _ D.i1z.symm za
    have hez : e ≠ z := fun x => by subst x; rw [zb] at hoe; cases hoe; simp at hce
    exact wpAny_setField_rec zb (by simp) fun hc _ sc => hE hc e (fun c o c1 _ c3 _ x => sc.extBut _ _ c1 (sb _ _ c3 (sa.extBut _ _ c1 x))) ⟨oe, sc.extBut _ _ hez hoe, hce⟩
  | some x =>
    have hy : ys[k2]? = none := by
      rcases hend with h | h
      · rw [hx] at h; cases h
      · exact h
    refine wpAny_bind (wpAny_nextOf_list_item (h1.extBut sa.extBut D.i1z) (hl1.extBut sa.extBut D.l1z) hx fun hb ib sb => wpAny_pure ?_)
    have ob : IsPair hb TO a b := sb.extBut _ _ D.TOi1 (sa.extBut _ _ D.TOz hTO)
    refine wpAny_bind (wpAny_seqItems ob rfl ?_)
    refine wpAny_bind (wpAny_updateSeq_pair ob fun hc oc sc => ?_)
    refine wpAny_bind (wpAny_letGo (wpAny_pure ?_))
    refine wpAny_bind (wpAny_bind (wpAny_onRaise ?_))
    show wpAny _ _ (Builtin.SmallTypes.nextOf (.ref i2) >>= _) _ _ _
    refine wpAny_bind (wpAny_nextOf_list_end hh (((h2.extBut sa.extBut D.i2z).extBut sb.extBut D.i12.symm).extBut sc.extBut D.TOi2.symm)
      (((hl2.extBut sa.extBut D.l2z).extBut sb.extBut D.l2i1).extBut sc.extBut D.l2TO) hy fun hd e sd he => ?_)
    obtain ⟨oe, hoe, hce⟩ := he
    have zd : ZRec hd z TI TO .ellipsis f := sd _ _ D.i2z.symm (sc.extBut _ _ D.TOz.symm (sb.extBut _ _ D.i1z.symm za))
    have hez : e ≠ z := fun x => by subst x; rw [zd] at hoe; cases hoe; simp at hce
    exact wpAny_setField_rec zd (by simp) fun he' _ se => hE he' e (fun c o c1 c2 c3 c4 x => se.extBut _ _ c1 (sd _ _ c4 (sc.extBut _ _ c2 (sb.extBut _ _ c3 (sa.extBut _ _ c1 x))))) ⟨oe, se.extBut _ _ hez hoe, hce⟩
theorem ZAny.is {h : Heap} {z TI TO : Addr} (H : ZAny h z TI TO) : (∃ f0 f, ZRec h z TI TO f0 f ∧ (f0 = .none ∨ ∃ T : Addr, f0 = rawInt T ∧ h.get? T = none)) ∨ ∃ T f oT, IsZipHeld h z TI TO T f ∧ h.get? T = some oT := by
  obtain ⟨f0, f, h0, hz⟩ := H
  rcases h0 with e | ⟨T, e⟩
  · exact .inl ⟨f0, f, hz, .inl e⟩
  · cases q : h.get? T with
    | none => exact .inl ⟨f0, f, hz, .inr ⟨T, e, q⟩⟩
    | some oT => subst e; exact .inr ⟨T, f, oT, hz, q⟩
theorem nextOf_zip_item {z TI TO i1 i2 l1 l2 : Addr} {k1 k2 : Nat} {xs ys : Array Value} {x y a b : Value} {Q : Value → Shared → Prop} (D : ZipApart z TI TO i1 i2 l1 l2)
    (hz : ZAny s.heap z TI TO) (hTI : IsPair s.heap TI (.ref i1) (.ref i2)) (hTO : IsPair s.heap TO a b)
    (h1 : s.heap.IsListIter i1 l1 k1) (h2 : s.heap.IsListIter i2 l2 k2) (hl1 : s.heap.IsList l1 xs) (hl2 : s.heap.IsList l2 ys) (hx : xs[k1]? = some x) (hy : ys[k2]? = some y)
    (hQ : ∀ h', ZAny h' z TI TO → (∃ a b, IsPair h' TO a b) → h'.IsListIter i1 l1 (k1 + 1) → h'.IsListIter i2 l2 (k2 + 1) → IsPair h' s.heap.objs.size x y → h'.objs.size = s.heap.objs.size + 1 →
      (∀ c o, c ≠ z → c ≠ TO → c ≠ i1 → c ≠ i2 → s.heap.get? c = some o → h'.get? c = some o) → Q (.ref s.heap.objs.size) { s with heap := h' }) :
    wpAny (model prog w) A (Builtin.SmallTypes.nextOf (.ref z)) Q E s := by
  have hT : s.TypeIs (.ref z) "zip" := by obtain ⟨_, _, _, hz⟩ := hz; exact ⟨_, hz, rfl⟩
  unfold Builtin.SmallTypes.nextOf
  refine wpAny_bind (wpAny_callSpecial?_slot (name := Str.ofString "__next__") hT F.slot_zip_next (wpAny_call_entry F.slot_zip_next hT F.entry_zip_next ?_ (F.args_zip_next_1 _)))
  rcases hz.is with ⟨f0, f, hz, hf⟩ | ⟨T, f, oT, hz, hq⟩
  · exact zip_free_item D hz hf hTI hTO h1 h2 hl1 hl2 hx hy fun h' a1 a2 a3 a4 a5 a6 a7 => wpAny_pure (hQ h' a1 a2 a3 a4 a5 a6 a7)
  · exact zip_next_item_held D hz hq hTI h1 h2 hl1 hl2 hx hy fun h' a1 a3 a4 a5 a6 a7 => wpAny_pure (hQ h' ⟨_, _, .inr ⟨_, rfl⟩, a1⟩ ⟨a, b, a7 _ _ D.TOz D.TOi1 D.TOi2 hTO⟩ a3 a4 a5 a6 fun c o c1 _ c3 c4 e => a7 c o c1 c3 c4 e)
theorem nextOf_zip_end {z TI TO i1 i2 l1 l2 : Addr} {k1 k2 : Nat} {xs ys : Array Value} {a b : Value} {Q : Value → Shared → Prop} (hh : A.handled = none) (D : ZipApart z TI TO i1 i2 l1 l2)
    (hz : ZAny s.heap z TI TO) (hTI : IsPair s.heap TI (.ref i1) (.ref i2)) (hTO : IsPair s.heap TO a b)
    (h1 : s.heap.IsListIter i1 l1 k1) (h2 : s.heap.IsListIter i2 l2 k2) (hl1 : s.heap.IsList l1 xs) (hl2 : s.heap.IsList l2 ys) (hend : xs[k1]? = none ∨ ys[k2]? = none)
    (hE : ∀ h' e, (∀ c o, c ≠ z → c ≠ TO → c ≠ i1 → c ≠ i2 → s.heap.get? c = some o → h'.get? c = some o) → (∃ o, h'.get? e = some o ∧ o.cls = .type "StopIteration") → E (.ref e) { s with heap := h' }) :
    wpAny (model prog w) A (Builtin.SmallTypes.nextOf (.ref z)) Q E s := by
  have hT : s.TypeIs (.ref z) "zip" := by obtain ⟨_, _, _, hz⟩ := hz; exact ⟨_, hz, rfl⟩
  unfold Builtin.SmallTypes.nextOf
  refine wpAny_bind (wpAny_callSpecial?_slot (name := Str.ofString "__next__") hT F.slot_zip_next (wpAny_call_entry F.slot_zip_next hT F.entry_zip_next ?_ (F.args_zip_next_1 _)))
  rcases hz.is with ⟨f0, f, hz, hf⟩ | ⟨T, f, oT, hz, hq⟩
  · exact zip_free_end hh D hz hf hTI hTO h1 h2 hl1 hl2 hend fun h' e a1 a2 => hE h' e a1 a2
  · exact zip_next_end_held hh D hz hq hTI h1 h2 hl1 hl2 hend fun h' e a1 a2 => hE h' e (fun c o c1 _ c3 c4 z => a1 c o c1 c3 c4 z) a2
/-- next of enumerate(zip(..)): the pair at N, the tuple of place and pair at N + 1 -/
theorem enumZ_item {e z TI TO i1 i2 l1 l2 : Addr} {i k1 k2 : Nat} {xs ys : Array Value} {x y a b old : Value} {Q : Option Value → Shared → Prop} (D : ZipApart z TI TO i1 i2 l1 l2) (hez : e ≠ z) (heTO : e ≠ TO) (he1 : e ≠ i1) (he2 : e ≠ i2)
    (he : IsEnum s.heap e z i old) (hz : ZAny s.heap z TI TO) (hTI : IsPair s.heap TI (.ref i1) (.ref i2)) (hTO : IsPair s.heap TO a b)
    (h1 : s.heap.IsListIter i1 l1 k1) (h2 : s.heap.IsListIter i2 l2 k2) (hl1 : s.heap.IsList l1 xs) (hl2 : s.heap.IsList l2 ys) (hx : xs[k1]? = some x) (hy : ys[k2]? = some y)
    (hQ : ∀ ha h', ZAny ha z TI TO → (∃ a b, IsPair ha TO a b) → ha.IsListIter i1 l1 (k1 + 1) → ha.IsListIter i2 l2 (k2 + 1) → IsPair ha s.heap.objs.size x y → ha.objs.size = s.heap.objs.size + 1 →
      (∀ c o, c ≠ z → c ≠ TO → c ≠ i1 → c ≠ i2 → s.heap.get? c = some o → ha.get? c = some o) → IsEnumOut h' e z ((i : Int) + 1) (.ref s.heap.objs.size) (s.heap.objs.size + 1) →
      h'.get? (s.heap.objs.size + 1) = some { cls := .type "tuple", data := .seq #[.int i s.toks, .ref s.heap.objs.size] } → h'.objs.size = s.heap.objs.size + 2 →
      (∀ c o, c ≠ e → ha.get? c = some o → h'.get? c = some o) → Q (some (.ref (s.heap.objs.size + 1))) { s with heap := h', toks := s.toks + 1 }) :
    wpAny (model prog w) A (pyNext (.ref e)) Q E s := by
  have hT : s.TypeIs (.ref e) "enumerate" := ⟨_, he, rfl⟩
  unfold pyNext
  refine wpAny_bind (wpAny_attempt (wpAny_callSpecial?_slot (name := Str.ofString "__next__") hT F.slot_enumerate_next (wpAny_call_entry F.slot_enumerate_next hT F.entry_enumerate_next ?_ (F.args_enumerate_next_1 _))))
  obtain ⟨hp, g, d, tk, os⟩ := s
  show wpAny _ _ (field (.ref e) 2 >>= _) _ _ _
  refine wpAny_bind (wpAny_field he rfl (x := .ref z) rfl ?_)
  refine wpAny_bind (nextOf_zip_item D hz hTI hTO h1 h2 hl1 hl2 hx hy fun ha q1 q2 q3 q4 q5 q6 q7 => ?_)
  replace q5 : IsPair ha hp.objs.size x y := q5
  replace q6 : ha.objs.size = hp.objs.size + 1 := q6
  have ea : IsEnum ha e z i old := q7 _ _ hez heTO he1 he2 he
  show wpAny _ _ (field (.ref e) 3 >>= _) _ _ ⟨ha, g, d, tk, os⟩
  refine wpAny_bind (wpAny_field ea rfl (x := rawInt i) rfl ?_)
  show wpAny _ _ (field (.ref e) 4 >>= _) _ _ ⟨ha, g, d, tk, os⟩
  refine wpAny_bind (wpAny_field ea rfl (x := .none) rfl ?_)
  show wpAny _ _ (mkInt i >>= _) _ _ ⟨ha, g, d, tk, os⟩
  refine wpAny_bind (wpAny_mkInt ?_)
  show wpAny _ _ (setField (.ref e) 3 (rawInt ((i : Int) + 1)) >>= _) _ _ ⟨ha, g, d, tk + 1, os⟩
  refine wpAny_bind (wpAny_setField_rec ea (by simp) fun hb eb sb => ?_)
  replace sb : Heap.SameBut e ha hb := sb
  replace eb : IsEnum hb e z ((i : Int) + 1) old := eb
  show wpAny _ _ (setField (.ref e) 4 .none >>= _) _ _ ⟨hb, g, d, tk + 1, os⟩
  refine wpAny_bind (wpAny_setField_rec eb (by simp) fun hc ec sc => ?_)
  replace sc : Heap.SameBut e hb hc := sc
  replace ec : IsEnum hc e z ((i : Int) + 1) old := ec
  show wpAny _ _ (newTuple [.int i tk, .ref hp.objs.size] >>= _) _ _ ⟨hc, g, d, tk + 1, os⟩
  refine wpAny_bind (wpAny_newTuple ?_)
  have ed : IsEnum (hc.push { cls := .type "tuple", data := .seq #[.int i tk, .ref hp.objs.size] }) e z ((i : Int) + 1) old := Heap.get?_push_of_some _ ec
  generalize hhd : hc.push { cls := .type "tuple", data := .seq #[.int i tk, .ref hp.objs.size] } = hd at ed
  have hsz : hc.objs.size = hp.objs.size + 1 := by rw [sc.1, sb.1, q6]
  have elt : e < hp.objs.size := Heap.lt_size he
  have td : hd.get? (hp.objs.size + 1) = some { cls := .type "tuple", data := .seq #[.int i tk, .ref hp.objs.size] } := by rw [← hhd, ← hsz]; exact Heap.get?_push_size _ rfl
  have zd : hd.objs.size = hp.objs.size + 2 := by rw [← hhd, Heap.size_push, hsz]
  have kd : ∀ b o, b ≠ e → ha.get? b = some o → hd.get? b = some o := fun b o hbe q => by rw [← hhd]; exact Heap.get?_push_of_some _ (sc.extBut b o hbe (sb.extBut b o hbe q))
  have ne1 : (hp.objs.size + 1 : Nat) ≠ e := Nat.ne_of_gt (Nat.lt_succ_of_lt elt)
  show wpAny _ _ (Builtin.SmallTypes.ownedTupleIsFree (.ref e) >>= _) _ _ ⟨hd, g, d, tk + 1, os⟩
  rw [hsz]
  refine wpAny_bind ?_
  unfold Builtin.SmallTypes.ownedTupleIsFree
  refine wpAny_bind (wpAny_field ed rfl (x := .none) rfl (wpAny_pure ?_))
  simp only [if_true]
  refine wpAny_bind (wpAny_rule ?_)
  refine wpAny_bind (wpAny_field ed rfl (x := old) rfl ?_)
  refine wpAny_bind (wpAny_setField_rec ed (by simp) fun h5 e5 s5 => ?_)
  replace s5 : Heap.SameBut e hd h5 := s5
  replace e5 : IsEnum h5 e z ((i : Int) + 1) (.ref hp.objs.size) := e5
  show wpAny _ _ (Builtin.SmallTypes.ownedTupleHandOut (.ref e) (.ref (hp.objs.size + 1)) >>= _) _ _ ⟨h5, g, d, tk + 1, os⟩
  refine wpAny_bind ?_
  unfold Builtin.SmallTypes.ownedTupleHandOut
  refine wpAny_bind (wpAny_setField_rec e5 (by simp) fun h6 e6 s6 => ?_)
  replace s6 : Heap.SameBut e h5 h6 := s6
  replace e6 : IsEnumOut h6 e z ((i : Int) + 1) (.ref hp.objs.size) (hp.objs.size + 1) := e6
  refine wpAny_setField_rec e6 (by simp) fun h7 e7 s7 => ?_
  replace s7 : Heap.SameBut e h6 h7 := s7
  replace e7 : IsEnumOut h7 e z ((i : Int) + 1) (.ref hp.objs.size) (hp.objs.size + 1) := e7
  refine wpAny_bind (wpAny_letGo (wpAny_pure ⟨_, rfl, wpAny_pure (hQ ha h7 q1 q2 q3 q4 q5 q6 q7 e7 ?_ ?_ ?_)⟩))
  · exact s7.extBut _ _ ne1 (s6.extBut _ _ ne1 (s5.extBut _ _ ne1 td))
  · show h7.objs.size = hp.objs.size + 2
    rw [s7.1, s6.1, s5.1, zd]
  · exact fun b o hbe q => s7.extBut b o hbe (s6.extBut b o hbe (s5.extBut b o hbe (kd b o hbe q)))
theorem enumZ_end {e z TI TO i1 i2 l1 l2 : Addr} {i : Int} {k1 k2 : Nat} {xs ys : Array Value} {a b old : Value} {Q : Option Value → Shared → Prop} (hh : A.handled = none) (D : ZipApart z TI TO i1 i2 l1 l2)
    (he : IsEnum s.heap e z i old) (hz : ZAny s.heap z TI TO) (hTI : IsPair s.heap TI (.ref i1) (.ref i2)) (hTO : IsPair s.heap TO a b)
    (h1 : s.heap.IsListIter i1 l1 k1) (h2 : s.heap.IsListIter i2 l2 k2) (hl1 : s.heap.IsList l1 xs) (hl2 : s.heap.IsList l2 ys) (hend : xs[k1]? = none ∨ ys[k2]? = none)
    (hQ : ∀ h', (∀ c o, c ≠ z → c ≠ TO → c ≠ i1 → c ≠ i2 → s.heap.get? c = some o → h'.get? c = some o) → Q none { s with heap := h' }) : wpAny (model prog w) A (pyNext (.ref e)) Q E s := by
  have hT : s.TypeIs (.ref e) "enumerate" := ⟨_, he, rfl⟩
  unfold pyNext
  refine wpAny_bind (wpAny_attempt (wpAny_callSpecial?_slot (name := Str.ofString "__next__") hT F.slot_enumerate_next (wpAny_call_entry F.slot_enumerate_next hT F.entry_enumerate_next ?_ (F.args_enumerate_next_1 _))))
  show wpAny _ _ (field (.ref e) 2 >>= _) _ _ _
  refine wpAny_bind (wpAny_field he rfl (x := .ref z) rfl ?_)
  refine wpAny_bind (nextOf_zip_end (A := A.in1) hh D hz hTI hTO h1 h2 hl1 hl2 hend fun h' x hk hx' => ?_)
  obtain ⟨o, ho, hc⟩ := hx'
  refine wpAny_bind (wpAny_isInstance (T := "StopIteration") (b := true) ⟨o, ho, hc⟩ isSubtype_stop ?_)
  exact wpAny_pure (hQ _ hk)
end
end
end Tl

namespace Tl
open PySem PySem.Spec PyProof.Rows L2 Evl
noncomputable section
theorem meets_enum_zip (z TI TO : Addr) :
    Meets (Builtin.«enumerate.__new__» ⟨[.type "enumerate", .ref z], []⟩) (fun _ R s => IsZip s.heap z TI TO .none ∧
      R (.ok (.ret (.ref s.heap.objs.size))) { s with heap := s.heap.push { cls := .type "enumerate", data := .fields #[.none, .bool false, .ref z, rawInt 0, .none, .none] } }) :=
  .of_wp fun prog w A R s h => by
    obtain ⟨hp, g, d, tk, os⟩ := s; obtain ⟨h1, h⟩ := h
    have hsub := sub_enumerate
    have q1 : ∀ {A' : Around} {E : Value → Shared → Prop} {Q : Value → Shared → Prop}, Q (.ref z) ⟨hp, g, d, tk, os⟩ → wpAny (model prog w) A' (pyIter (.ref z)) Q E ⟨hp, g, d, tk, os⟩ :=
      fun q => wpAny_pyIter_zip (s := ⟨hp, g, d, tk, os⟩) h1 q
    wp_walk using q1, AutoSeq1.wpAny_loadPart' h1
    refine wpAny_stack_any fun st => wpAny_pure ?_
    split
    · rename_i c _ _ _ _ _
      cases (c == Value.type "enumerate")
      · wp_walk using q1, AutoSeq1.wpAny_loadPart' h1
        exact ⟨_, rfl, h⟩
      · wp_walk using q1, AutoSeq1.wpAny_loadPart' h1
        exact ⟨_, rfl, h⟩
    · wp_walk using q1, AutoSeq1.wpAny_loadPart' h1
      exact ⟨_, rfl, h⟩
section
variable {prog : Program} {w : World} {A : Around} {E : Value → Shared → Prop} {s : Shared}
theorem call_enum_zip {z TI TO : Addr} {Q : Value → Shared → Prop} (hz : IsZip s.heap z TI TO .none)
    (h : ∀ h', IsEnum h' s.heap.objs.size z 0 .none → h'.objs.size = s.heap.objs.size + 1 → (∀ b o, s.heap.get? b = some o → h'.get? b = some o) → Q (.ref s.heap.objs.size) { s with heap := h' }) :
    wpAny (model prog w) A (call (.type "enumerate") [.ref z]) Q E s := by
  refine callType_new F.called_enumerate (by decide) (F.typeCall_enumerate_1 _) (F.newCall_enumerate_1 _) (fun obj => F.args_object_init_2 obj _) F.entry_enumerate_new
    (meets_enum_zip z TI TO) ⟨hz, ?_⟩
  have he : IsEnum (s.heap.push { cls := .type "enumerate", data := .fields #[.none, .bool false, .ref z, rawInt 0, .none, .none] }) s.heap.objs.size z 0 .none := Heap.get?_push_size _ rfl
  exact ⟨⟨_, he, rfl⟩, h _ he (Heap.size_push ..) fun b o x => Heap.get?_push_of_some _ x⟩
end
/-- place and pair, the pair and the tuple new -/
def Itez (K : PySem.W.Frag) (a b : Addr) : It :=
  ⟨fun i H => ∃ (xs ys : List V) (x y : V), SqL K H a xs ∧ SqL K H b ys ∧ xs[i]? = some x ∧ ys[i]? = some y,
    fun i H v H' => ∃ T T2 x y, v = .ref T2 ∧ H T = none ∧ (upd H T (.tup [x, y])) T2 = none ∧ H' = upd (upd H T (.tup [x, y])) T2 (.tup [.int (i : Nat), .ref T]) ∧ (∀ xs, SqL K H a xs → xs[i]? = some x) ∧ ∀ ys, SqL K H b ys → ys[i]? = some y,
    fun i H => ∃ xs ys : List V, SqL K H a xs ∧ SqL K H b ys ∧ (xs.length ≤ i ∨ ys.length ≤ i)⟩
theorem FpOk.upd {X : Cx} {pins : List (Addr × Obj)} {H : Hp} {b T : Addr} {o : HO} (h : FpOk X pins H b) (hn : b ≠ T) : FpOk X pins (upd H T o) b := ⟨by rw [upd_ne hn]; exact h.1, h.2⟩
theorem turn_enumZ {P : Program} {w : World} {K : PySem.W.Frag} {elts : List Expr} {kk : Nat} {tpos : Pos} {a b e z TI TO i1 i2 : Addr} (D : ZipApart z TI TO i1 i2 a b) (hez : e ≠ z) (heTI : e ≠ TI) (heTO : e ≠ TO) (he1 : e ≠ i1) (he2 : e ≠ i2) :
    Turn P w K (.Tuple elts kk tpos) (Itez K a b) [e, z, TI, TO, i1, i2] e (fun i h => (∃ old, IsEnum h e z ((i : Nat) : Int) old) ∧ ZAny h z TI TO ∧ IsPair h TI (.ref i1) (.ref i2) ∧ (∃ x y, IsPair h TO x y) ∧ h.IsListIter i1 a i ∧ h.IsListIter i2 b i) where
  mem := by simp
  obj := fun i h st c hc => by
    obtain ⟨⟨old, he⟩, ⟨f0, f, _, hz⟩, hTI, ⟨x, y, hTO⟩, ⟨o1, e1, _, d1⟩, ⟨o2, e2, _, d2⟩⟩ := st
    have e' : c = e ∨ c = z ∨ c = TI ∨ c = TO ∨ c = i1 ∨ c = i2 := by simpa using hc
    rcases e' with q | q | q | q | q | q
    · rw [q]; exact ⟨_, he, fun v q => nomatch q⟩
    · rw [q]; exact ⟨_, hz, fun v q => nomatch q⟩
    · rw [q]; exact ⟨_, hTI, fun v q => nomatch q⟩
    · rw [q]; exact ⟨_, hTO, fun v q => nomatch q⟩
    · rw [q]; exact ⟨o1, e1, fun v q => by rw [d1] at q; cases q⟩
    · rw [q]; exact ⟨o2, e2, fun v q => by rw [d2] at q; cases q⟩
  keep := fun i h h' st k => by
    obtain ⟨⟨old, he⟩, ⟨f0, f, hf, hz⟩, hTI, ⟨x, y, hTO⟩, h1, h2⟩ := st
    exact ⟨⟨old, k e (by simp) _ he⟩, ⟨f0, f, hf, k z (by simp) _ hz⟩, k TI (by simp) _ hTI, ⟨x, y, k TO (by simp) _ hTO⟩, h1.at fun o q => k i1 (by simp) o q, h2.at fun o q => k i2 (by simp) o q⟩
  item := by
    intro X hP hw hK hc i pins s σ H E I hf st hg
    subst hP hw hK
    obtain ⟨⟨old, he⟩, hz, hTI, ⟨x0, y0, hTO⟩, h1, h2⟩ := st
    obtain ⟨xs, ys, x, y, hqx, hqy, hx, hy⟩ := hg
    obtain ⟨its, rv, p, _⟩ := I.list hqx
    obtain ⟨its2, rv2, p2, _⟩ := I.list hqy
    obtain ⟨u, hu, ru⟩ := rv.get hx
    obtain ⟨u2, hu2, ru2⟩ := rv2.get hy
    have hel : e < s.heap.objs.size := Heap.lt_size he
    refine enumZ_item D hez heTO he1 he2 he hz hTI hTO h1 h2 p.isList p2.isList (x := u) (y := u2) (by simpa using hu) (by simpa using hu2) fun ha h' q1 q2 q3 q4 q5 q6 q7 q8 q9 q10 q11 => ?_
    refine ⟨_, rfl, wpAny_letOwnedTupleGo_enum (s := { s with heap := h', toks := s.toks + 1 }) q8 fun h'' e'' sb => ?_⟩
    have new1 : ObjOk X.prog X.w (upd H s.heap.objs.size (.tup [x, y])) ha s.heap.objs.size (.tup [x, y]) :=
      ⟨by show 2 ≤ sizeLine; decide, [u, u2], .cons ru (.cons ru2 .nil), ⟨_, q5, rfl, _, rfl⟩⟩
    have I1 : Inv X pins σ (upd H s.heap.objs.size (.tup [x, y])) { s with heap := ha } :=
      I.turnedNew (t' := s.toks) (ch := [e, z, TI, TO, i1, i2]) (fun c o hb q => q7 c o (fun q' => hb (by simp [q'])) (fun q' => hb (by simp [q'])) (fun q' => hb (by simp [q'])) (fun q' => hb (by simp [q'])) q) hf (Nat.le_refl _) new1
    have neN : s.heap.objs.size ≠ e := Nat.ne_of_gt hel
    have neN1 : (s.heap.objs.size + 1 : Nat) ≠ e := Nat.ne_of_gt (Nat.lt_succ_of_lt hel)
    have hT2 : h''.get? (s.heap.objs.size + 1) = some { cls := .type "tuple", data := .seq #[.int i s.toks, .ref s.heap.objs.size] } := (sb.2 _ neN1).trans q9
    have new2 : ObjOk X.prog X.w (upd (upd H s.heap.objs.size (.tup [x, y])) (s.heap.objs.size + 1) (.tup [.int (i : Nat), .ref s.heap.objs.size])) h'' (s.heap.objs.size + 1) (.tup [.int (i : Nat), .ref s.heap.objs.size]) :=
      ⟨by show 2 ≤ sizeLine; decide, [.int i s.toks, .ref s.heap.objs.size], .cons ⟨_, rfl⟩ (.cons rfl .nil), ⟨_, hT2, rfl, _, rfl⟩⟩
    have I2 : Inv X pins σ (upd (upd H s.heap.objs.size (.tup [x, y])) (s.heap.objs.size + 1) (.tup [.int (i : Nat), .ref s.heap.objs.size])) { s with heap := h'', toks := s.toks + 1 } :=
      I1.turnedNew (t' := s.toks + 1) (ch := [e]) (fun c o hb q => (sb.2 c (fun q' => hb (by simp [q']))).trans (q11 c o (fun q' => hb (by simp [q'])) q)) (fun c hc => by
        have e' : c = e := by simpa using hc
        subst e'
        exact FpOk.upd (hf _ (by simp)) (Ne.symm neN)) (by show ha.objs.size ≤ s.heap.objs.size + 1; rw [q6]; exact Nat.le_refl _) new2
    have n2 : (upd H s.heap.objs.size (.tup [x, y])) (s.heap.objs.size + 1) = none := I1.hok.fresh (by show ha.objs.size ≤ s.heap.objs.size + 1; rw [q6]; exact Nat.le_refl _)
    refine ⟨.ref (s.heap.objs.size + 1), _, I2, rfl, ⟨_, _, x, y, rfl, I.hok.fresh (Nat.le_refl _), n2, rfl, fun l hl => by rw [I.list_inj hl hqx]; exact hx, fun l hl => by rw [I.list_inj hl hqy]; exact hy⟩, ⟨⟨.ref s.heap.objs.size, ?_⟩, ?_, ?_, ?_, ?_, ?_⟩, fun c hcm => ?_⟩
    · have e1 : ((i + 1 : Nat) : Int) = (i : Int) + 1 := by omega
      rw [e1]; exact e''
    · obtain ⟨f0, f, hff, hzz⟩ := q1
      exact ⟨f0, f, hff, (sb.2 _ (Ne.symm hez)).trans (q11 _ _ (Ne.symm hez) hzz)⟩
    · exact (sb.2 _ (Ne.symm heTI)).trans (q11 _ _ (Ne.symm heTI) (q7 _ _ D.TIz D.TITO D.TIi1 D.TIi2 hTI))
    · obtain ⟨x1, y1, hh⟩ := q2
      exact ⟨x1, y1, (sb.2 _ (Ne.symm heTO)).trans (q11 _ _ (Ne.symm heTO) hh)⟩
    · exact q3.at fun o q => (sb.2 _ (Ne.symm he1)).trans (q11 _ _ (Ne.symm he1) q)
    · exact q4.at fun o q => (sb.2 _ (Ne.symm he2)).trans (q11 _ _ (Ne.symm he2) q)
    · have hlt : c < s.heap.objs.size := by
        have e' : c = e ∨ c = z ∨ c = TI ∨ c = TO ∨ c = i1 ∨ c = i2 := by simpa using hcm
        rcases e' with q | q | q | q | q | q
        · rw [q]; exact hel
        · rw [q]; obtain ⟨_, _, _, hzz⟩ := hz; exact Heap.lt_size hzz
        · rw [q]; exact Heap.lt_size hTI
        · rw [q]; exact Heap.lt_size hTO
        · rw [q]; obtain ⟨_, e1, _⟩ := h1; exact Heap.lt_size e1
        · rw [q]; obtain ⟨_, e2, _⟩ := h2; exact Heap.lt_size e2
      rw [upd_ne (show c ≠ (s.heap.objs.size + 1 : Nat) from Nat.ne_of_lt (Nat.lt_succ_of_lt hlt)), upd_ne (Nat.ne_of_lt hlt)]
      exact (hf c hcm).1
  done := by
    intro X hP hw hK hc i pins s σ H E I hf st hg
    subst hP hw hK
    obtain ⟨⟨old, he⟩, hz, hTI, ⟨x0, y0, hTO⟩, h1, h2⟩ := st
    obtain ⟨xs, ys, hqx, hqy, hend⟩ := hg
    obtain ⟨its, rv, p, _⟩ := I.list hqx
    obtain ⟨its2, rv2, p2, _⟩ := I.list hqy
    have l1 := rv.length
    have l2 := rv2.length
    have hen : its.toArray[i]? = none ∨ its2.toArray[i]? = none := by
      rcases hend with q | q
      · exact .inl (by simp; omega)
      · exact .inr (by simp; omega)
    exact enumZ_end (I.ok.hd hc) D he hz hTI hTO h1 h2 p.isList p2.isList hen fun h' hk => ⟨rfl, I.turnedL (t' := s.toks) (ch := [e, z, TI, TO, i1, i2]) (fun c o hb q =>
      hk c o (fun q' => hb (by simp [q'])) (fun q' => hb (by simp [q'])) (fun q' => hb (by simp [q'])) (fun q' => hb (by simp [q'])) q) hf⟩
  self := fun A i s Q E st h => let ⟨⟨_, he⟩, _⟩ := st; wpAny_pyIter_enum he h
def iEnZip (K : PySem.W.Frag) (ta : TA) : TI := fun σ H R => ta σ H fun vs H1 => ∃ a b xs ys, vs = [.ref a, .ref b] ∧ SqL K H1 a xs ∧ SqL K H1 b ys ∧ R (Itez K a b) H1
theorem pi_enumZ {X : Cx} {e e2 : Expr} {ta : TA} {p pos p' pos' tpos : Pos} {elts : List Expr} {kk : Nat} (hg : Gl X "zip") (hm : X.mg "zip" = none) (hg' : Gl X "enumerate") (hm' : X.mg "enumerate" = none) (ha : PA X [e, e2] ta)
    (hs : starEach [e, e2] X.env = (false, eval e X.env) :: starEach [e2] X.env := by rfl) (hpl : (backTo pos (starEach [e2] X.env)).any (·.1) = false := by rfl)
    (hs' : starEach [.Call (.Name "zip" p) [e, e2] [] pos] X.env = [(false, eval (.Call (.Name "zip" p) [e, e2] [] pos) X.env)] := by rfl) :
    PI X (.Tuple elts kk tpos) (.Call (.Name "enumerate" p') [.Call (.Name "zip" p) [e, e2] [] pos] [] pos') (iEnZip X.K ta) := by
  refine ⟨fun pins s σ H R I h => ?_⟩
  refine Call_ (ld_blt I hg' hm' boot_enumerate (PyProof.Rows.callWith_type1 (PyProof.Rows.args_cons ?_ rfl) hs' rfl))
  refine Call_ (ld_blt I hg hm PyProof.Rows.boot_zip (PyProof.Rows.callWith_type1 (thn (ha.run pos pins s σ H _ I h) fun us s1 ⟨vs, H1, I1, r1, q1⟩ => ?_) hs hpl))
  obtain ⟨a, b, xs, ys, ex, hqx, hqy, q⟩ := q1
  subst ex
  cases r1 with
  | cons r rr =>
    cases rr with
    | cons r' rr =>
      cases rr
      cases r
      cases r'
      obtain ⟨its, rv, p1, _⟩ := I1.list hqx
      obtain ⟨its2, rv2, p2, _⟩ := I1.list hqy
      have la : a < s1.heap.objs.size := p1.lt
      have lb : b < s1.heap.objs.size := p2.lt
      refine call_zip_2 p1.isList p2.isList fun h' hz hTI hTO h1 h2 hsz hk => ?_
      have I2 : Inv X pins σ H1 { s1 with heap := h' } := I1.kept (t' := s1.toks) hk
      refine PyProof.Rows.args_nil ?_
      refine call_enum_zip (s := { s1 with heap := h' }) hz fun h2' he hsz2 hk2 => wpAny_pyIter_enum he ?_
      replace he : IsEnum h2' h'.objs.size (s1.heap.objs.size + 4) 0 .none := he
      rw [hsz] at he
      have I3 : Inv X pins σ H1 { s1 with heap := h2' } := I2.kept (t' := s1.toks) hk2
      have N := s1.heap.objs.size
      refine ⟨s1.heap.objs.size + 5, [s1.heap.objs.size + 5, s1.heap.objs.size + 4, s1.heap.objs.size + 2, s1.heap.objs.size + 3, s1.heap.objs.size, s1.heap.objs.size + 1], _, _, H1, ?_, I3,
        turn_enumZ (PySem.W.ktu_apart s1.heap.objs.size a b la lb) (Nat.ne_of_gt (Nat.lt_succ_self _)) (Nat.ne_of_gt (by show s1.heap.objs.size + 2 < s1.heap.objs.size + 5; omega)) (Nat.ne_of_gt (by show s1.heap.objs.size + 3 < s1.heap.objs.size + 5; omega)) (Nat.ne_of_gt (by show s1.heap.objs.size < s1.heap.objs.size + 5; omega)) (Nat.ne_of_gt (by show s1.heap.objs.size + 1 < s1.heap.objs.size + 5; omega)),
        ⟨⟨.none, he⟩, ⟨.none, false, .inl rfl, hk2 _ _ hz⟩, hk2 _ _ hTI, ⟨_, _, hk2 _ _ hTO⟩, h1.at fun o q => hk2 _ _ q, h2.at fun o q => hk2 _ _ q⟩, fun c hcm => ?_, q⟩
      · show Value.ref h'.objs.size = _
        rw [hsz]
      · have e' : c = s1.heap.objs.size + 5 ∨ c = s1.heap.objs.size + 4 ∨ c = s1.heap.objs.size + 2 ∨ c = s1.heap.objs.size + 3 ∨ c = s1.heap.objs.size ∨ c = s1.heap.objs.size + 1 := by simpa using hcm
        have hle : s1.heap.objs.size ≤ c := by
          rcases e' with z | z | z | z | z | z
          · rw [z]; exact Nat.le_add_right _ _
          · rw [z]; exact Nat.le_add_right _ _
          · rw [z]; exact Nat.le_add_right _ _
          · rw [z]; exact Nat.le_add_right _ _
          · rw [z]; exact Nat.le_refl _
          · rw [z]; exact Nat.le_add_right _ _
        exact I1.fpOk hle (I1.hok.fresh hle)
/-! ### in the layer -/
def enuD (ds : List D) : List D := ds.mapIdx fun i d => .tup [.int (i : Nat), d]
def iEz (m1 m2 : MI) : MI := fun ρ => (m1 ρ).bind fun p => (m2 p.2).map fun q => (enuD (zipD p.1 q.1), q.2)
def iEn (m : MI) : MI := fun ρ => (m ρ).map fun p => (enuD p.1, p.2)
theorem enuD_len (ds : List D) : (enuD ds).length = ds.length := by unfold enuD; rw [List.length_mapIdx]
theorem enuD_get {ds : List D} {i : Nat} {d : D} (h : ds[i]? = some d) : (enuD ds)[i]? = some (.tup [.int (i : Nat), d]) := by
  unfold enuD
  rw [List.getElem?_mapIdx, h]
  rfl
theorem itd_enumZ {K : PySem.W.Frag} {H0 : Hp} {p q : Addr} {vs ws : List V} {xs ys : List D} (hl : SqL K H0 p vs) (hd : DenL K H0 vs xs) (hl2 : SqL K H0 q ws) (hd2 : DenL K H0 ws ys) : ItD K H0 (Itez K p q) (enuD (zipD xs ys)) where
  go := fun i H e h => by
    rw [enuD_len] at h
    unfold zipD at h
    rw [List.length_zipWith] at h
    obtain ⟨v, h1, _⟩ := hd.get (List.getElem?_eq_getElem (show i < xs.length by omega))
    obtain ⟨w, h2, _⟩ := hd2.get (List.getElem?_eq_getElem (show i < ys.length by omega))
    exact ⟨vs, ws, v, w, ex_l e hl, ex_l e hl2, h1, h2⟩
  yld := fun i H x H' e h hy => by
    obtain ⟨T, T2, v, w, rfl, nT, nT2, rfl, f1, f2⟩ := hy
    obtain ⟨d1, g1, k1⟩ := hd.getV (f1 vs (ex_l e hl))
    obtain ⟨d2, g2, k2⟩ := hd2.getV (f2 ws (ex_l e hl2))
    have e12 : Ex H (upd (upd H T (.tup [v, w])) T2 (.tup [.int (i : Nat), .ref T])) := (Ex.new nT).trans (Ex.new nT2)
    refine ⟨e12, .tup [.int (i : Nat), .tup [d1, d2]], enuD_get ?_, ?_⟩
    · unfold zipD
      rw [List.getElem?_zipWith, g1, g2]
    · refine .tup (st_of upd_same) (.cons (.int _) (.cons ?_ .nil))
      refine .tup (st_of ?_) (.cons (Den.ex k1 (e.trans e12)) (.cons (Den.ex k2 (e.trans e12)) .nil))
      have nz : T ≠ T2 := fun z => by rw [← z, upd_same] at nT2; cases nT2
      rw [upd_ne nz]
      exact upd_same
  stop := fun i H e h => by
    rw [enuD_len] at h
    unfold zipD at h
    rw [List.length_zipWith] at h
    refine ⟨vs, ws, ex_l e hl, ex_l e hl2, ?_⟩
    rw [hd.length, hd2.length]
    omega
section
variable {X : Cx} {W : WX} {a b c e : Expr} {pos p pos' p' : Pos}
theorem i_enumZ {m1 m2 : MI} {elts : List Expr} {kk : Nat} {tpos : Pos} (hm : X.mg "zip" = none) (hm' : X.mg "enumerate" = none) (h1 : JL X a m1) (h2 : JL X b m2) (hg : Gl X "zip" := by rfl) (hg' : Gl X "enumerate" := by rfl)
    (hs : starEach [a, b] X.env = (false, eval a X.env) :: starEach [b] X.env := by rfl) (hs2 : starEach (b :: []) X.env = (false, eval b X.env) :: starEach [] X.env := by rfl) (hpl : (backTo pos (starEach [b] X.env)).any (·.1) = false := by rfl)
    (hs' : starEach [.Call (.Name "zip" p) [a, b] [] pos] X.env = [(false, eval (.Call (.Name "zip" p) [a, b] [] pos) X.env)] := by rfl) :
    JI X (.Tuple elts kk tpos) (.Call (.Name "enumerate" p') [.Call (.Name "zip" p) [a, b] [] pos] [] pos') (iEz m1 m2) := by
  obtain ⟨ta, pa, va⟩ := h1
  obtain ⟨tb, pb, vb⟩ := h2
  refine ⟨_, pi_enumZ hg hm hg' hm' (pa_cons pa (pa_cons pb pa_nil hs2) hs) hs hpl hs', fun H0 σ H ρ ds ρ' ok h R' k => ?_⟩
  unfold iEz at h
  obtain ⟨⟨xs, ρ1⟩, hm1, h⟩ := Option.bind_eq_some_iff.mp h
  obtain ⟨⟨ys, ρ2⟩, hm2, h⟩ := Option.map_eq_some_iff.mp h
  cases h
  refine va H0 σ H ρ xs ρ1 ok hm1 H (Ex.refl H) _ fun p vs H2 H0' e2 e0 ok1 l1 g1 => ?_
  refine vb H0' σ H2 ρ1 ys ρ2 ok1 hm2 H2 (Ex.refl H2) _ fun q ws H3 H0'' e3 e0' ok2 l2 g2 => ?_
  exact ⟨p, q, vs, ws, rfl, ex_l (e0'.trans ok2.base) l1, ex_l ok2.base l2, k _ H3 H0'' (e0.trans e0') ok2 (e2.trans e3) (itd_enumZ (ex_l e0' l1) (g1.ex e0') l2 g2)⟩
theorem itd_enum {K : PySem.W.Frag} {H0 : Hp} {p : Addr} {vs : List V} {xs : List D} (hl : SqL K H0 p vs) (hd : DenL K H0 vs xs) : ItD K H0 (Ite K p) (enuD xs) where
  go := fun i H e h => by
    rw [enuD_len] at h
    obtain ⟨v, h1, _⟩ := hd.get (List.getElem?_eq_getElem h)
    exact ⟨vs, v, ex_l e hl, h1⟩
  yld := fun i H x H' e h hy => by
    obtain ⟨T, v, rfl, nT, rfl, f1⟩ := hy
    obtain ⟨d1, g1, k1⟩ := hd.getV (f1 vs (ex_l e hl))
    exact ⟨Ex.new nT, .tup [.int (i : Nat), d1], enuD_get g1, .tup (st_of upd_same) (.cons (.int _) (.cons (Den.ex k1 (e.trans (Ex.new nT))) .nil))⟩
  stop := fun i H e h => by
    rw [enuD_len] at h
    exact ⟨vs, ex_l e hl, by rw [hd.length]; exact h⟩
theorem i_enum {m : MI} {elts : List Expr} {kk : Nat} {tpos : Pos} (hm : X.mg "enumerate" = none) (h1 : JL X a m) (hg : Gl X "enumerate" := by rfl) (hs : starEach [a] X.env = [(false, eval a X.env)] := by rfl) :
    JI X (.Tuple elts kk tpos) (.Call (.Name "enumerate" p) [a] [] pos) (iEn m) := by
  obtain ⟨ta, pa, va⟩ := h1
  refine ⟨_, pi_enum hg hm (pa_cons pa pa_nil hs) hs, fun H0 σ H ρ ds ρ' ok h R' k => ?_⟩
  unfold iEn at h
  obtain ⟨⟨xs, ρ1⟩, hm1, h⟩ := Option.map_eq_some_iff.mp h
  cases h
  refine va H0 σ H ρ xs ρ1 ok hm1 H (Ex.refl H) _ fun p vs H2 H0' e2 e0 ok1 l1 g1 => ?_
  exact ⟨p, vs, rfl, ex_l ok1.base l1, k _ H2 H0' e0 ok1 e2 (itd_enum l1 g1)⟩
end
end
end Tl

namespace Tl
open PySem PySem.Spec PyProof.Rows L2 Evl
noncomputable section
/-- a loop that folds -/
theorem loop_fold {α β : Type} {g : MG} {body : MS} (e : α → D) (R : β → Nat → Rho → Prop) (step : β → α → β) : ∀ (as : List α), (∀ a ∈ as, ∀ b k ρ, R b (k + 1) ρ → ∃ ρ1 ρ2, g (e a) ρ = some ρ1 ∧ body ρ1 = some (.nx ρ2) ∧ R (step b a) k ρ2) →
    ∀ b k ρ, R b (as.length + k) ρ → ∃ ρ', loopM g body (as.map e) ρ = some (.nx ρ') ∧ R (as.foldl step b) k ρ'
  | [], _, b, k, ρ, h => ⟨ρ, rfl, by rw [List.length_nil, Nat.zero_add] at h; exact h⟩
  | a :: as, hs, b, k, ρ, h => by
    obtain ⟨ρ1, ρ2, h1, h2, h3⟩ := hs a (by simp) b (as.length + k) ρ (by rw [List.length_cons] at h; rw [show as.length + k + 1 = as.length + 1 + k by omega]; exact h)
    obtain ⟨ρ', h4, h5⟩ := loop_fold e R step as (fun a ha => hs a (by simp [ha])) (step b a) k ρ2 h3
    refine ⟨ρ', ?_, h5⟩
    rw [List.map_cons]
    unfold loopM
    rw [h1]
    show (match body ρ1 with | some (.nx ρ') => loopM g body (as.map e) ρ' | some (.cnt ρ') => loopM g body (as.map e) ρ' | some (.brk ρ') => some (.nx ρ') | r => r) = _
    rw [h2]
    exact h4
theorem loop_nx {g : MG} {body : MS} {d : D} {ds : List D} {ρ ρ1 ρ2 : Rho} (h : g d ρ = some ρ1) (hb : body ρ1 = some (.nx ρ2)) : loopM g body (d :: ds) ρ = loopM g body ds ρ2 := by
  conv => lhs; unfold loopM
  rw [h]
  show (match body ρ1 with | some (.nx ρ') => loopM g body ds ρ' | some (.cnt ρ') => loopM g body ds ρ' | some (.brk ρ') => some (.nx ρ') | r => r) = _
  rw [hb]
theorem loop_ret {g : MG} {body : MS} {d : D} {ds : List D} {ρ ρ1 : Rho} {r : R} (h : g d ρ = some ρ1) (hb : body ρ1 = some (.ret r)) : loopM g body (d :: ds) ρ = some (.ret r) := by
  conv => lhs; unfold loopM
  rw [h]
  show (match body ρ1 with | some (.nx ρ') => loopM g body ds ρ' | some (.cnt ρ') => loopM g body ds ρ' | some (.brk ρ') => some (.nx ρ') | r => r) = _
  rw [hb]
/-! ### rows read -/
def halvesOf (bs : List Int) : List Int := bs.flatMap fun b => [b / 16, b % 16]
theorem halvesOf_pairs : ∀ hs : List Int, hs.length % 2 = 0 → (∀ h ∈ hs, 0 ≤ h ∧ h < 16) → halvesOf (pairs hs) = hs
  | [], _, _ => rfl
  | [_], h, _ => by simp at h
  | a :: b :: t, h, hb => by
    have h1 := hb a (by simp)
    have h2 := hb b (by simp)
    have ih := halvesOf_pairs t (by simp only [List.length_cons] at h; omega) (fun z hz => hb z (by simp [hz]))
    show (16 * a + b) / 16 :: (16 * a + b) % 16 :: halvesOf (pairs t) = _
    rw [ih]
    congr 1
    · omega
    · congr 1; omega
theorem halvesOf_len (bs : List Int) : (halvesOf bs).length = 2 * bs.length := by
  induction bs with
  | nil => rfl
  | cons b bs ih =>
    show (halvesOf bs).length + 2 = _
    rw [ih, List.length_cons]; omega
def Pl.lo : Pl → Int
  | .fig => 0 | .sign => 10 | .ahead => 0 | .zone => 15
def Pl.hi : Pl → Int
  | .fig => 9 | .sign => 15 | .ahead => 0 | .zone => 15
def right (p : Pl) (h : Int) : Prop := p.lo ≤ h ∧ h ≤ p.hi
instance (p : Pl) (h : Int) : Decidable (right p h) := by unfold right; infer_instance
/-- places and halves that are right, one by one -/
inductive Fit : List Pl → List Int → Prop
  | nil : Fit [] []
  | cons {p : Pl} {h : Int} {ps : List Pl} {hs : List Int} : right p h → Fit ps hs → Fit (p :: ps) (h :: hs)
theorem Fit.append : ∀ {ps qs : List Pl} {hs gs : List Int}, Fit ps hs → Fit qs gs → Fit (ps ++ qs) (hs ++ gs)
  | _, _, _, _, .nil, h => h
  | _, _, _, _, .cons a t, h => .cons a (t.append h)
theorem Fit.reverse : ∀ {ps : List Pl} {hs : List Int}, Fit ps hs → Fit ps.reverse hs.reverse
  | _, _, .nil => .nil
  | _, _, .cons a t => by rw [List.reverse_cons, List.reverse_cons]; exact t.reverse.append (.cons a .nil)
theorem Fit.len : ∀ {ps : List Pl} {hs : List Int}, Fit ps hs → ps.length = hs.length
  | _, _, .nil => rfl
  | _, _, .cons _ t => congrArg (· + 1) t.len
theorem keepL_fit {s : Int} (hs : 10 ≤ s ∧ s ≤ 15) : ∀ (ps : List Pl) (r : Int), Fit ps (keepL s ps r)
  | [], _ => .nil
  | .fig :: t, r => .cons (show 0 ≤ r % 10 ∧ r % 10 ≤ 9 by omega) (keepL_fit hs t _)
  | .sign :: t, r => .cons hs (keepL_fit hs t _)
  | .ahead :: t, r => .cons (show (0 : Int) ≤ 0 ∧ (0 : Int) ≤ 0 by omega) (keepL_fit hs t _)
  | .zone :: t, r => .cons (show (15 : Int) ≤ 15 ∧ (15 : Int) ≤ 15 by omega) (keepL_fit hs t _)
theorem halvesP_fit {s : Int} (hs : 10 ≤ s ∧ s ≤ 15) (ps : List Pl) (r : Int) : Fit ps (halvesP ps s r) := by
  have h := (keepL_fit hs ps.reverse r).reverse
  rw [List.reverse_reverse] at h
  exact h
/-- the first half that is wrong, from place k on -/
def amiss : Nat → List Pl → List Int → Option (Nat × Pl)
  | k, p :: ps, h :: hs => if right p h then amiss (k + 1) ps hs else some (k, p)
  | _, _, _ => none
theorem Fit.none : ∀ {ps : List Pl} {hs : List Int} (k : Nat), Fit ps hs → amiss k ps hs = none
  | _, _, _, .nil => rfl
  | _, _, k, .cons a t => by unfold amiss; rw [if_pos a]; exact t.none (k + 1)
def stepR (a : Int × Bool) (ph : Pl × Int) : Int × Bool := match ph.1 with
  | .fig => (10 * a.1 + ph.2, a.2)
  | .sign => (a.1, decide (ph.2 = 11) || decide (ph.2 = 13))
  | _ => a
def readL (ps : List Pl) (hs : List Int) (a : Int × Bool) : Int × Bool := (List.zip ps hs).foldl stepR a
theorem readL_snoc {ps : List Pl} {hs : List Int} {p : Pl} {h : Int} {a : Int × Bool} (hl : ps.length = hs.length) : readL (ps ++ [p]) (hs ++ [h]) a = stepR (readL ps hs a) (p, h) := by
  unfold readL
  rw [List.zip_append hl, List.foldl_append]
  rfl
def nFig : List Pl → Nat
  | [] => 0
  | .fig :: t => nFig t + 1
  | _ :: t => nFig t
def hasSign : List Pl → Bool
  | [] => false
  | .sign :: _ => true
  | _ :: t => hasSign t
theorem read_rev (s : Int) : ∀ (rs : List Pl) (r : Int) (a : Int × Bool), readL rs.reverse (keepL s rs r).reverse a = (a.1 * 10 ^ nFig rs + r % 10 ^ nFig rs, if hasSign rs then decide (s = 11) || decide (s = 13) else a.2)
  | [], r, a => by simp [readL, nFig, hasSign, Int.emod_one]
  | .fig :: t, r, a => by
    show readL (.fig :: t).reverse (r % 10 :: keepL s t (r / 10)).reverse a = _
    rw [List.reverse_cons, List.reverse_cons, readL_snoc (by rw [List.length_reverse, List.length_reverse, keepL_len]), read_rev s t (r / 10) a]
    show (10 * (a.1 * 10 ^ nFig t + r / 10 % 10 ^ nFig t) + r % 10, _) = (a.1 * 10 ^ (nFig t + 1) + r % 10 ^ (nFig t + 1), _)
    congr 1
    have p0 : (0 : Int) < 10 ^ nFig t := Int.pow_pos (by decide)
    rw [Int.pow_succ]
    generalize (10 : Int) ^ nFig t = p at p0
    have e1 : r % (p * 10) = 10 * (r / 10 % p) + r % 10 := by
      have h0 := Int.emod_nonneg (r / 10) (show p ≠ 0 by omega)
      have h1 := Int.emod_lt_of_pos (r / 10) p0
      have h2 : r = (p * 10) * (r / 10 / p) + (10 * (r / 10 % p) + r % 10) := by
        have a1 := Int.mul_ediv_add_emod (r / 10) p
        have a2 := Int.mul_ediv_add_emod r 10
        generalize r / 10 / p = q at a1
        generalize r / 10 % p = u at a1
        have e3 : p * 10 * q = 10 * (p * q) := by rw [Int.mul_comm p 10, Int.mul_assoc]
        rw [e3]
        omega
      conv => lhs; rw [h2]
      rw [Int.add_comm, Int.add_mul_emod_self_left]
      exact Int.emod_eq_of_lt (by omega) (by omega)
    rw [e1]
    have e2 : a.1 * (p * 10) = 10 * (a.1 * p) := by rw [← Int.mul_assoc, Int.mul_comm]
    rw [e2]
    omega
  | .sign :: t, r, a => by
    show readL (.sign :: t).reverse (s :: keepL s t r).reverse a = _
    rw [List.reverse_cons, List.reverse_cons, readL_snoc (by rw [List.length_reverse, List.length_reverse, keepL_len]), read_rev s t r a]
    rfl
  | .ahead :: t, r, a => by
    show readL (.ahead :: t).reverse (0 :: keepL s t r).reverse a = _
    rw [List.reverse_cons, List.reverse_cons, readL_snoc (by rw [List.length_reverse, List.length_reverse, keepL_len]), read_rev s t r a]
    rfl
  | .zone :: t, r, a => by
    show readL (.zone :: t).reverse (15 :: keepL s t r).reverse a = _
    rw [List.reverse_cons, List.reverse_cons, readL_snoc (by rw [List.length_reverse, List.length_reverse, keepL_len]), read_rev s t r a]
    rfl
theorem nFig_append : ∀ ps qs : List Pl, nFig (ps ++ qs) = nFig ps + nFig qs
  | [], qs => by simp [nFig]
  | .fig :: t, qs => by show nFig (t ++ qs) + 1 = nFig t + 1 + nFig qs; rw [nFig_append t qs]; omega
  | .sign :: t, qs => nFig_append t qs
  | .ahead :: t, qs => nFig_append t qs
  | .zone :: t, qs => nFig_append t qs
theorem hasSign_append : ∀ ps qs : List Pl, hasSign (ps ++ qs) = (hasSign ps || hasSign qs)
  | [], qs => by simp [hasSign]
  | .fig :: t, qs => hasSign_append t qs
  | .sign :: t, qs => rfl
  | .ahead :: t, qs => hasSign_append t qs
  | .zone :: t, qs => hasSign_append t qs
theorem nFig_rev : ∀ ps : List Pl, nFig ps.reverse = nFig ps
  | [] => rfl
  | p :: t => by
    rw [List.reverse_cons, nFig_append, nFig_rev t]
    cases p <;> simp [nFig]
theorem hasSign_rev : ∀ ps : List Pl, hasSign ps.reverse = hasSign ps
  | [] => rfl
  | p :: t => by
    rw [List.reverse_cons, hasSign_append, hasSign_rev t]
    cases p <;> simp [hasSign]
theorem nFig_rep : ∀ n : Nat, nFig (List.replicate n .fig) = n
  | 0 => rfl
  | n + 1 => by rw [List.replicate_succ]; show nFig _ + 1 = _; rw [nFig_rep n]
theorem hasSign_rep : ∀ n : Nat, hasSign (List.replicate n .fig) = false
  | 0 => rfl
  | n + 1 => by rw [List.replicate_succ]; exact hasSign_rep n
theorem nFig_zones : ∀ n : Nat, nFig (List.replicate n [Pl.zone, Pl.fig]).flatten = n
  | 0 => rfl
  | n + 1 => by rw [List.replicate_succ, List.flatten_cons, nFig_append, nFig_zones n]; show 1 + n = _; omega
theorem hasSign_zones : ∀ n : Nat, hasSign (List.replicate n [Pl.zone, Pl.fig]).flatten = false
  | 0 => rfl
  | n + 1 => by rw [List.replicate_succ, List.flatten_cons, hasSign_append, hasSign_zones n]; rfl
theorem packedP_fig (n : Nat) (e : Bool) : nFig (packedP n e) = n ∧ hasSign (packedP n e) = e := by
  unfold packedP
  split <;> cases e <;> simp [nFig_append, hasSign_append, nFig_rep, hasSign_rep, nFig, hasSign]
theorem spreadP_fig (n : Nat) (e : Bool) (h : 1 ≤ n) : nFig (spreadP n e) = n ∧ hasSign (spreadP n e) = e := by
  unfold spreadP
  cases e <;> simp [nFig_append, hasSign_append, nFig_zones, hasSign_zones, nFig, hasSign]
  omega
theorem read_halves (ps : List Pl) (s r : Int) (a : Int × Bool) : readL ps (halvesP ps s r) a = (a.1 * 10 ^ nFig ps + r % 10 ^ nFig ps, if hasSign ps then decide (s = 11) || decide (s = 13) else a.2) := by
  have h := read_rev s ps.reverse r a
  rw [List.reverse_reverse, nFig_rev, hasSign_rev] at h
  exact h
/-! ### enumerate, from k on -/
def enuF : Nat → List D → List D
  | _, [] => []
  | k, d :: ds => .tup [.int (k : Nat), d] :: enuF (k + 1) ds
theorem mapIdx_enuF : ∀ (ds : List D) (k : Nat), (ds.mapIdx fun i d => D.tup [.int ((k + i : Nat) : Int), d]) = enuF k ds
  | [], _ => rfl
  | d :: ds, k => by
    rw [List.mapIdx_cons]
    unfold enuF
    rw [← mapIdx_enuF ds (k + 1)]
    congr 1
    congr 1
    funext i d
    rw [show k + (i + 1) = k + 1 + i by omega]
theorem enuD_eq (ds : List D) : enuD ds = enuF 0 ds := by
  unfold enuD
  rw [← mapIdx_enuF ds 0]
  congr 1
  funext i d
  rw [Nat.zero_add]
theorem zipD_pl (ps : List Pl) (hs : List Int) : zipD (ps.map plD) (hs.map .int) = (List.zip ps hs).map fun p => D.tup [plD p.1, .int p.2] := by
  unfold zipD
  induction ps generalizing hs with
  | nil => rfl
  | cons x xs ih =>
    cases hs with
    | nil => rfl
    | cons y ys => simp only [List.map_cons, List.zipWith_cons_cons, List.zip_cons_cons, ih]
end
end Tl

namespace Tl
open PySem PySem.Spec PyProof.Rows L2 Evl
noncomputable section
section
variable {X : Cx} {W : WX} {a b c e : Expr} {pos p pos2 p2 p3 : Pos} {f1 f2 f3 : ME} {es : List Expr} {ma : MA}
/-! ### [xs, ys, ..][i], of lists -/
def mPick (ma : MA) (f : ME) : ME := fun ρ => (ma ρ).bind fun rs => (asInt (f ρ)).bind fun i => if szOk rs.length = true then (atI rs i).bind fun r => (match argN r with | .ro xs => some (.ro xs) | _ => none) else none
theorem ArgL.get {K : PySem.W.Frag} {H : Hp} : ∀ {vs : List V} {rs : List R} {i : Nat} {r : R}, ArgL K H vs rs → rs[i]? = some r → ∃ v, vs[i]? = some v ∧ ArgOk K H v r
  | _, _, 0, _, .cons h _, e => by cases e; exact ⟨_, rfl, h⟩
  | _, _, i + 1, _, .cons _ t, e => t.get (i := i) e
  | _, _, _, _, .nil, e => by cases e
theorem atI_arg {K : PySem.W.Frag} {H : Hp} {vs : List V} {rs : List R} {i : Int} {r : R} (h : ArgL K H vs rs) (ha : atI rs i = some r) : ∃ v, atI vs i = some v ∧ ArgOk K H v r := by
  unfold atI at ha ⊢
  rw [h.length]
  obtain ⟨j, hj, ha⟩ := Option.bind_eq_some_iff.mp ha
  obtain ⟨v, h1, h2⟩ := h.get ha
  exact ⟨v, by rw [hj]; exact h1, h2⟩
theorem x_pick (h : JA X es ma) (hb : JE X b f2) (hs : PlainIx b := by exact fun _ _ => rfl) : JE X (.Subscript (.List es p) b pos) (mPick ma f2) := by
  obtain ⟨ta, pa, va⟩ := h
  obtain ⟨tb, pb, vb⟩ := hb
  refine ⟨_, pe_ix ix_list (pe_lst pa) pb hs, fun H0 σ H ρ r ok h => ?_⟩
  unfold mPick at h
  obtain ⟨rs, hrs, h⟩ := Option.bind_eq_some_iff.mp h
  obtain ⟨i, hi, h⟩ := Option.bind_eq_some_iff.mp h
  split at h
  · rename_i hz
    obtain ⟨r1, hr1, h⟩ := Option.bind_eq_some_iff.mp h
    intro H1 e1 Q q
    refine va _ _ _ _ _ ok hrs H1 e1 _ fun vs H2 e2 g => ?_
    refine ⟨by rw [g.length]; exact szOk_of hz, fun l nl => ?_⟩
    have e3 : Ex H2 (upd H2 l (.lst vs)) := Ex.new nl
    refine (vb _ _ _ _ _ ok (asInt_some hi)).int _ ((e1.trans e2).trans e3) _ fun H4 e4 => ?_
    obtain ⟨w, h1, h2⟩ := atI_arg ((g.ex e3).ex e4) hr1
    refine ⟨l, vs, i, w, rfl, rfl, ex_l e4 (sq_of upd_same), h1, q w H4 ((e2.trans e3).trans e4) ?_⟩
    have h3 := h2.norm
    revert h h3
    cases argN r1 with
    | ro xs => intro h h3; cases h; exact h3
    | dat d => intro h; cases h
    | lst xs => intro h; cases h
    | new xs => intro h; cases h
  · cases h
/-! ### xs.index(text) -/
def txtD : D → Bool
  | .str _ => true
  | _ => false
def strIx (z : Str) : List D → Option Nat
  | [] => none
  | .str y :: r => if y = z then some 0 else (strIx z r).map (· + 1)
  | _ :: _ => none
def mIdx (f g : ME) : ME := fun ρ => (asLst (f ρ)).bind fun xs => (asStr (g ρ)).bind fun z => if xs.all txtD = true then (strIx z xs).map fun j => .dat (.int (j : Nat)) else none
theorem strIx_is {K : PySem.W.Frag} {H : Hp} {z : Str} : ∀ {vs : List V} {xs : List D} {j : Nat}, DenL K H vs xs → strIx z xs = some j → (∃ v, vs[j]? = some v ∧ eqV v (.str z) = true) ∧ ∀ m v, m < j → vs[m]? = some v → eqV v (.str z) = false
  | _, _, _, .nil, h => by cases h
  | _, _, j, .cons hd t, h => by
    cases hd with
    | str y =>
      unfold strIx at h
      by_cases e : y = z
      · rw [if_pos e] at h
        cases h
        subst e
        exact ⟨⟨_, rfl, by show (y == y) = true; exact beq_self_eq_true _⟩, fun m v hm => absurd hm (Nat.not_lt_zero _)⟩
      · rw [if_neg e] at h
        obtain ⟨k, hk, h⟩ := Option.map_eq_some_iff.mp h
        subst h
        obtain ⟨⟨v, h1, h2⟩, h3⟩ := strIx_is t hk
        refine ⟨⟨v, h1, h2⟩, fun m v hm hv => ?_⟩
        cases m with
        | zero =>
          cases hv
          show (y == z) = false
          exact beq_false_of_ne e
        | succ m => exact h3 m v (by omega) hv
    | non => cases h
    | bl => cases h
    | int => cases h
    | tup _ _ => cases h
    | dic _ _ => cases h
theorem flat_txt {K : PySem.W.Frag} {H : Hp} : ∀ {vs : List V} {xs : List D}, DenL K H vs xs → xs.all txtD = true → vs.all flatV = true
  | _, _, .nil, _ => rfl
  | _, _, .cons hd t, h => by
    rw [List.all_cons, Bool.and_eq_true] at h
    rw [List.all_cons, flat_txt t h.2]
    cases hd with
    | str y => rfl
    | non => exact absurd h.1 (by decide)
    | bl => exact absurd h.1 (by intro z; cases z)
    | int => exact absurd h.1 (by intro z; cases z)
    | tup _ _ => exact absurd h.1 (by intro z; cases z)
    | dic _ _ => exact absurd h.1 (by intro z; cases z)
theorem x_idx (ha : JE X a f1) (hb : JE X b f2) (hst : starEach (b :: []) X.env = (false, eval b X.env) :: starEach [] X.env := by rfl)
    (hpe : ∀ to ta, PE X a to → PA X [b] ta → PE X (.Call (.Attribute a "index" p2) [b] [] p3) (tBM X.K "list" (rIndex X.K) to ta) := by exact fun _ _ h1 h2 => pe_bm PySem.F.plainAttrs_list PySem.F.slot_list_index PySem.F.type_list_index mt_index h1 h2) :
    JE X (.Call (.Attribute a "index" p2) [b] [] p3) (mIdx f1 f2) := by
  obtain ⟨ta, pa, va⟩ := ha
  obtain ⟨tb, pb, vb⟩ := hb
  refine ⟨_, hpe _ _ pa (pa_cons pb pa_nil hst), fun H0 σ H ρ r ok h => ?_⟩
  unfold mIdx at h
  obtain ⟨xs, hx, h⟩ := Option.bind_eq_some_iff.mp h
  obtain ⟨z, hz, h⟩ := Option.bind_eq_some_iff.mp h
  split at h
  · rename_i hal
    obtain ⟨j, hj, h⟩ := Option.map_eq_some_iff.mp h
    subst h
    intro H1 e1 Q q
    refine ev_lst hx (fun r hr => va _ _ _ _ _ ok hr) H1 e1 _ fun v H2 e2 ⟨l, vs, hv, hl, hdn⟩ => ?_
    subst hv
    refine ⟨.inl ⟨rfl, _, hl⟩, ?_⟩
    refine (vb _ _ _ _ _ ok (asStr_some hz)).str H2 (e1.trans e2) _ fun H3 e3 => ?_
    obtain ⟨⟨w, h1, h2⟩, h3⟩ := strIx_is (hdn.ex e3) hj
    exact ⟨l, vs, .str z, j, w, rfl, rfl, ex_l e3 hl, rfl, flat_txt (hdn.ex e3) hal, h1, h2, h3, q _ H3 (e2.trans e3) (.int _)⟩
  · cases h
end
end
end Tl

namespace Tl
open PySem PySem.Spec PyProof.Rows L2 Evl
noncomputable section
/-! ### what a good row is worth -/
theorem read_bd : ∀ {ps : List Pl} {hs : List Int} (a : Int × Bool) (k : Nat), Fit ps hs → 0 ≤ a.1 → a.1 < 10 ^ k → 0 ≤ (readL ps hs a).1 ∧ (readL ps hs a).1 < 10 ^ (k + nFig ps)
  | _, _, a, k, .nil, h0, h1 => ⟨h0, h1⟩
  | _, _, a, k, .cons (p := p) (h := h) (ps := ps) (hs := hs) r t, h0, h1 => by
    show 0 ≤ (readL ps hs (stepR a (p, h))).1 ∧ (readL ps hs (stepR a (p, h))).1 < _
    cases p with
    | fig =>
      have r' : 0 ≤ h ∧ h ≤ 9 := r
      have ih := read_bd (stepR a (.fig, h)) (k + 1) t (by show 0 ≤ 10 * a.1 + h; omega) (by show 10 * a.1 + h < 10 ^ (k + 1); rw [Int.pow_succ]; omega)
      show _ ∧ _ < (10 : Int) ^ (k + (nFig ps + 1))
      rw [show k + (nFig ps + 1) = k + 1 + nFig ps by omega]
      exact ih
    | sign => exact read_bd (stepR a (.sign, h)) k t h0 h1
    | ahead => exact read_bd a k t h0 h1
    | zone => exact read_bd a k t h0 h1
theorem read_nosign : ∀ (ps : List Pl) (hs : List Int) (a : Int × Bool), hasSign ps = false → (readL ps hs a).2 = a.2
  | [], _, _, _ => rfl
  | _ :: _, [], _, _ => rfl
  | .fig :: t, h :: hs, a, e => read_nosign t hs _ e
  | .sign :: t, h :: hs, a, e => by cases e
  | .ahead :: t, h :: hs, a, e => read_nosign t hs _ e
  | .zone :: t, h :: hs, a, e => read_nosign t hs _ e
def once : List Pl → Bool
  | [] => true
  | .sign :: t => !hasSign t
  | _ :: t => once t
theorem once_append : ∀ ps qs : List Pl, hasSign ps = false → once (ps ++ qs) = once qs
  | [], qs, _ => rfl
  | .fig :: t, qs, e => once_append t qs e
  | .sign :: t, qs, e => by cases e
  | .ahead :: t, qs, e => once_append t qs e
  | .zone :: t, qs, e => once_append t qs e
theorem sign_at : ∀ (ps : List Pl) (hs : List Int), ps.length = hs.length → hasSign ps = true → once ps = true → ∃ j h, strIx "sign" (ps.map plD) = some j ∧ hs[j]? = some h ∧ ∀ a, (readL ps hs a).2 = (decide (h = 11) || decide (h = 13))
  | [], _, _, e, _ => by cases e
  | _ :: _, [], e, _, _ => by cases e
  | .sign :: t, h :: hs, _, _, o => ⟨0, h, rfl, rfl, fun a => read_nosign t hs _ (by simpa [once] using o)⟩
  | .fig :: t, h :: hs, l, e, o => by
    obtain ⟨j, g, h1, h2, h3⟩ := sign_at t hs (by simpa using l) e o
    refine ⟨j + 1, g, ?_, h2, fun a => h3 _⟩
    show (if ("figure" : Str) = "sign" then some 0 else (strIx "sign" (t.map plD)).map (· + 1)) = _
    rw [if_neg (show ¬ ("figure" : Str) = "sign" by decide), h1]
    rfl
  | .ahead :: t, h :: hs, l, e, o => by
    obtain ⟨j, g, h1, h2, h3⟩ := sign_at t hs (by simpa using l) e o
    refine ⟨j + 1, g, ?_, h2, fun a => h3 _⟩
    show (if ("ahead" : Str) = "sign" then some 0 else (strIx "sign" (t.map plD)).map (· + 1)) = _
    rw [if_neg (show ¬ ("ahead" : Str) = "sign" by decide), h1]
    rfl
  | .zone :: t, h :: hs, l, e, o => by
    obtain ⟨j, g, h1, h2, h3⟩ := sign_at t hs (by simpa using l) e o
    refine ⟨j + 1, g, ?_, h2, fun a => h3 _⟩
    show (if ("zone" : Str) = "sign" then some 0 else (strIx "sign" (t.map plD)).map (· + 1)) = _
    rw [if_neg (show ¬ ("zone" : Str) = "sign" by decide), h1]
    rfl
theorem packedP_once (n : Nat) (e : Bool) : once (packedP n e) = true := by
  unfold packedP
  rw [once_append _ _ (by split <;> rfl), once_append _ _ (hasSign_rep n)]
  cases e <;> rfl
theorem spreadP_once (n : Nat) (e : Bool) : once (spreadP n e) = true := by
  unfold spreadP
  cases e with
  | true =>
    show once ((List.replicate (n - 1) [Pl.zone, Pl.fig]).flatten ++ [.sign, .fig]) = true
    rw [once_append _ _ (hasSign_zones _)]
    rfl
  | false =>
    show once (List.replicate n [Pl.zone, Pl.fig]).flatten = true
    have h := once_append (List.replicate n [Pl.zone, Pl.fig]).flatten [] (hasSign_zones _)
    rw [List.append_nil] at h
    exact h
theorem txt_pl (ps : List Pl) : (ps.map plD).all txtD = true := by
  rw [List.all_map]
  exact List.all_eq_true.mpr fun p _ => rfl
/-- a fit from the look -/
theorem fit_of : ∀ (ps : List Pl) (hs : List Int) (k : Nat), ps.length = hs.length → amiss k ps hs = none → Fit ps hs
  | [], [], _, _, _ => .nil
  | [], _ :: _, _, e, _ => by cases e
  | _ :: _, [], _, e, _ => by cases e
  | p :: ps, h :: hs, k, l, e => by
    unfold amiss at e
    split at e
    · rename_i r
      exact .cons r (fit_of ps hs (k + 1) (by simpa using l) e)
    · cases e
theorem set_bd {hs : List Int} {j : Nat} {v : Int} (h : ∀ x ∈ hs, 0 ≤ x ∧ x < 16) (hv : 0 ≤ v ∧ v < 16) : ∀ x ∈ hs.set j v, 0 ≤ x ∧ x < 16 := by
  intro x hx
  rcases List.mem_or_eq_of_mem_set hx with z | z
  · exact h x z
  · subst z; exact hv
theorem ixN_in {n : Nat} {i : Int} (h0 : 0 ≤ i) (h1 : i < n) : ixN n i = some i.toNat := by
  unfold ixN
  rw [if_pos h0, if_pos h1]
end
end Tl

namespace Tl
open PySem PySem.Spec PyProof.Rows L2 Evl
noncomputable section
/-! ### draws by their places; slices -/
theorem Drawn.get : ∀ {ds ws : List Int} {i : Nat} {w : Int}, Drawn ds ws → ws[i]? = some w → ∃ d, ds[i]? = some d ∧ 0 ≤ d ∧ d < w
  | _, _, 0, _, .cons a b _, e => by cases e; exact ⟨_, rfl, a, b⟩
  | _, _, i + 1, _, .cons _ _ t, e => t.get (i := i) e
  | _, _, _, _, .nil, e => by cases e
theorem Drawn.drop : ∀ {ds ws : List Int} (k : Nat), Drawn ds ws → Drawn (ds.drop k) (ws.drop k)
  | _, _, 0, h => h
  | _, _, k + 1, .nil => .nil
  | _, _, k + 1, .cons _ _ t => t.drop k
theorem Drawn.all {c : Int} : ∀ {ds ws : List Int}, Drawn ds ws → (∀ w ∈ ws, w = c) → ∀ d ∈ ds, 0 ≤ d ∧ d < c
  | _, _, .nil, _, d, h => by cases h
  | _, _, .cons (d := d0) (w := w) (ws := ws) a b t, hw, d, h => by
    have ew : w = c := hw w (by simp)
    rcases List.mem_cons.mp h with e | h
    · subst e; exact ⟨a, by omega⟩
    · exact t.all (fun v hv => hw v (by simp [hv])) d h
theorem cutD_map {α β : Type} (f : α → β) (xs : List α) (l u : Option Int) : cutD (xs.map f) l u = (cutD xs l u).map f := by
  unfold cutD
  rw [List.length_map, List.map_take, List.map_drop]
theorem cutD_to {α : Type} (xs : List α) (k : Nat) : cutD xs none (some (k : Int)) = xs.take k := by
  unfold cutD
  rw [HT.sIx_none, HT.sIx_nat, List.drop_zero, Nat.sub_zero, List.take_eq_take_iff]
  omega
theorem cutD_part {α : Type} (xs : List α) (j k : Nat) : cutD xs (some (j : Int)) (some (k : Int)) = (xs.drop (min j xs.length)).take (min k xs.length - min j xs.length) := by
  unfold cutD
  rw [HT.sIx_nat, HT.sIx_nat]
theorem mem_take_bd {P : Int → Prop} {xs : List Int} {k : Nat} (h : ∀ x ∈ xs, P x) : ∀ x ∈ xs.take k, P x := fun x hx => h x (List.mem_of_mem_take hx)
theorem rep_flat_bd {P : Int → Prop} {xs : List Int} (h : ∀ x ∈ xs, P x) : ∀ (n : Nat), ∀ x ∈ (List.replicate n xs).flatten, P x
  | 0, x, hx => by cases hx
  | n + 1, x, hx => by
    rw [List.replicate_succ, List.flatten_cons] at hx
    rcases List.mem_append.mp hx with z | z
    · exact h x z
    · exact rep_flat_bd h n x z
theorem rep_flat_map {α β : Type} (f : α → β) (xs : List α) : ∀ n : Nat, (List.replicate n (xs.map f)).flatten = ((List.replicate n xs).flatten).map f
  | 0 => rfl
  | n + 1 => by rw [List.replicate_succ, List.flatten_cons, rep_flat_map f xs n, List.replicate_succ, List.flatten_cons, List.map_append]
end
end Tl

namespace Tl
open PySem PySem.Spec PyProof.Rows L2 Evl
noncomputable section
/-! ### while, str(n), zfill, text times number -/
def whM (t : MT) (b : MS) : Nat → Rho → Option F
  | 0, _ => none
  | n + 1, ρ => (t ρ).bind fun k => if k = true then (match b ρ with
    | some (.nx ρ') => whM t b n ρ'
    | some (.cnt ρ') => whM t b n ρ'
    | some (.brk ρ') => some (.nx ρ')
    | r => r) else some (.nx ρ)
def mWh (t : MT) (b : MS) : MS := fun ρ => whM t b 2000 ρ
theorem whM_more {t : MT} {b : MS} : ∀ (n k : Nat) (ρ : Rho) (fl : F), whM t b n ρ = some fl → whM t b (n + k) ρ = some fl
  | 0, _, _, _, h => by cases h
  | n + 1, k, ρ, fl, h => by
    rw [Nat.add_right_comm]
    unfold whM at h ⊢
    obtain ⟨c, hc, h⟩ := Option.bind_eq_some_iff.mp h
    rw [hc]
    show (if c = true then _ else _) = _
    by_cases e : c = true
    · rw [if_pos e] at h ⊢
      cases hb : b ρ with
      | none => rw [hb] at h; cases h
      | some f =>
        rw [hb] at h
        cases f with
        | nx ρ' => exact whM_more n k ρ' fl h
        | cnt ρ' => exact whM_more n k ρ' fl h
        | brk ρ' => exact h
        | ret r => exact h
        | exc c fs ρ' => exact h
        | exc0 c ρ' => exact h
    · rw [if_neg e] at h ⊢
      exact h
section
variable {X : Cx} {W : WX} {a b c e : Expr} {pos p2 p3 : Pos} {f1 f2 f3 : ME} {mb : MS} {t : MT} {body : List Stmt}
theorem s_while (hc : JT X c t) (hb : JB X W body mb) (hw : ∀ tc tb, PT X c tc → PSs X body tb → PS X (.While c body [] pos) (tWhile tc tb) := by exact fun _ _ h1 h2 => ps_while PassesOwn.never h1 h2) : JS X W (.While c body [] pos) (mWh t mb) := by
  obtain ⟨tc, pc, vc⟩ := hc
  obtain ⟨tb, pb, vb⟩ := hb
  refine ⟨_, hw _ _ pc pb, fun H0 D σ H ρ fl ok h q => ?_⟩
  refine ⟨fun m σ H => ∃ ρ, Ok X H0 σ H ρ ∧ whM t mb m ρ = some fl, ⟨2000, ρ, ok, h⟩, ?_⟩
  rintro m σ1 H1 ⟨ρ1, ok1, h1⟩
  cases m with
  | zero => cases h1
  | succ m =>
    unfold whM at h1
    obtain ⟨k, hk, h1⟩ := Option.bind_eq_some_iff.mp h1
    refine vc _ _ _ _ _ ok1 hk H1 (Ex.refl H1) _ fun H2 e2 => ?_
    cases k with
    | true =>
      rw [if_pos rfl] at h1 ⊢
      refine ⟨fun σ' H' => ∃ ρ', Ok X H0 σ' H' ρ' ∧ whM t mb m ρ' = some fl, fun σ' H' p => ⟨m, Nat.lt_succ_self m, p⟩, ?_⟩
      cases hbd : mb ρ1 with
      | none => rw [hbd] at h1; cases h1
      | some fl2 =>
        rw [hbd] at h1
        refine vb H0 _ σ1 H2 ρ1 fl2 (ok1.ex e2) hbd ?_
        cases fl2 with
        | nx ρ3 => exact fun σ3 H3 ok3 => ⟨ρ3, ok3, h1⟩
        | cnt ρ3 => exact fun σ3 H3 ok3 => ⟨ρ3, ok3, h1⟩
        | brk ρ3 => cases h1; exact q
        | ret r => cases h1; exact q
        | exc c fs ρ3 => cases h1; exact q
        | exc0 c ρ3 => cases h1; exact q
    | false =>
      rw [if_neg (show ¬ (false = true) from by decide)] at h1 ⊢
      cases h1
      exact q σ1 H2 (ok1.ex e2)
def gStr : List R → Option R
  | [.dat (.int i)] => if okP (i.natAbs.log2 < 1920) = true then some (.dat (.str (Str.ofString (toString i)))) else none
  | _ => none
def mStr (f : ME) : ME := fun ρ => (aCons f aNil ρ).bind gStr
theorem x_str1 {p : Pos} (hm : X.mg "str" = none) (ha : JE X a f1) (hg : Gl X "str" := by rfl) (hs : starEach (a :: []) X.env = (false, eval a X.env) :: starEach [] X.env := by rfl) : JE X (.Call (.Name "str" p) [a] [] pos) (mStr f1) := by
  refine x_bltT call_str_int hg hm (by decide +kernel) (g := gStr) (fun rs vs H q Q h g k => ?_) (a_cons ha a_nil hs) (he := hs)
  unfold gStr at h
  split at h
  · rename_i i
    split at h
    · rename_i hz
      cases h
      cases g with
      | cons g1 g2 =>
        cases g2
        have g1 : Den X.K H _ (.int i) := g1
        cases g1
        exact ⟨i, rfl, okP_of hz, k _ H (Ex.refl H) (.str _)⟩
    · cases h
  · cases h
def mZf (f g : ME) : ME := fun ρ => (asStr (f ρ)).bind fun z => (asInt (g ρ)).bind fun i => if okP (0 ≤ i ∧ i ≤ 1000) = true then some (.dat (.str (Txt.zfill z i))) else none
theorem padOk {i : Int} (h : 0 ≤ i ∧ i ≤ 1000) : PadOk i = true := by
  have e : ∀ n : Nat, n ≤ 1000 → PadOk (n : Int) = true := by decide +kernel
  have := e i.toNat (by omega)
  rw [Int.toNat_of_nonneg h.1] at this
  exact this
theorem x_zf (ha : JE X a f1) (hb : JE X b f2) (hst : starEach [b] X.env = [(false, eval b X.env)] := by rfl)
    (hpe : ∀ to te, PE X a to → PE X b te → PE X (.Call (.Attribute a "zfill" p2) [b] [] p3) (tM1 (fun x xs H Q => ∃ (a : Str) (i : Int), x = .str a ∧ xs = [.int i] ∧ PadOk i = true ∧ Q (.str (Txt.zfill a i)) H) to te) := by exact fun _ _ h1 h2 => pe_m1 PySem.F.slot_str_zfill PySem.F.type_str_zfill mt_zfill h1 h2) :
    JE X (.Call (.Attribute a "zfill" p2) [b] [] p3) (mZf f1 f2) := by
  obtain ⟨ta, pa, va⟩ := ha
  obtain ⟨tb, pb, vb⟩ := hb
  refine ⟨_, hpe _ _ pa pb, fun H0 σ H ρ r ok h => ?_⟩
  unfold mZf at h
  obtain ⟨z, hz, h⟩ := Option.bind_eq_some_iff.mp h
  obtain ⟨i, hi, h⟩ := Option.bind_eq_some_iff.mp h
  split at h
  · rename_i hk
    cases h
    intro H1 e1 Q q
    refine (va _ _ _ _ _ ok (asStr_some hz)).str H1 e1 _ fun H2 e2 => ⟨⟨z, rfl⟩, ?_⟩
    refine (vb _ _ _ _ _ ok (asInt_some hi)).int H2 (e1.trans e2) _ fun H3 e3 => ?_
    exact ⟨z, i, rfl, rfl, padOk (okP_of hk), q _ H3 (e2.trans e3) (.str _)⟩
  · cases h
def mRepS (f g : ME) : ME := fun ρ => (asStr (f ρ)).bind fun z => (asInt (g ρ)).bind fun i => if okP (0 ≤ i ∧ i ≤ 1) = true then some (.dat (.str (if i = 0 then Str.empty else z))) else none
theorem op_repS : OpR X (binaryOp .Mult) (fun x y H Q => ∃ (z : Str) (i : Int), x = .str z ∧ y = .int i ∧ 0 ≤ i ∧ i ≤ 1 ∧ Q (.str (if i = 0 then Str.empty else z)) H) := by
  intro pins s σ H x y v u Q I rx ry h
  obtain ⟨z, i, rfl, rfl, h0, h1, h⟩ := h
  obtain ⟨t, rfl⟩ := rx
  obtain ⟨t', rfl⟩ := ry
  refine PySem.SB.mul ⟨?_, fun a b => ?_, fun a b => ?_⟩ fun t' k => ⟨.str (if i = 0 then Str.empty else z), H, I.tok _, ⟨t', ?_⟩, h⟩
  · rw [Bool.or_eq_false_iff, decide_eq_false_iff_not, decide_eq_false_iff_not]
    have e : (2 ^ 63 : Int) = 9223372036854775808 := by decide
    omega
  · have e : i = 1 := by omega
    subst e
    cases b
  · have e : i = 1 := by omega
    subst e
    cases b
  · unfold Txt.mul
    have e : i = 0 ∨ i = 1 := by omega
    rcases e with e | e
    · subst e; rfl
    · subst e; rfl
theorem x_repS (ha : JE X a f1) (hb : JE X b f2) : JE X (.BinOp a .Mult b pos) (mRepS f1 f2) := by
  obtain ⟨ta, pa, va⟩ := ha
  obtain ⟨tb, pb, vb⟩ := hb
  refine ⟨_, pe_op op_repS pa pb, fun H0 σ H ρ r ok h => ?_⟩
  unfold mRepS at h
  obtain ⟨z, hz, h⟩ := Option.bind_eq_some_iff.mp h
  obtain ⟨i, hi, h⟩ := Option.bind_eq_some_iff.mp h
  split at h
  · rename_i hk
    cases h
    have hk := okP_of hk
    intro H1 e1 Q q
    refine (va _ _ _ _ _ ok (asStr_some hz)).str H1 e1 _ fun H2 e2 => ?_
    refine (vb _ _ _ _ _ ok (asInt_some hi)).int H2 (e1.trans e2) _ fun H3 e3 => ?_
    exact ⟨z, i, rfl, rfl, hk.1, hk.2, q _ H3 (e2.trans e3) (.str _)⟩
  · cases h
end
end
end Tl

namespace Tl
open PySem PySem.Spec PyProof.Rows L2 Evl TL
/-! ### texts as lists of signs -/
def S (l : List Nat) : Str := ⟨l.toArray⟩
theorem S_cps (l : List Nat) : (S l).cps.toList = l := rfl
theorem S_len (l : List Nat) : (S l).length = l.length := by show l.toArray.size = _; simp
theorem S_of (x : Str) : x = S x.cps.toList := rfl
theorem S_app (l m : List Nat) : S l ++ S m = S (l ++ m) := by
  show (⟨l.toArray ++ m.toArray⟩ : Str) = ⟨(l ++ m).toArray⟩
  simp
theorem S_one (c : Nat) : (⟨#[c]⟩ : Str) = S [c] := rfl
theorem S_nil : (Str.empty : Str) = S [] := rfl
theorem S_inj {l m : List Nat} (h : S l = S m) : l = m := by
  have := congrArg (fun x : Str => x.cps.toList) h
  exact this
theorem S_ext {x : Str} {l : List Nat} (h : x.cps.toList = l) : x = S l := by rw [← h]; rfl
theorem S_str (s : String) : Str.ofString s = S (s.toList.map Char.toNat) := S_ext (PyProof.Rows.signs_ofString s)
theorem len_S (x : Str) : x.length = x.cps.toList.length := by
  show x.cps.size = _
  rw [Array.length_toList]
theorem cut_lo (l : List Nat) (k : Nat) : cutS (S l) none (some (k : Int)) = S (l.take k) := by
  unfold cutS
  rw [HT.sIx_none, HT.sIx_nat, S_len, S_cps, List.drop_zero, Nat.sub_zero]
  show S _ = S _
  congr 1
  rw [List.take_eq_take_iff]
  omega
theorem cut_hi (l : List Nat) (k : Nat) : cutS (S l) (some (k : Int)) none = S (l.drop k) := by
  unfold cutS
  rw [HT.sIx_none, HT.sIx_nat, S_len, S_cps]
  show S _ = S _
  congr 1
  by_cases h : k ≤ l.length
  · rw [Nat.min_eq_left h]
    exact List.take_of_length_le (by rw [List.length_drop]; exact Nat.le_refl _)
  · rw [Nat.min_eq_right (by omega), List.drop_eq_nil_of_le (Nat.le_refl _), List.drop_eq_nil_of_le (by omega)]
    simp
theorem sIx_neg (n d k : Nat) (h : 0 < k) : HT.sIx n d (some (-(k : Int))) = n - k := by
  show (if -(k : Int) < 0 then (-(k : Int) + (n : Int)).toNat else _) = _
  rw [if_pos (by omega)]
  omega
theorem cut_loN (l : List Nat) (k : Nat) (h : 0 < k) : cutS (S l) none (some (-(k : Int))) = S (l.take (l.length - k)) := by
  unfold cutS
  rw [HT.sIx_none, sIx_neg _ _ _ h, S_len, S_cps, List.drop_zero, Nat.sub_zero]
  rfl
theorem cut_hiN (l : List Nat) (k : Nat) (h : 0 < k) : cutS (S l) (some (-(k : Int))) none = S (l.drop (l.length - k)) := by
  unfold cutS
  rw [HT.sIx_none, sIx_neg _ _ _ h, S_len, S_cps]
  show S _ = S _
  congr 1
  exact List.take_of_length_le (by rw [List.length_drop]; exact Nat.le_refl _)
theorem dig_at {d : Nat} (h : d < 10) : atI ("0123456789" : Str).cps.toList (d : Int) = some (48 + d) := by
  have : ∀ d : Nat, d < 10 → atI ("0123456789" : Str).cps.toList (d : Int) = some (48 + d) := by decide +kernel
  exact this d h
theorem num_S (n : Nat) : Str.ofString (toString ((n : Nat) : Int)) = S (numL n) := S_ext (tl_num n)
/-- n with noughts ahead to k figures -/
def padL (n k : Nat) : List Nat := List.replicate (k - (numL n).length) 48 ++ numL n
theorem zfill_S (n k : Nat) : Txt.zfill (S (numL n)) (k : Int) = S (padL n k) := by
  unfold Txt.zfill padL
  rw [S_len]
  by_cases h : (k : Int) ≤ ((numL n).length : Int)
  · rw [if_pos h, show k - (numL n).length = 0 by omega]
    rfl
  · rw [if_neg h, Int.toNat_natCast]
    have e0 : (S (numL n)).cps[0]? = (numL n)[0]? := by
      show (numL n).toArray[0]? = _
      simp
    unfold zfilled
    rw [e0]
    cases hn : numL n with
    | nil => exact absurd hn (numL_ne n)
    | cons c cs =>
      have hc := numL_digits n c (by rw [hn]; exact List.mem_cons_self ..)
      rw [List.getElem?_cons_zero]
      split
      · rename_i e; cases e; omega
      · rename_i e; cases e; omega
      · show (⟨_⟩ : Str) = ⟨_⟩
        congr 1
        show _ ++ (c :: cs).toArray ++ _ = _
        simp
/-- the figures of n, and noughts ahead to k figures, one by one -/
def figW : Nat → Nat → Nat → List Nat
  | 0, _, _ => []
  | f + 1, n, k => if 0 < n ∨ 0 < k then figW f (n / 10) (k - 1) ++ [48 + n % 10] else []
theorem figW_0 : ∀ f : Nat, figW f 0 0 = []
  | 0 => rfl
  | f + 1 => by unfold figW; rw [if_neg (by omega)]
theorem figW_pad : ∀ (f n k : Nat), n < 10 ^ f → k ≤ f → (0 < n ∨ 0 < k) → figW f n k = padL n k
  | 0, n, k, h1, h2, h3 => by
    have : (10 : Nat) ^ 0 = 1 := rfl
    omega
  | f + 1, n, k, h1, h2, h3 => by
    unfold figW
    rw [if_pos h3]
    by_cases h : n < 10
    · have e1 : n / 10 = 0 := by omega
      have e2 : n % 10 = n := by omega
      rw [e1, e2]
      by_cases hk : 1 < k
      · rw [figW_pad f 0 (k - 1) (Nat.pow_pos (by decide)) (by omega) (.inr (by omega))]
        unfold padL
        rw [numL_lt h, numL_lt (show 0 < 10 by decide)]
        show List.replicate (k - 1 - 1) 48 ++ [48] ++ [48 + n] = List.replicate (k - 1) 48 ++ [48 + n]
        congr 1
        rw [show k - 1 = (k - 1 - 1) + 1 by omega, List.replicate_succ']
        rfl
      · rw [show k - 1 = 0 by omega, figW_0]
        unfold padL
        rw [numL_lt h]
        show [] ++ [48 + n] = List.replicate (k - 1) 48 ++ [48 + n]
        rw [show k - 1 = 0 by omega]
        rfl
    · have e10 : (10 : Nat) ^ (f + 1) = 10 * 10 ^ f := by rw [Nat.pow_succ, Nat.mul_comm]
      rw [figW_pad f (n / 10) (k - 1) (by omega) (by omega) (.inl (by omega))]
      unfold padL
      rw [numL_step (n := n) (by omega), List.length_append, List.append_assoc]
      congr 2
      show _ = k - ((numL (n / 10)).length + 1)
      omega
theorem padL_len (n k : Nat) : k ≤ (padL n k).length := by
  unfold padL
  rw [List.length_append, List.length_replicate]
  omega
theorem log_small {n : Nat} (h : n < 10 ^ 60) : n.log2 < 1920 := by
  have h2 : n < 2 ^ 400 := Nat.lt_of_lt_of_le h (by decide +kernel)
  exact Nat.lt_of_lt_of_le (PySem.Flt.log2_lt_of (by decide) h2) (by decide)
end Tl

namespace Tl
open PySem PySem.Spec PyProof.Rows L2 Evl
noncomputable section
/-! ### an exception handed to a def -/
abbrev MirE := Str → List (Str × D) → Option D
def outE : Option F → Option D
  | some (.ret (.dat d)) => some d
  | _ => none
def mDefE (n : Nat) (b : MS) : MirE := fun c fs => outE (b (.exc c fs :: List.replicate (n - 1) .un))
end
end Tl

namespace Tl
open PySem PySem.Spec PyProof.Rows L2 Evl
noncomputable section
/-! ### the classes that an exception may be of -/
theorem is_nil {K : PySem.W.Frag} {mg : Str → Option Value} {cv : Value} : ∀ c b, ([] : List (Str × Bool)).lookup c = some b → ∃ C, ExK K mg c C ∧ PySem.W.kitOne K (.ref C) cv = some b := fun _ _ h => by cases h
theorem is_cons {K : PySem.W.Frag} {mg : Str → Option Value} {cv : Value} {c0 : Str} {b0 : Bool} {C0 : Addr} {r : List (Str × Bool)} (q : ExK K mg c0 C0) (k : PySem.W.kitOne K (.ref C0) cv = some b0) (t : ∀ c b, r.lookup c = some b → ∃ C, ExK K mg c C ∧ PySem.W.kitOne K (.ref C) cv = some b) :
    ∀ c b, ((c0, b0) :: r).lookup c = some b → ∃ C, ExK K mg c C ∧ PySem.W.kitOne K (.ref C) cv = some b := fun c b h => by
  rw [List.lookup_cons] at h
  cases e : (c == c0) with
  | true =>
    rw [e] at h
    cases h
    have e := eq_of_beq e
    subst e
    exact ⟨C0, q, k⟩
  | false =>
    rw [e] at h
    exact t c b h
theorem kit_ty {K : PySem.W.Frag} {C : Addr} {b : Bool} {t : String} (hm : PySem.W.kitMeta t = true) (s : PySem.W.subIn K (.ref C) (.type t) = some b) : PySem.W.kitOne K (.ref C) (.type t) = some b := by
  unfold PySem.W.kitOne PySem.W.kitCls
  rw [if_neg (show ¬ ((Value.ref C == Value.type t) = true) from fun z => by cases (eq_of_beq z))]
  show (if PySem.W.kitMeta t = true then PySem.W.subIn K (.ref C) (.type t) else none) = some b
  rw [if_pos hm]
  exact s
theorem fl_nil {K : PySem.W.Frag} {mg : Str → Option Value} {f : Str} : ∀ c ∈ ([] : List Str), ∃ C, ExK K mg c C ∧ PySem.W.findIn K (.ref C) f = some none := fun _ h => by cases h
theorem fl_cons {K : PySem.W.Frag} {mg : Str → Option Value} {f c0 : Str} {C0 : Addr} {r : List Str} (q : ExK K mg c0 C0) (k : PySem.W.findIn K (.ref C0) f = some none) (t : ∀ c ∈ r, ∃ C, ExK K mg c C ∧ PySem.W.findIn K (.ref C) f = some none) :
    ∀ c ∈ (c0 :: r), ∃ C, ExK K mg c C ∧ PySem.W.findIn K (.ref C) f = some none := fun c h => by
  rcases List.mem_cons.mp h with e | h
  · subst e; exact ⟨C0, q, k⟩
  · exact t c h
theorem mt_nil {X : Cx} {Ch : Value} : ∀ c b C, ([] : List (Str × Bool)).lookup c = some b → X.mg c = some (.ref C) → PySem.W.exmOne X.K (.ref C) Ch = some b := fun _ _ _ h => by cases h
theorem mt_cons {X : Cx} {Ch : Value} {c0 : Str} {b0 : Bool} {C0 : Addr} {r : List (Str × Bool)} (g0 : X.mg c0 = some (.ref C0)) (k : PySem.W.exmOne X.K (.ref C0) Ch = some b0) (t : ∀ c b C, r.lookup c = some b → X.mg c = some (.ref C) → PySem.W.exmOne X.K (.ref C) Ch = some b) :
    ∀ c b C, ((c0, b0) :: r).lookup c = some b → X.mg c = some (.ref C) → PySem.W.exmOne X.K (.ref C) Ch = some b := fun c b C h hg => by
  rw [List.lookup_cons] at h
  cases e : (c == c0) with
  | true =>
    rw [e] at h
    cases h
    have e := eq_of_beq e
    subst e
    rw [g0] at hg
    cases hg
    exact k
  | false =>
    rw [e] at h
    exact t c b C h hg
/-! ### join, split, divmod, a call of no arguments -/
def strsOf : List D → Option (List Str)
  | [] => some []
  | .str x :: xs => (strsOf xs).map fun ys => x :: ys
  | _ => none
theorem strsOf_map : ∀ ys : List Str, strsOf (ys.map D.str) = some ys
  | [] => rfl
  | y :: ys => by
    show (strsOf (ys.map D.str)).map _ = _
    rw [strsOf_map ys]
    rfl
theorem strsOf_is : ∀ {xs : List D} {ys : List Str}, strsOf xs = some ys → xs = ys.map D.str
  | [], _, h => by cases h; rfl
  | .str x :: xs, ys, h => by
    obtain ⟨zs, h1, h2⟩ := Option.map_eq_some_iff.mp (show (strsOf xs).map _ = some ys from h)
    subst h2
    rw [strsOf_is h1]
    rfl
  | .non :: _, _, h => by cases h
  | .bl _ :: _, _, h => by cases h
  | .int _ :: _, _, h => by cases h
  | .tup _ :: _, _, h => by cases h
  | .dic _ :: _, _, h => by cases h
def mJoin (f g : ME) : ME := fun ρ => (asStr (f ρ)).bind fun z => (asLst (g ρ)).bind fun xs => (strsOf xs).bind fun ys => if szOk ((ys.map (·.length)).sum + ys.length * z.length) = true then some (.dat (.str (Txt.join z ys))) else none
def mSplit (f g : ME) : ME := fun ρ => (asStr (f ρ)).bind fun z => (asStr (g ρ)).bind fun y => if (okP (y.length ≠ 0) && szOk (z.length + 2)) = true then some (.new ((Txt.split z y).map .str)) else none
section
variable {X : Cx} {W : WX} {a b c e : Expr} {pos p p2 p3 : Pos} {f1 f2 f3 : ME} {es : List Expr} {ma : MA}
theorem x_join (ha : JE X a f1) (hb : JE X b f2) (hst : starEach [b] X.env = [(false, eval b X.env)] := by rfl)
    (hpe : ∀ to te, PE X a to → PE X b te → PE X (.Call (.Attribute a "join" p2) [b] [] p3) (tM1 (fun x xs H Q => ∃ a p, ∃ ys : List Str, x = .str a ∧ xs = [.ref p] ∧ (SqL X.K H p (ys.map V.str) ∨ SqT X.K H p (ys.map V.str)) ∧ (ys.map (·.length)).sum + ys.length * a.length ≤ 16777216 ∧ Q (.str (Txt.join a ys)) H) to te) := by exact fun _ _ h1 h2 => pe_join h1 h2) :
    JE X (.Call (.Attribute a "join" p2) [b] [] p3) (mJoin f1 f2) := by
  obtain ⟨ta, pa, va⟩ := ha
  obtain ⟨tb, pb, vb⟩ := hb
  refine ⟨_, hpe _ _ pa pb, fun H0 σ H ρ r ok h => ?_⟩
  unfold mJoin at h
  obtain ⟨z, hz, h⟩ := Option.bind_eq_some_iff.mp h
  obtain ⟨xs, hx, h⟩ := Option.bind_eq_some_iff.mp h
  obtain ⟨ys, hy, h⟩ := Option.bind_eq_some_iff.mp h
  split at h
  · rename_i hk
    cases h
    have hk : _ ≤ 100000 := okP_of hk
    intro H1 e1 Q q
    refine (va _ _ _ _ _ ok (asStr_some hz)).str H1 e1 _ fun H2 e2 => ⟨⟨z, rfl⟩, ?_⟩
    refine ev_lst hx (fun r hr => vb _ _ _ _ _ ok hr) H2 (e1.trans e2) _ fun v H3 e3 ⟨l, vs, hv, hl, hdn⟩ => ?_
    subst hv
    rw [strsOf_is hy] at hdn
    have ev := DenL.strs hdn
    subst ev
    exact ⟨z, l, ys, rfl, rfl, .inl hl, by omega, q _ H3 (e2.trans e3) (.str _)⟩
  · cases h
theorem x_split (ha : JE X a f1) (hb : JE X b f2) (hst : starEach [b] X.env = [(false, eval b X.env)] := by rfl)
    (hpe : ∀ to te, PE X a to → PE X b te → PE X (.Call (.Attribute a "split" p2) [b] [] p3) (tM1 (fun x xs H Q => ∃ a b, x = .str a ∧ xs = [.str b] ∧ (b.length == 0) = false ∧ a.length + 2 ≤ sizeLine ∧ rNewStrs (Txt.split a b) H Q) to te) := by exact fun _ _ h1 h2 => pe_split h1 h2) :
    JE X (.Call (.Attribute a "split" p2) [b] [] p3) (mSplit f1 f2) := by
  obtain ⟨ta, pa, va⟩ := ha
  obtain ⟨tb, pb, vb⟩ := hb
  refine ⟨_, hpe _ _ pa pb, fun H0 σ H ρ r ok h => ?_⟩
  unfold mSplit at h
  obtain ⟨z, hz, h⟩ := Option.bind_eq_some_iff.mp h
  obtain ⟨y, hy, h⟩ := Option.bind_eq_some_iff.mp h
  split at h
  · rename_i hk
    cases h
    rw [Bool.and_eq_true] at hk
    have hk1 := okP_of hk.1
    intro H1 e1 Q q
    refine (va _ _ _ _ _ ok (asStr_some hz)).str H1 e1 _ fun H2 e2 => ⟨⟨z, rfl⟩, ?_⟩
    refine (vb _ _ _ _ _ ok (asStr_some hy)).str H2 (e1.trans e2) _ fun H3 e3 => ?_
    refine ⟨z, y, rfl, rfl, by simpa using hk1, szOk_of hk.2, fun u nu => ?_⟩
    refine q _ _ ((e2.trans e3).trans (Ex.new nu)) ⟨u, _, rfl, fresh_back (e2.trans e3) nu, upd_same, ?_⟩
    have den : ∀ l : List Str, DenL X.K (upd H3 u (.lst ((Txt.split z y).map V.str))) (l.map V.str) (l.map D.str) := fun l => by
      induction l with
      | nil => exact .nil
      | cons t l ih => exact .cons (.str t) ih
    exact den _
  · cases h
def gDm : List R → Option R
  | [.dat (.int i), .dat (.int j)] => if cDiv i j = true then some (.dat (.tup [.int (i / j), .int (i % j)])) else none
  | _ => none
def mDm (f g : ME) : ME := fun ρ => (aCons f (aCons g aNil) ρ).bind gDm
theorem x_dm (hm : X.mg "divmod" = none) (ha : JE X a f1) (hb : JE X b f2) (hg : Gl X "divmod" := by rfl) (hs : starEach (a :: [b]) X.env = (false, eval a X.env) :: starEach [b] X.env := by rfl) (hs2 : starEach (b :: []) X.env = (false, eval b X.env) :: starEach [] X.env := by rfl)
    (hpl : (backTo pos (starEach [b] X.env)).any (·.1) = false := by rfl) : JE X (.Call (.Name "divmod" p) [a, b] [] pos) (mDm f1 f2) := by
  refine x_blt call_divmodW hg hm (by decide +kernel) (g := gDm) (fun rs vs H q Q h g k => ?_) (a_cons ha (a_cons hb a_nil hs2) hs) (he := hs) (hpl := hpl)
  unfold gDm at h
  split at h
  · rename_i i j
    split at h
    · rename_i hz
      have hz := okP_of hz
      cases h
      cases g with
      | cons g1 g2 =>
        cases g2 with
        | cons g2 g3 =>
          cases g3
          have g1 : Den X.K H _ (.int i) := g1
          have g2 : Den X.K H _ (.int j) := g2
          cases g1
          cases g2
          refine ⟨i, j, rfl, ⟨hz.1, PyProof.noPylong_of_log2 hz.2⟩, fun u nu => k _ _ (Ex.new nu) ?_⟩
          exact Den.tup (.inl (.inl upd_same)) (.cons (.int _) (.cons (.int _) .nil))
    · cases h
  · cases h
def mCall0 (m : Mir) : ME := fun _ => m []
theorem x_cal0 {x : Str} {k : Nat} {m : Mir} (h : Cal X.prog X.w X.K X.mg X.base x k m) (hr : Room k X.A) (hg : Gl X x := by rfl) (hdb : (x == ("__debug__" : Str)) = false := by decide) : JE X (.Call (.Name x p) [] [] pos) (mCall0 m) := by
  obtain ⟨f, fd, ps, F, hm, hk, hb⟩ := h
  refine ⟨_, pe_call0 F hr hg hm hk hb .nil pass0 hdb, fun H0 σ H ρ r ok h => ?_⟩
  intro H1 e1 Q q
  exact ⟨[], r, ⟨.nil, ok.tbs.ex e1⟩, h, fun v H' e' gv => q v H' e' gv⟩
end
end
end Tl

namespace Tl
open PySem PySem.Spec PyProof.Rows L2 Evl
noncomputable section
def hx1 (n : Nat) : Nat := if n < 10 then 48 + n else 55 + n
theorem hex_at (n : Nat) (hn : n < 256) (t u : Tok) : Gives (Builtin.«int.__format__» ⟨[.int (n : Int) t, .str "02X" u], []⟩) (.str (S [hx1 (n / 16), hx1 (n % 16)])) := by
  have hne : ((("02X" : Str).length == 0)) = false := by decide +kernel
  have hasc : ((("02X" : Str).cps.toList.drop 1).any (fun x => decide (x ≥ 128)) || (decide (("02X" : Str).cps.getD 0 0 ≥ 128) && !([60, 62, 61, 94] : List Nat).contains (("02X" : Str).cps.getD 1 0))) = false := by decide +kernel
  intro prog w A R s hq
  unfold Builtin.«int.__format__»
  simp only [selfAndOne, noKeywords, Builtin.Int.intOfSelf, asInt?, asStr?, List.isEmpty_nil, if_true, pure_bind, hne, hasc, Bool.false_eq_true, if_false, show (Value.str ("02X" : Str) u == Value.none) = false from rfl]
  refine wpAny_bind (wpAny_typeNameOf (T := "str") (typeIs_str _ _ _) (by decide) fun _ => ?_)
  refine wpAny_bind (wpAny_typeNameOfCut_int ?_)
  refine (show ∀ y z : Str, y = z → (Made.str z).post (fun v s' => R (.ok (.ret v)) s') s → wpAny _ _ (retStr y) _ _ s from fun y z e h => ?_) _ _ ?_ hq
  · subst e
    exact (show Gives (retStr y) (.str y) from .of_eq rfl) prog w A R s h
  · clear hq
    revert n
    decide +kernel
end
end Tl

namespace Tl
open PySem PySem.Spec PyProof.Rows L2 Evl
noncomputable section
/-! ### enumerate of a tuple -/
theorem meets_enum_tup (t : Addr) (items : Array Value) :
    Meets (Builtin.«enumerate.__new__» ⟨[.type "enumerate", .ref t], []⟩) (fun _ R s => s.heap.IsTuple t items ∧
      R (.ok (.ret (.ref (s.heap.push { cls := .type "tuple_iterator", data := .fields #[.ref t, .int 0 0] }).objs.size))) { s with heap := (s.heap.push { cls := .type "tuple_iterator", data := .fields #[.ref t, .int 0 0] }).push { cls := .type "enumerate", data := .fields #[.none, .bool false, .ref s.heap.objs.size, rawInt 0, .none, .none] } }) :=
  .of_wp fun prog w A R s h => by
    obtain ⟨hp, g, d, tk, os⟩ := s
    obtain ⟨h1, h⟩ := h
    have hsub := sub_enumerate
    have q1 : ∀ {A' : Around} {E : Value → Shared → Prop} {Q : Value → Shared → Prop}, Q (.ref hp.objs.size) ⟨hp.push { cls := .type "tuple_iterator", data := .fields #[.ref t, .int 0 0] }, g, d, tk, os⟩ → wpAny (model prog w) A' (pyIter (.ref t)) Q E ⟨hp, g, d, tk, os⟩ :=
      fun q => (begins_tuple t items).iter prog w _ _ ⟨hp, g, d, tk, os⟩ _ h1 q
    obtain ⟨o1, ho1, hc1, n1, hd1⟩ := id h1
    wp_walk using q1, AutoSeq1.wpAny_loadPart' ho1
    refine wpAny_stack_any fun st => wpAny_pure ?_
    split
    · rename_i c _ _ _ _ _
      cases (c == Value.type "enumerate")
      · wp_walk using q1, AutoSeq1.wpAny_loadPart' ho1
        exact ⟨_, rfl, h⟩
      · wp_walk using q1, AutoSeq1.wpAny_loadPart' ho1
        exact ⟨_, rfl, h⟩
    · wp_walk using q1, AutoSeq1.wpAny_loadPart' ho1
      exact ⟨_, rfl, h⟩
end
end Tl

namespace Tl
open PySem PySem.Spec PyProof.Rows L2 Evl
noncomputable section
section
variable {prog : Program} {w : World} {A : Around} {E : Value → Shared → Prop} {s : Shared}
theorem call_enum_tup {t : Addr} {items : Array Value} {Q : Value → Shared → Prop} (hz : s.heap.IsTuple t items)
    (h : ∀ h', IsEnum h' (s.heap.objs.size + 1) s.heap.objs.size 0 .none → h'.IsTupleIter s.heap.objs.size t 0 → (∀ b o, s.heap.get? b = some o → h'.get? b = some o) → Q (.ref (s.heap.objs.size + 1)) { s with heap := h' }) :
    wpAny (model prog w) A (call (.type "enumerate") [.ref t]) Q E s := by
  refine callType_new F.called_enumerate (by decide) (F.typeCall_enumerate_1 _) (F.newCall_enumerate_1 _) (fun obj => F.args_object_init_2 obj _) F.entry_enumerate_new (meets_enum_tup t items) ⟨hz, ?_⟩
  have sz : (s.heap.push { cls := .type "tuple_iterator", data := .fields #[.ref t, .int 0 0] }).objs.size = s.heap.objs.size + 1 := Heap.size_push ..
  show _ ∧ _
  have he : IsEnum ((s.heap.push { cls := .type "tuple_iterator", data := .fields #[.ref t, .int 0 0] }).push { cls := .type "enumerate", data := .fields #[.none, .bool false, .ref s.heap.objs.size, rawInt 0, .none, .none] }) (s.heap.objs.size + 1) s.heap.objs.size 0 .none := by
    have z := Heap.get?_push_size (s.heap.push { cls := .type "tuple_iterator", data := .fields #[.ref t, .int 0 0] }) (o := { cls := .type "enumerate", data := .fields #[.none, .bool false, .ref s.heap.objs.size, rawInt 0, .none, .none] }) rfl
    rw [sz] at z
    exact z
  rw [sz]
  exact ⟨⟨_, he, rfl⟩, h _ he ⟨_, Heap.get?_push_of_some _ (Heap.get?_push_size _ rfl), rfl, rfl⟩ fun b o x => Heap.get?_push_of_some _ (Heap.get?_push_of_some _ x)⟩
end
/-- place and item of a tuple, in a new tuple -/
def IteT (K : PySem.W.Frag) (a : Addr) : It :=
  ⟨fun i H => ∃ xs x, SqT K H a xs ∧ xs[i]? = some x,
    fun i H v H' => ∃ T x, v = .ref T ∧ H T = none ∧ H' = upd H T (.tup [.int (i : Nat), x]) ∧ ∀ xs, SqT K H a xs → xs[i]? = some x,
    fun i H => ∃ xs, SqT K H a xs ∧ xs.length ≤ i⟩
theorem turn_enumT {P : Program} {w : World} {K : PySem.W.Frag} {elts : List Expr} {kk : Nat} {tpos : Pos} (a e it : Addr) :
    Turn P w K (.Tuple elts kk tpos) (IteT K a) [e, it] e (fun i h => (∃ old, IsEnum h e it ((i : Nat) : Int) old) ∧ h.IsTupleIter it a i ∧ e ≠ it) where
  mem := by simp
  obj := fun i h st b hb => by
    obtain ⟨⟨old, he⟩, ⟨o, ho, hc, hd⟩, _⟩ := st
    have e' : b = e ∨ b = it := by simpa using hb
    rcases e' with z | z
    · rw [z]; exact ⟨_, he, fun v q => nomatch q⟩
    · rw [z]; exact ⟨o, ho, fun v q => by rw [hd] at q; cases q⟩
  keep := fun i h h' st k => let ⟨⟨old, he⟩, hi, hne⟩ := st; ⟨⟨old, k e (by simp) _ he⟩, hi.at fun o q => k it (by simp) o q, hne⟩
  item := by
    intro X hP hw hK hc i pins s σ H E I hf st hg
    subst hP hw hK
    obtain ⟨⟨old, he⟩, hit, hne⟩ := st
    obtain ⟨xs, x, hq, hx⟩ := hg
    obtain ⟨its, rv, p, hz⟩ := I.tuple hq
    have hel : e < s.heap.objs.size := Heap.lt_size he
    have hil : it < s.heap.objs.size := by obtain ⟨_, q, _⟩ := hit; exact Heap.lt_size q
    have nai : a ≠ it := fun z => by
      obtain ⟨o, ho, hcl, _⟩ := hit
      obtain ⟨o2, ho2, hcl2, _⟩ := p
      rw [← z, ho2] at ho
      cases ho
      rw [hcl2] at hcl
      exact absurd hcl (by decide)
    have nae : e ≠ a := fun z => by
      obtain ⟨o2, ho2, hcl2, _⟩ := p
      rw [← z] at ho2
      have he' := he
      unfold IsEnum at he'
      rw [he'] at ho2
      cases ho2
      exact absurd (show Value.type "enumerate" = Value.type "tuple" from hcl2) (by decide)
    have hlt : i < its.toArray.size := by
      have := rv.length
      have z := lt_of_get hx
      simp; omega
    have D := Draws.tuple (prog := X.prog) (w := X.w) (A := X.A.in1) (I.ok.hd hc) it a nai its.toArray
    refine wpAny_pyNext_enum_itemD D he ⟨hit, p⟩ hlt hne (by simp; exact ⟨hne, nae⟩) fun u h' tk hu ho hst hT hsz hk => ?_
    obtain ⟨u', hu', ru⟩ := rv.get hx
    have eu : u' = u := by
      have z : its[i]? = some u := by simpa using hu
      rw [hu'] at z
      exact Option.some.inj z
    subst eu
    refine ⟨_, rfl, wpAny_letOwnedTupleGo_enum (s := { s with heap := h', toks := tk + 1 }) ho fun h'' he' sb => ?_⟩
    have hT2 : h''.get? s.heap.objs.size = some { cls := .type "tuple", data := .seq #[.int i tk, u'] } := (sb.2 _ (Nat.ne_of_gt hel)).trans hT
    have new : ObjOk X.prog X.w (upd H s.heap.objs.size (.tup [.int (i : Nat), x])) h'' s.heap.objs.size (.tup [.int (i : Nat), x]) :=
      ⟨by show 2 ≤ sizeLine; decide, [.int i tk, u'], .cons ⟨_, rfl⟩ (.cons ru .nil), ⟨_, hT2, rfl, _, rfl⟩⟩
    have I1 : Inv X pins σ (upd H s.heap.objs.size (.tup [.int (i : Nat), x])) { s with heap := h'', toks := tk + 1 } :=
      I.turnedNew (ch := [e, it]) (fun b ob hb q => (sb.2 b (fun z => hb (by simp [z]))).trans (hk b ob (fun z => hb (by simp [z])) (fun z => hb (by simp [z])) q)) hf (Nat.le_refl _) new
    refine ⟨.ref s.heap.objs.size, _, I1, rfl, ⟨_, x, rfl, I.hok.fresh (Nat.le_refl _), rfl, fun ys hy => by rw [I.tuple_inj hy hq]; exact hx⟩, ⟨⟨u', ?_⟩, hst.1.at fun o q => (sb.2 it (Ne.symm hne)).trans q, hne⟩, fun b hb => ?_⟩
    · have e1 : ((i + 1 : Nat) : Int) = (i : Int) + 1 := by omega
      rw [e1]; exact he'
    · have hb' : b < s.heap.objs.size := by
        have e' : b = e ∨ b = it := by simpa using hb
        rcases e' with z | z
        · rw [z]; exact hel
        · rw [z]; exact hil
      rw [upd_ne (Nat.ne_of_lt hb')]
      exact (hf b hb).1
  done := by
    intro X hP hw hK hc i pins s σ H E I hf st hg
    subst hP hw hK
    obtain ⟨⟨old, he⟩, hit, hne⟩ := st
    obtain ⟨xs, hq, hx⟩ := hg
    obtain ⟨its, rv, p, hz⟩ := I.tuple hq
    obtain ⟨f0, f1, f2, f3, f4, f5⟩ := hf it (by simp)
    have hl := rv.length
    have hT : s.TypeIs (.ref e) "enumerate" := ⟨_, he, rfl⟩
    unfold pyNext
    refine wpAny_bind (wpAny_attempt (wpAny_callSpecial?_slot (name := Str.ofString "__next__") hT F.slot_enumerate_next (wpAny_call_entry F.slot_enumerate_next hT F.entry_enumerate_next ?_ (F.args_enumerate_next_1 _))))
    show wpAny _ _ (field (.ref e) 2 >>= _) _ _ _
    refine wpAny_bind (wpAny_field he rfl (x := .ref it) rfl ?_)
    refine wpAny_bind (wpAny_nextOf_tuple_end (A := X.A.in1) (I.ok.hd hc) hit (show s.heap.IsTuple a its.toArray from p) (by simp; omega) fun h' x he' hx' => ?_)
    obtain ⟨o, ho, hcx⟩ := hx'
    refine wpAny_bind (wpAny_isInstance (T := "StopIteration") (b := true) ⟨o, ho, hcx⟩ isSubtype_stop ?_)
    exact wpAny_pure ⟨rfl, I.turned (t' := s.toks) (fun b o hb q => he' b o hb q) f0 f1 f3 f4 f5⟩
  self := fun A i s Q E st h => let ⟨⟨_, he⟩, _⟩ := st; wpAny_pyIter_enum he h
def iEnumT (K : PySem.W.Frag) (ta : TA) : TI := fun σ H R => ta σ H fun vs H1 => ∃ a xs, vs = [.ref a] ∧ SqT K H1 a xs ∧ R (IteT K a) H1
theorem pi_enumT {X : Cx} {e : Expr} {ta : TA} {p pos tpos : Pos} {elts : List Expr} {kk : Nat} (hg : Gl X "enumerate") (hm : X.mg "enumerate" = none) (ha : PA X [e] ta) (hs : starEach [e] X.env = [(false, eval e X.env)] := by rfl) :
    PI X (.Tuple elts kk tpos) (.Call (.Name "enumerate" p) [e] [] pos) (iEnumT X.K ta) := by
  refine ⟨fun pins s σ H R I h => Call_ (ld_blt I hg hm boot_enumerate (PyProof.Rows.callWith_type1 (thn (ha.run pos pins s σ H _ I h) fun us s1 ⟨vs, H1, I1, r1, q1⟩ => ?_) hs rfl))⟩
  obtain ⟨a, xs, ex, hq, q⟩ := q1
  subst ex
  cases r1 with
  | cons r rr =>
    cases rr
    cases r
    obtain ⟨its, rv, p', hz⟩ := I1.tuple hq
    refine call_enum_tup (show s1.heap.IsTuple a its.toArray from p') fun h' he hit hk => wpAny_pyIter_enum he ?_
    have I2 : Inv X pins σ H1 { s1 with heap := h' } := I1.kept (t' := s1.toks) hk
    refine ⟨s1.heap.objs.size + 1, [s1.heap.objs.size + 1, s1.heap.objs.size], _, _, H1, rfl, I2, turn_enumT a (s1.heap.objs.size + 1) s1.heap.objs.size, ⟨⟨.none, he⟩, hit, Nat.succ_ne_self _⟩, fun b hb => ?_, q⟩
    have hle : s1.heap.objs.size ≤ b := by
      have e' : b = s1.heap.objs.size + 1 ∨ b = s1.heap.objs.size := by simpa using hb
      rcases e' with z | z
      · rw [z]; exact Nat.le_add_right _ _
      · rw [z]; exact Nat.le_refl _
    exact I1.fpOk hle (I1.hok.fresh hle)
theorem itd_enumT {K : PySem.W.Frag} {H0 : Hp} {p : Addr} {vs : List V} {xs : List D} (hl : SqT K H0 p vs) (hd : DenL K H0 vs xs) : ItD K H0 (IteT K p) (enuD xs) where
  go := fun i H e h => by
    rw [enuD_len] at h
    obtain ⟨v, h1, _⟩ := hd.get (List.getElem?_eq_getElem h)
    exact ⟨vs, v, ex_t e hl, h1⟩
  yld := fun i H x H' e h hy => by
    obtain ⟨T, v, rfl, nT, rfl, f1⟩ := hy
    obtain ⟨d1, g1, k1⟩ := hd.getV (f1 vs (ex_t e hl))
    exact ⟨Ex.new nT, .tup [.int (i : Nat), d1], enuD_get g1, .tup (st_of upd_same) (.cons (.int _) (.cons (Den.ex k1 (e.trans (Ex.new nT))) .nil))⟩
  stop := fun i H e h => by
    rw [enuD_len] at h
    exact ⟨vs, ex_t e hl, by rw [hd.length]; exact h⟩
def iEnT (f : ME) : MI := fun ρ => (asTup (f ρ)).map fun xs => (enuD xs, ρ)
section
variable {X : Cx} {W : WX} {a b c e : Expr} {pos p p2 p3 : Pos} {f1 f2 f3 : ME} {es : List Expr} {ma : MA}
theorem i_enumT {elts : List Expr} {kk : Nat} {tpos : Pos} (hm : X.mg "enumerate" = none) (ha : JE X a f1) (hg : Gl X "enumerate" := by rfl) (hs : starEach [a] X.env = [(false, eval a X.env)] := by rfl) :
    JI X (.Tuple elts kk tpos) (.Call (.Name "enumerate" p) [a] [] pos) (iEnT f1) := by
  obtain ⟨ta, pa, va⟩ := ha
  refine ⟨_, pi_enumT hg hm (pa_cons pa pa_nil hs) hs, fun H0 σ H ρ ds ρ' ok h R' k => ?_⟩
  unfold iEnT at h
  obtain ⟨xs, hx, h⟩ := Option.map_eq_some_iff.mp h
  cases h
  refine (va _ _ _ _ _ ok (asTup_some hx)).tup H (Ex.refl H) _ fun p vs H2 e2 l gd => ?_
  obtain ⟨B2, okb2⟩ := ok.ex e2
  exact ⟨p, vs, rfl, l, k _ H2 _ (okb2.e0.trans okb2.hid) okb2.pin e2 (itd_enumT (okb2.tex.t _ _ l) (gd.imp okb2.tex))⟩
end
end
end Tl

namespace Tl
open PySem PySem.Spec PyProof.Rows L2 Evl
noncomputable section
/-! ### zip of tuples, min and max of a tuple, list of a tuple, twos, a tuple times a number, dicts -/
theorem itd_zipT {K : PySem.W.Frag} {H0 : Hp} {p q : Addr} {vs ws : List V} {xs ys : List D} (hl : SqT K H0 p vs) (hd : DenL K H0 vs xs) (hl2 : SqT K H0 q ws) (hd2 : DenL K H0 ws ys) : ItD K H0 (RZ.ItzT K p q) (zipD xs ys) where
  go := fun i H e h => by
    unfold zipD at h
    rw [List.length_zipWith] at h
    obtain ⟨v, h1, _⟩ := hd.get (List.getElem?_eq_getElem (show i < xs.length by omega))
    obtain ⟨w, h2, _⟩ := hd2.get (List.getElem?_eq_getElem (show i < ys.length by omega))
    exact ⟨vs, ws, v, w, ex_t e hl, ex_t e hl2, h1, h2⟩
  yld := fun i H x H' e h hy => by
    obtain ⟨T, v, w, rfl, nT, rfl, f1, f2⟩ := hy
    obtain ⟨d1, g1, k1⟩ := hd.getV (f1 vs (ex_t e hl))
    obtain ⟨d2, g2, k2⟩ := hd2.getV (f2 ws (ex_t e hl2))
    refine ⟨Ex.new nT, .tup [d1, d2], ?_, .tup (st_of upd_same) (.cons (Den.ex k1 (e.trans (Ex.new nT))) (.cons (Den.ex k2 (e.trans (Ex.new nT))) .nil))⟩
    unfold zipD
    rw [List.getElem?_zipWith, g1, g2]
  stop := fun i H e h => by
    unfold zipD at h
    rw [List.length_zipWith] at h
    refine ⟨vs, ws, ex_t e hl, ex_t e hl2, ?_⟩
    rw [hd.length, hd2.length]
    omega
def iZT (f g : ME) : MI := fun ρ => (asTup (f ρ)).bind fun xs => (asTup (g ρ)).map fun ys => (zipD xs ys, ρ)
section
variable {X : Cx} {W : WX} {a b c e : Expr} {pos p p2 p3 : Pos} {f1 f2 f3 : ME} {es : List Expr} {ma : MA}
theorem i_zipT {elts : List Expr} {kk : Nat} {tpos : Pos} (hm : X.mg "zip" = none) (h1 : JE X a f1) (h2 : JE X b f2) (hg : Gl X "zip" := by rfl)
    (hs : starEach [a, b] X.env = (false, eval a X.env) :: starEach [b] X.env := by rfl) (hs2 : starEach (b :: []) X.env = (false, eval b X.env) :: starEach [] X.env := by rfl) (hpl : (backTo pos (starEach [b] X.env)).any (·.1) = false := by rfl) :
    JI X (.Tuple elts kk tpos) (.Call (.Name "zip" p) [a, b] [] pos) (iZT f1 f2) := by
  obtain ⟨ta, pa, va⟩ := h1
  obtain ⟨tb, pb, vb⟩ := h2
  refine ⟨_, RZ.pi_zipA hg hm (pa_cons pa (pa_cons pb pa_nil hs2) hs) hs hpl, fun H0 σ H ρ ds ρ' ok h R' k => ?_⟩
  unfold iZT at h
  obtain ⟨xs, hx, h⟩ := Option.bind_eq_some_iff.mp h
  obtain ⟨ys, hy, h⟩ := Option.map_eq_some_iff.mp h
  cases h
  refine (va _ _ _ _ _ ok (asTup_some hx)).tup H (Ex.refl H) _ fun p vs H2 e2 l1 g1 => ?_
  refine (vb _ _ _ _ _ ok (asTup_some hy)).tup H2 e2 _ fun q ws H3 e3 l2 g2 => ?_
  have e23 := e2.trans e3
  obtain ⟨B2, okb2⟩ := ok.ex e23
  have t := okb2.tex
  exact ⟨p, q, vs, ws, rfl, .inr ⟨ex_t e3 l1, l2, k _ H3 _ (okb2.e0.trans okb2.hid) okb2.pin e23 (itd_zipT (t.t _ _ (ex_t e3 l1)) ((g1.ex e3).imp t) (t.t _ _ l2) (g2.imp t))⟩⟩
/-! min, max -/
def intsOf : List D → Option (List Int)
  | [] => some []
  | .int i :: r => (intsOf r).map fun is => i :: is
  | _ => none
theorem intsOf_eq : ∀ {ds : List D} {is : List Int}, intsOf ds = some is → ds = is.map D.int
  | [], _, h => by cases h; rfl
  | .int b :: r, _, h => by
    obtain ⟨c, hc, h⟩ := Option.map_eq_some_iff.mp (show (intsOf r).map (fun bs => b :: bs) = _ from h)
    subst h
    rw [intsOf_eq hc]
    rfl
  | .non :: _, _, h => by cases h
  | .bl _ :: _, _, h => by cases h
  | .str _ :: _, _, h => by cases h
  | .tup _ :: _, _, h => by cases h
  | .dic _ :: _, _, h => by cases h
theorem intsOf_map : ∀ is : List Int, intsOf (is.map D.int) = some is
  | [] => rfl
  | i :: is => by
    show (intsOf (is.map D.int)).map _ = _
    rw [intsOf_map is]; rfl
def maxI (x : Int) (xs : List Int) : Int := xs.foldl (fun m y => if m < y then y else m) x
def minI (x : Int) (xs : List Int) : Int := xs.foldl (fun m y => if y < m then y else m) x
def mMaxT (f : ME) : ME := fun ρ => (asTup (f ρ)).bind fun ds => (intsOf ds).bind fun is => match is with
  | x :: xs => some (.dat (.int (maxI x xs)))
  | [] => none
def mMinT (f : ME) : ME := fun ρ => (asTup (f ρ)).bind fun ds => (intsOf ds).bind fun is => match is with
  | x :: xs => some (.dat (.int (minI x xs)))
  | [] => none
def mList (f : ME) : ME := fun ρ => (asTup (f ρ)).bind fun xs => if szOk xs.length = true then some (.new xs) else none
theorem x_list {p : Pos} (hm : X.mg "list" = none) (ha : JE X a f1) (hg : Gl X "list" := by rfl) (hs : starEach (a :: []) X.env = (false, eval a X.env) :: starEach [] X.env := by rfl) : JE X (.Call (.Name "list" p) [a] [] pos) (mList f1) := by
  obtain ⟨ta, pa, va⟩ := ha
  refine ⟨_, pe_callTy call_list_of hg hm (by decide +kernel) (pa_cons pa pa_nil hs) (he := hs), fun H0 σ H ρ r ok h => ?_⟩
  unfold mList at h
  obtain ⟨xs, hx, h⟩ := Option.bind_eq_some_iff.mp h
  split at h
  · cases h
    intro H1 e1 Q q
    refine (va _ _ _ _ _ ok (asTup_some hx)).tup H1 e1 _ fun p vs H2 e2 l1 g1 => ?_
    exact ⟨p, vs, rfl, .inr l1, fun l nl => q _ _ (e2.trans (Ex.new nl)) ⟨l, vs, rfl, fresh_back e2 nl, upd_same, g1.ex (Ex.new nl)⟩⟩
  · cases h
def mBand (f1 f2 : ME) : ME := mII cT (fun i j => .int (Builtin.bitAnd i j)) f1 f2
def mBor (f1 f2 : ME) : ME := mII cT (fun i j => .int (Builtin.bitOr i j)) f1 f2
theorem x_band (ha : JE X a f1) (hb : JE X b f2) : JE X (.BinOp a .BitAnd b pos) (mBand f1 f2) := x_op (op0 op_and) (fun _ _ _ => trivial) (fun i j H => .int _) ha hb
theorem x_bor (ha : JE X a f1) (hb : JE X b f2) : JE X (.BinOp a .BitOr b pos) (mBor f1 f2) := x_op (op0 op_or) (fun _ _ _ => trivial) (fun i j H => .int _) ha hb
def mRepT (f g : ME) : ME := fun ρ => (asTup (f ρ)).bind fun xs => (asInt (g ρ)).bind fun k => if okP (xs ≠ [] ∧ 2 ≤ k ∧ k ≤ 1000 ∧ xs.length ≤ 1000) = true then some (.dat (.tup (List.replicate k.toNat xs).flatten)) else none
theorem x_repT (ha : JE X a f1) (hb : JE X b f2) : JE X (.BinOp a .Mult b pos) (mRepT f1 f2) := by
  obtain ⟨ta, pa, va⟩ := ha
  obtain ⟨tb, pb, vb⟩ := hb
  refine ⟨_, pe_op op_repT pa pb, fun H0 σ H ρ r ok h => ?_⟩
  unfold mRepT at h
  obtain ⟨xs, hx, h⟩ := Option.bind_eq_some_iff.mp h
  obtain ⟨k, hk, h⟩ := Option.bind_eq_some_iff.mp h
  split at h
  · rename_i hz
    have hz := okP_of hz
    cases h
    intro H1 e1 Q q
    refine (va _ _ _ _ _ ok (asTup_some hx)).tup H1 e1 _ fun p vs H2 e2 l1 g1 => ?_
    refine (vb _ _ _ _ _ ok (asInt_some hk)).int H2 (e1.trans e2) _ fun H3 e3 => ?_
    have nv : vs ≠ [] := fun z => by
      subst z
      cases g1
      exact hz.1 rfl
    exact ⟨p, k, vs, rfl, rfl, ex_t e3 l1, nv, hz.2.1, hz.2.2.1, by rw [g1.length]; exact hz.2.2.2, fun z nz => q _ _ ((e2.trans e3).trans (Ex.new nz)) (.tup (st_of upd_same) (((g1.ex e3).rep _).ex (Ex.new nz)))⟩
  · cases h
/-! dicts -/
def asDic : Option R → Option (List (Str × D))
  | some (.dat (.dic ds)) => some ds
  | _ => none
theorem asDic_some {o : Option R} {ds : List (Str × D)} (h : asDic o = some ds) : o = some (.dat (.dic ds)) := by
  unfold asDic at h
  split at h
  · cases h; rfl
  · cases h
def mDixV (f g : ME) : ME := fun ρ => (asDic (f ρ)).bind fun ds => (asStr (g ρ)).bind fun x => (ds.lookup x).map .dat
theorem x_dixV (hu : X.A.units + 1 < cLine) (ha : JE X a f1) (hb : JE X b f2) (hs : NoSl b := by exact fun _ _ => rfl) : JE X (.Subscript a b pos) (mDixV f1 f2) := by
  obtain ⟨ta, pa, va⟩ := ha
  obtain ⟨tb, pb, vb⟩ := hb
  refine ⟨_, pe_dget hu pa pb hs, fun H0 σ H ρ r ok h => ?_⟩
  unfold mDixV at h
  obtain ⟨ds, hx, h⟩ := Option.bind_eq_some_iff.mp h
  obtain ⟨k, hk, h⟩ := Option.bind_eq_some_iff.mp h
  obtain ⟨d, hd, h⟩ := Option.map_eq_some_iff.mp h
  subst h
  intro H1 e1 Q q
  refine va _ _ _ _ _ ok (asDic_some hx) H1 e1 _ fun v H2 e2 gv => ?_
  have gv : Den X.K H2 v (.dic ds) := gv
  cases gv with
  | dic h1 h2 =>
    refine (vb _ _ _ _ _ ok (asStr_some hk)).str H2 (e1.trans e2) _ fun H3 e3 => ?_
    obtain ⟨v, g1, g2⟩ := (h2.imp (.of e3)).get hd
    exact ⟨_, v, rfl, .inl ⟨_, .inr k, .inl (e3 _ _ h1), rfl, g1.symm⟩, q v H3 (e2.trans e3) g2⟩
end
end
end Tl

namespace Tl
open PySem PySem.Spec PyProof.Rows L2 Evl
noncomputable section
section
variable {X : Cx} {W : WX} {a b c e : Expr} {pos p p2 p3 : Pos} {f1 f2 f3 : ME} {es : List Expr} {ma : MA}
theorem maxI_is : ∀ (xs : List Int) (x : Int), PySem.W.maxOf x xs = maxI x xs
  | [], _ => rfl
  | y :: ys, x => by
    show PySem.W.maxOf (if decide (x < y) = true then y else x) ys = maxI (if x < y then y else x) ys
    rw [maxI_is ys]
    congr 1
    by_cases h : x < y <;> simp [h]
theorem minI_is : ∀ (xs : List Int) (x : Int), PySem.W.minOf x xs = minI x xs
  | [], _ => rfl
  | y :: ys, x => by
    show PySem.W.minOf (if decide (y < x) = true then y else x) ys = minI (if y < x then y else x) ys
    rw [minI_is ys]
    congr 1
    by_cases h : y < x <;> simp [h]
def rMM (K : PySem.W.Frag) (g : Int → List Int → Int) : List V → Hp → VK → Prop := fun vs H Q => ∃ (a : Addr) (n : Int) (ns : List Int), vs = [V.ref a] ∧ SqT K H a ((n :: ns).map V.int) ∧ Q (.int (g n ns)) H
theorem cr_maxT (hc : X.calm = true) (hu : X.A.units + 1 < cLine) : CallR X (.builtin "max") (rMM X.K maxI) := by
  intro pins s σ H vs us Q I r h
  obtain ⟨a, n, ns, rfl, hs, q⟩ := h
  obtain ⟨its, rv, hl, _⟩ := I.tuple hs
  rw [Vals.ref1 r]
  refine PySem.W.max_tuple_datum (x := n) (xs := ns) (I.ok.hd hc) (show s.heap.IsTuple a its.toArray from hl) (by simpa using PySem.W.HoldAll.of_ints rv.ints) hu fun i v h' tk hi hh hk => ?_
  rw [maxI_is] at hh
  obtain ⟨t, rfl⟩ : ∃ t, v = .int (maxI n ns) t := by
    obtain ⟨as, r⟩ := hh
    cases r
    exact ⟨_, rfl⟩
  exact ⟨.int _, H, I.kept hk, ⟨_, rfl⟩, q⟩
theorem cr_minT (hc : X.calm = true) (hu : X.A.units + 1 < cLine) : CallR X (.builtin "min") (rMM X.K minI) := by
  intro pins s σ H vs us Q I r h
  obtain ⟨a, n, ns, rfl, hs, q⟩ := h
  obtain ⟨its, rv, hl, _⟩ := I.tuple hs
  rw [Vals.ref1 r]
  refine PySem.W.min_tuple_datum (x := n) (xs := ns) (I.ok.hd hc) (show s.heap.IsTuple a its.toArray from hl) (by simpa using PySem.W.HoldAll.of_ints rv.ints) hu fun i v h' tk hi hh hk => ?_
  rw [minI_is] at hh
  obtain ⟨t, rfl⟩ : ∃ t, v = .int (minI n ns) t := by
    obtain ⟨as, r⟩ := hh
    cases r
    exact ⟨_, rfl⟩
  exact ⟨.int _, H, I.kept hk, ⟨_, rfl⟩, q⟩
theorem x_maxT {p : Pos} (hc : X.calm = true) (hu : X.A.units + 1 < cLine) (hm : X.mg "max" = none) (ha : JE X a f1) (hg : Gl X "max" := by rfl) (hs : starEach (a :: []) X.env = (false, eval a X.env) :: starEach [] X.env := by rfl) : JE X (.Call (.Name "max" p) [a] [] pos) (mMaxT f1) := by
  obtain ⟨ta, pa, va⟩ := ha
  refine ⟨_, pe_callB (cr_maxT hc hu) hg hm (by decide +kernel) (pa_cons pa pa_nil hs) (he := hs), fun H0 σ H ρ r ok h => ?_⟩
  unfold mMaxT at h
  obtain ⟨ds, hx, h⟩ := Option.bind_eq_some_iff.mp h
  obtain ⟨is, hi, h⟩ := Option.bind_eq_some_iff.mp h
  cases is with
  | nil => cases h
  | cons n ns =>
    cases h
    intro H1 e1 Q q
    refine (va _ _ _ _ _ ok (asTup_some hx)).tup H1 e1 _ fun p vs H2 e2 l1 g1 => ?_
    rw [intsOf_eq hi] at g1
    have ev := DenL.ints g1
    subst ev
    exact ⟨p, n, ns, rfl, l1, q _ H2 e2 (.int _)⟩
theorem x_minT {p : Pos} (hc : X.calm = true) (hu : X.A.units + 1 < cLine) (hm : X.mg "min" = none) (ha : JE X a f1) (hg : Gl X "min" := by rfl) (hs : starEach (a :: []) X.env = (false, eval a X.env) :: starEach [] X.env := by rfl) : JE X (.Call (.Name "min" p) [a] [] pos) (mMinT f1) := by
  obtain ⟨ta, pa, va⟩ := ha
  refine ⟨_, pe_callB (cr_minT hc hu) hg hm (by decide +kernel) (pa_cons pa pa_nil hs) (he := hs), fun H0 σ H ρ r ok h => ?_⟩
  unfold mMinT at h
  obtain ⟨ds, hx, h⟩ := Option.bind_eq_some_iff.mp h
  obtain ⟨is, hi, h⟩ := Option.bind_eq_some_iff.mp h
  cases is with
  | nil => cases h
  | cons n ns =>
    cases h
    intro H1 e1 Q q
    refine (va _ _ _ _ _ ok (asTup_some hx)).tup H1 e1 _ fun p vs H2 e2 l1 g1 => ?_
    rw [intsOf_eq hi] at g1
    have ev := DenL.ints g1
    subst ev
    exact ⟨p, n, ns, rfl, l1, q _ H2 e2 (.int _)⟩
/-! a dict written out: texts to numbers -/
abbrev MD := Rho → Option (List (Str × Int))
def dNil : MD := fun _ => some []
def dCons (x : Str) (f : ME) (m : MD) : MD := fun ρ => (asInt (f ρ)).bind fun i => (m ρ).map fun r => (x, i) :: r
def JD (X : Cx) (pos : Pos) (ks : List (Option Expr)) (vs : List Expr) (m : MD) : Prop := ∃ trs, PPs X pos ks vs trs ∧ ∀ H0 σ H ρ ds, Ok X H0 σ H ρ → m ρ = some ds → ∀ H1, Ex H H1 → ∀ Q : List (V × V) → Hp → Prop, (∀ H2, Ex H1 H2 → Q (ds.map fun d => (.str d.1, .int d.2)) H2) → tPairs trs σ H1 Q
theorem d_nil : JD X pos [] [] dNil := ⟨_, pps_nil, fun H0 σ H ρ ds ok h H1 e Q q => by cases h; exact q H1 (Ex.refl _)⟩
theorem d_cons {x : Str} {j : Nat} {ks : List (Option Expr)} {vs : List Expr} {m : MD} (ha : JE X a f1) (hr : JD X pos ks vs m) : JD X pos (some (.Constant (.str x) j p) :: ks) (a :: vs) (dCons x f1 m) := by
  obtain ⟨ta, pa, va⟩ := ha
  obtain ⟨trs, pr, vr⟩ := hr
  refine ⟨_, pps_cons pe_str pa pr, fun H0 σ H ρ ds ok h H1 e Q q => ?_⟩
  unfold dCons at h
  obtain ⟨i, hi, h⟩ := Option.bind_eq_some_iff.mp h
  obtain ⟨r, hr, h⟩ := Option.map_eq_some_iff.mp h
  subst h
  refine (va _ _ _ _ _ ok (asInt_some hi)).int H1 e _ fun H2 e2 => ?_
  exact vr _ _ _ _ _ ok hr H2 (e.trans e2) _ fun H3 e3 => q H3 (e2.trans e3)
def iD (ds : List (Str × Int)) : List (Str × D) := ds.map fun d => (d.1, .int d.2)
def mDsp (m : MD) : ME := fun ρ => (m ρ).bind fun ds => if okP ((ds.map (·.1)).Nodup ∧ ds.length ≤ 15) = true then some (.dat (.dic (iD ds))) else none
theorem merge_nodup : ∀ (more acc : List (Key × V)), (more.map (·.1)).Nodup → (∀ k ∈ more.map (·.1), k ∉ acc.map (·.1)) → mergeK acc more = acc ++ more
  | [], acc, _, _ => by simp [mergeK]
  | kv :: more, acc, h1, h2 => by
    rw [List.map_cons, List.nodup_cons] at h1
    have hp : putK acc kv.1 kv.2 = acc ++ [kv] := by
      unfold putK
      rw [if_neg]
      intro z
      rw [List.any_eq_true] at z
      obtain ⟨y, hy, hz⟩ := z
      exact h2 kv.1 (by simp) (by rw [← of_decide_eq_true hz]; exact List.mem_map_of_mem hy)
    show mergeK (putK acc kv.1 kv.2) more = _
    rw [hp, merge_nodup more (acc ++ [kv]) h1.2 (fun k hk hm => ?_), List.append_assoc]
    · rfl
    · rw [List.map_append, List.mem_append] at hm
      rcases hm with hm | hm
      · exact h2 k (by rw [List.map_cons]; exact List.mem_cons_of_mem _ hk) hm
      · have e : k = kv.1 := by simpa using hm
        exact h1.1 (e ▸ hk)
theorem x_dsp {ks : List (Option Expr)} {vs : List Expr} {m : MD} (h : JD X pos ks vs m) (hall : ks.all (·.isSome) = true := by rfl) (hl : ks.length = vs.length := by rfl) (h0 : ks ≠ [] := by (intro z; cases z)) (h15 : ks.length ≤ 15 := by decide) : JE X (.Dict ks vs pos) (mDsp m) := by
  obtain ⟨trs, pr, vr⟩ := h
  refine ⟨_, pe_disp pr hall hl h0 h15, fun H0 σ H ρ r ok h => ?_⟩
  unfold mDsp at h
  obtain ⟨ds, hd, h⟩ := Option.bind_eq_some_iff.mp h
  split at h
  · rename_i hz
    have hz := okP_of hz
    cases h
    intro H1 e1 Q q u nu
    have ex : Ex H1 (upd H1 u (.dK [])) := Ex.new nu
    refine vr _ _ _ _ _ ok hd _ (e1.trans ex) _ fun H2 e2 => ?_
    have hk : ∀ l : List (Str × Int), (l.map (·.1)).Nodup → ((l.map fun d => ((.inr d.1 : Key), V.int d.2)).map (·.1)).Nodup := fun l hn => by
      induction l with
      | nil => exact List.nodup_nil
      | cons d l ih =>
        rw [List.map_cons, List.nodup_cons] at hn
        rw [List.map_cons, List.map_cons, List.nodup_cons]
        refine ⟨fun hm => hn.1 ?_, ih hn.2⟩
        rw [List.map_map, List.mem_map] at hm
        obtain ⟨y, hy, e⟩ := hm
        have e : (Sum.inr y.1 : Key) = .inr d.1 := e
        rw [← Sum.inr.inj e]
        exact List.mem_map_of_mem hy
    refine ⟨e2 _ _ upd_same, ds.map fun d => (.inr d.1, .int d.2), by rw [List.map_map]; rfl, by rw [List.length_map]; exact hz.2, ?_⟩
    rw [merge_nodup _ [] (hk ds hz.1) (fun _ _ z => by cases z), List.nil_append]
    have e3 : Ex H1 (upd H2 u (.dK (ds.map fun d => (.inr d.1, .int d.2)))) := (ex.trans e2).mut nu
    have dk : ∀ (l : List (Str × Int)) (G : Hp), DenKV X.K G (l.map fun d => ((.inr d.1 : Key), V.int d.2)) (iD l) := fun l G => by
      induction l with
      | nil => exact .nil
      | cons d l ih => exact .cons (.int _) ih
    exact q _ _ e3 (.dic upd_same (dk ds _))
  · cases h
/-! d.get(k) of a written dict, found -/
theorem d_getK {pins : List (Addr × Obj)} {σ : L2.St} {H : Hp} {s : Shared} {A : Around} {E : Value → Shared → Prop} {a : Addr} {z : Str} {t : Tok} {v : V} {Q : Value → Shared → Prop} (I : Inv X pins σ H s) (k : KDct X.K X.w a z v) (lo : (a == sysModules) = false) (h : ∀ w' s', Inv X pins σ H s' → RelV v w' → Q w' s') :
    wpAny (model X.prog X.w) A (call (.builtin "dict.get") [.ref a, .str z t]) Q E s := by
  obtain ⟨es, n, u0, hl, hk, e, ru⟩ := k
  have hm := PySem.W.mapOf_K (prog := X.prog) (w := X.w) I.kIn hl hk
  refine call_meetsIn PySem.F.slot_dict_get hm.typeIs PySem.F.entry_dict_get (PySem.F.args_dict_get_2 _ _) (meets_dict_get (strKind X.prog X.w) a (strKind_is X.prog X.w z t) lo) ⟨_, hm, h _ _ (I.tok _) ?_⟩
  rw [PySem.W.find_K hl e]
  exact ru
theorem x_dgt {x : Str} {tb : List (Str × D)} (h : Dcon X.K X.w X.mg x tb) (lo : ∀ a, X.mg x = some (.ref a) → (a == sysModules) = false) (hb : JE X b f1) (hg : Gl X x := by rfl) (hdb : (x == ("__debug__" : Str)) = false := by decide)
    (m : M1 X (.Name x p) "get" p2 b p3 := by exact ⟨rfl, rfl, rfl, rfl⟩) : JE X (.Call (.Attribute (.Name x p) "get" p2) [b] [] p3) (mDix tb f1) := by
  obtain ⟨a, hm, ht⟩ := h
  obtain ⟨tb', pb, vb⟩ := hb
  have lo := lo a hm
  have pe : PE X (.Call (.Attribute (.Name x p) "get" p2) [b] [] p3) (fun σ H Q => (∃ z v, KDct X.K X.w a z v) ∧ tb' σ H fun y H2 => ∃ z v, y = .str z ∧ KDct X.K X.w a z v ∧ Q v H2) := by
    refine ⟨fun pins s σ H Q I hh => ?_⟩
    obtain ⟨⟨z0, v0, es, n, u0, hl, hk, _⟩, hh⟩ := hh
    refine wpAny_Call_method m.base m.few m.line PySem.F.plainAttrs_dict PySem.F.slot_dict_get PySem.F.type_dict_get (ld_glob I hg hm ?_ hdb)
    have hmm := PySem.W.mapOf_K (prog := X.prog) (w := X.w) I.kIn hl hk
    refine ⟨hmm.typeIs, fun b q => ?_, ?_⟩
    · cases q
      exact ⟨_, I.kIn _ _ hl, rfl⟩
    · rw [m.trees]
      refine Calls.callWith_builtin rfl (Calls.evalArgs_plain (Calls.spliced_cons (thn (pb.run pins s σ H _ I hh) fun iv s2 ⟨y, H2, I2, ry, z, v, ey, kd, q2⟩ => Calls.spliced_nil ?_)))
      subst ey
      obtain ⟨t, rfl⟩ := ry
      exact d_getK I2 kd lo fun w' s3 I3 rw' => ⟨_, H2, I3, rw', q2⟩
  refine ⟨_, pe, fun H0 σ H ρ r ok h => ?_⟩
  unfold mDix at h
  obtain ⟨k, hk, h⟩ := Option.bind_eq_some_iff.mp h
  obtain ⟨d, hd, h⟩ := Option.map_eq_some_iff.mp h
  subst h
  intro H1 e1 Q q
  obtain ⟨v, kd, hv⟩ := ht k d hd
  refine ⟨⟨k, v, kd⟩, ?_⟩
  refine (vb _ _ _ _ _ ok (asStr_some hk)).str H1 e1 _ fun H2 e2 => ?_
  exact ⟨k, v, rfl, kd, q v H2 e2 (hv H2)⟩
end
end
end Tl

namespace Tl
open PySem PySem.Spec PyProof.Rows L2 Evl
noncomputable section
/-! ### defs that change a list which they are given -/
/-- what comes of a body: it goes on, or gives back a value; the slots as they are then -/
inductive FM where
  | nx (ρ : Rho) | ret (d : D) (ρ : Rho)
abbrev MM := Rho → Option FM
/-- the list is at a, in the slot j -/
def OkJ (X : Cx) (H0 : Hp) (j : Nat) (a : Addr) (σ : L2.St) (H : Hp) (ρ : Rho) : Prop := Ok X H0 σ H ρ ∧ σ[j]? = some (some (.ref a))
def PostM (X : Cx) (H0 : Hp) (D : Ends) (j : Nat) (a : Addr) : FM → Prop
  | .nx ρ => ∀ σ H, OkJ X H0 j a σ H ρ → D.nx σ H
  | .ret d ρ => ∀ v σ H, OkJ X H0 j a σ H ρ → Den X.K H v d → D.rt v H
def JM (X : Cx) (j : Nat) (st : Stmt) (m : MM) : Prop := ∃ ts, PS X st ts ∧ ∀ H0 D a σ H ρ fl, OkJ X H0 j a σ H ρ → m ρ = some fl → PostM X H0 D j a fl → ts D σ H
def JMB (X : Cx) (j : Nat) (st : List Stmt) (m : MM) : Prop := ∃ ts, PSs X st ts ∧ ∀ H0 D a σ H ρ fl, OkJ X H0 j a σ H ρ → m ρ = some fl → PostM X H0 D j a fl → ts D σ H
def uSkip : MM := fun ρ => some (.nx ρ)
def uSeq (s t : MM) : MM := fun ρ => match s ρ with
  | some (.nx ρ') => t ρ'
  | r => r
def uIf (t : MT) (s u : MM) : MM := fun ρ => (t ρ).bind fun b => if b = true then s ρ else u ρ
def uSet (i : Nat) (f : ME) : MM := fun ρ => (asDat (f ρ)).map fun d => .nx (ρ.set i (.dat d))
def uAsg (g : MG) (f : ME) : MM := fun ρ => (asDat (f ρ)).bind fun d => (g d ρ).map .nx
def uSetI (i : Nat) (fi fv : ME) : MM := fun ρ => match ρ[i]? with
  | some (.own xs) => (asDat (fv ρ)).bind fun d => (asInt (fi ρ)).bind fun k => (ixN xs.length k).map fun n => .nx (ρ.set i (.own (xs.set n d)))
  | _ => none
def uRet (f : ME) : MM := fun ρ => (asDat (f ρ)).map fun d => .ret d ρ
/-- what such a def is: of the other arguments and of the list, the value and the list behind -/
abbrev MirU := List R → List D → Option (D × List D)
/-- the call changes the list in slot j -/
def callU (j : Nat) (m : MirU) (ma : MA) (ρ : Rho) : Option (D × Rho) := match ρ[j]? with
  | some (.own xs) => (ma ρ).bind fun rs => (m (rs.map argN) xs).map fun p => (p.1, ρ.set j (.own p.2))
  | _ => none
def uRetU (j : Nat) (m : MirU) (ma : MA) : MM := fun ρ => (callU j m ma ρ).map fun p => .ret p.1 p.2
def mSetU (i j : Nat) (m : MirU) (ma : MA) : MS := fun ρ => (callU j m ma ρ).map fun p => .nx (p.2.set i (.dat p.1))
/-- the abstract heap without the list -/
def noL (H : Hp) (a : Addr) : Hp := delH H a
/-- the promise: the list is the argument k -/
def spU (K : PySem.W.Frag) (mg : Str → Option Value) (k : Nat) (m : MirU) : Sp := fun vs H Q _ => ∃ (a : Addr) (us : List V) (xs : List D) (rs : List R) (d : D) (ys : List D),
  vs[k]? = some (.ref a) ∧ H a = some (.lst us) ∧ DenL K H us xs ∧ ArgT K mg H (vs.eraseIdx k) rs ∧ m rs xs = some (d, ys) ∧
  ∀ v H' us', Ex (delH H a) (delH H' a) → H' a = some (.lst us') → DenL K H' us' ys → Den K H' v d → Q v H'
section
variable {X : Cx} {W : WX} {a b c e : Expr} {pos p p2 p3 : Pos} {f1 f2 f3 : ME} {es : List Expr} {ma : MA} {m1 m2 : MM} {st : Stmt} {sts : List Stmt} {t : MT} {j : Nat}
theorem u_nil : JMB X j [] uSkip := ⟨_, pss_nil, fun H0 D a σ H ρ fl ok h p => by cases h; exact p σ H ok⟩
theorem u_one (h : JM X j st m1) : JMB X j [st] m1 := by
  obtain ⟨ts, p, v⟩ := h
  exact ⟨_, pss_one p, v⟩
theorem u_cons (h1 : JM X j st m1) (h2 : JMB X j sts m2) : JMB X j (st :: sts) (uSeq m1 m2) := by
  obtain ⟨ts, p, v⟩ := h1
  obtain ⟨tr, pr, vr⟩ := h2
  refine ⟨_, pss_cons p pr, fun H0 D a σ H ρ fl ok h q => ?_⟩
  unfold uSeq at h
  show ts { D with nx := tr D } σ H
  cases hm : m1 ρ with
  | none => rw [hm] at h; cases h
  | some fl1 =>
    refine v H0 _ a σ H ρ fl1 ok hm ?_
    rw [hm] at h
    cases fl1 with
    | nx ρ' => exact fun σ' H' ok' => vr H0 D a σ' H' ρ' fl ok' h q
    | ret d ρ' => cases h; exact q
theorem u_if {sa sb : List Stmt} (hc : JT X c t) (ha : JMB X j sa m1) (hb : JMB X j sb m2) : JM X j (.If c sa sb pos) (uIf t m1 m2) := by
  obtain ⟨tc, pc, vc⟩ := hc
  obtain ⟨ta, pa, va⟩ := ha
  obtain ⟨tb, pb, vb⟩ := hb
  refine ⟨_, ps_if pc pa pb, fun H0 D a σ H ρ fl ok h q => ?_⟩
  unfold uIf at h
  obtain ⟨k, hk, h⟩ := Option.bind_eq_some_iff.mp h
  refine vc _ _ _ _ _ ok.1 hk H (Ex.refl H) _ fun H2 e2 => ?_
  cases k with
  | true => exact va _ D a σ H2 ρ fl ⟨ok.1.ex e2, ok.2⟩ h q
  | false => exact vb _ D a σ H2 ρ fl ⟨ok.1.ex e2, ok.2⟩ h q
theorem u_set (i : Nat) {x : Str} {pos' : Pos} (hij : i ≠ j) (hN : X.N.Nodup) (he : JE X e f1) (hi : X.N[i]? = some x := by rfl) (hx : Loc X.env.scope x := by first | exact Or.inl rfl | exact Or.inr rfl) (hs : swapsWith e (some (.Name x pos')) pos.line X.env = pure false := by rfl)
    (hf : X.fn x = true ∨ X.env.scope.names.lookup x = some .local := by first | exact .inl rfl | exact .inr rfl | assumption) : JM X j (.Assign [.Name x pos'] e pos) (uSet i f1) := by
  obtain ⟨te, p, v⟩ := he
  refine ⟨_, ps_set hN hi hx p hs hf, fun H0 D a σ H ρ fl ok h q => ?_⟩
  unfold uSet at h
  obtain ⟨d, hd, h⟩ := Option.map_eq_some_iff.mp h
  subst h
  exact v _ _ _ _ _ ok.1 (asDat_some hd) H (Ex.refl H) _ fun w H2 e2 g => q _ _ ⟨(ok.1.ex e2).set g, by rw [List.getElem?_set_ne hij]; exact ok.2⟩
theorem u_ret (he : JE X e f1) : JM X j (.Return (some e) pos) (uRet f1) := by
  obtain ⟨te, p, v⟩ := he
  refine ⟨_, ps_ret p, fun H0 D a σ H ρ fl ok h q => ?_⟩
  unfold uRet at h
  obtain ⟨d, hd, h⟩ := Option.map_eq_some_iff.mp h
  subst h
  exact v _ _ _ _ _ ok.1 (asDat_some hd) H (Ex.refl H) _ fun w H2 e2 g => q w σ H2 ⟨ok.1.ex e2, ok.2⟩ g
theorem u_setI {x : Str} {p1 p2 : Pos} {fi fv : ME} {ei ev : Expr} (hi : JE X ei fi) (he : JE X ev fv) (hN : X.N[j]? = some x := by rfl) (hv : Vis X.env.scope x := by first | exact Or.inl rfl | exact Or.inr (Or.inl rfl) | exact Or.inr (Or.inr rfl)) (hd : (x == ("__debug__" : Str)) = false := by decide)
    (hcd : (x == ("__classdict__" : Str)) = false := by decide) (hpg : ∀ to ti, PE X (.Name x p1) to → PE X ei ti → PG X (.Subscript (.Name x p1) ei p2) (gSub to ti rSetL) := by exact fun to ti h1 h2 => pg_sub h1 h2 set_list)
    (hs : swapsWithSole [.Subscript (.Name x p1) ei p2] ev pos.line X.env = pure false := by rfl) (hw : swappedStores [.Subscript (.Name x p1) ei p2] ev X.env = pure none := by rfl) : JM X j (.Assign [.Subscript (.Name x p1) ei p2] ev pos) (uSetI j fi fv) := by
  obtain ⟨ti, pi, vi⟩ := hi
  obtain ⟨te, p, v⟩ := he
  refine ⟨_, ps_asg p (hpg _ _ (pe_var hN hv hd hcd) pi) hs hw, fun H0 D a σ H ρ fl ok h q => ?_⟩
  obtain ⟨ok, sj⟩ := ok
  unfold uSetI at h
  split at h
  · rename_i xs hx
    obtain ⟨d, hd', h⟩ := Option.bind_eq_some_iff.mp h
    obtain ⟨k, hk, h⟩ := Option.bind_eq_some_iff.mp h
    obtain ⟨n, hn, h⟩ := Option.map_eq_some_iff.mp h
    subst h
    obtain ⟨l, vs, s, hl', g⟩ := ok.own hx
    refine v _ _ _ _ _ ok (asDat_some hd') H (Ex.refl H) _ fun w H2 e2 gw => ?_
    refine ⟨_, s, ?_⟩
    refine (vi _ _ _ _ _ ok (asInt_some hk)).int H2 e2 _ fun H3 e3 => ?_
    exact ⟨l, vs, k, n, rfl, rfl, e3 _ _ (e2 _ _ hl'), by rw [g.length]; exact hn, q _ _ ⟨((ok.ex e2).ex e3).mut hx s (e3 _ _ (e2 _ _ hl')) (((g.ex e2).ex e3).set n (Den.ex gw e3)), sj⟩⟩
  · cases h
end
end
end Tl

namespace Tl
open PySem PySem.Spec PyProof.Rows L2 Evl
noncomputable section
section
variable {X : Cx} {H0 H H' : Hp} {σ : L2.St} {ρ : Rho} {j : Nat} {a : Addr}
theorem Ok.call {xs ys : List D} {us us' : List V} (ok : Ok X H0 σ H ρ) (hj : ρ[j]? = some (.own xs)) (sj : σ[j]? = some (some (.ref a))) (hu : H a = some (.lst us)) (e : Ex (delH H a) (delH H' a)) (h' : H' a = some (.lst us')) (hd : DenL X.K H' us' ys) :
    Ok X H0 σ H' (ρ.set j (.own ys)) := by
  have ex : Ex H (upd H' a (.lst us)) := e.delB hu
  have ok2 := (ok.ex ex).mut (a := a) hj sj (us := us) upd_same (hd.imp (TEx.mut (ys := us) h'))
  have eq : upd (upd H' a (.lst us)) a (.lst us') = H' := by
    funext b
    by_cases q : b = a
    · subst q; rw [upd_same, h']
    · rw [upd_ne q, upd_ne q]
  rw [eq] at ok2
  exact ok2
end
/-! arguments of which one is the list itself -/
def JAk (X : Cx) (es : List Expr) (j k : Nat) (ma : MA) : Prop := ∃ ta, PA X es ta ∧ ∀ H0 σ H ρ rs a, Ok X H0 σ H ρ → σ[j]? = some (some (.ref a)) → ma ρ = some rs → ∀ H1, Ex H H1 → ∀ Q : List V → Hp → Prop,
  (∀ vs H2, Ex H1 H2 → vs[k]? = some (.ref a) → ArgL X.K H2 (vs.eraseIdx k) rs → Q vs H2) → ta σ H1 Q
section
variable {X : Cx} {W : WX} {a b c e : Expr} {pos p p2 p3 : Pos} {f1 f2 f3 : ME} {es : List Expr} {ma : MA} {j k : Nat}
theorem ak_here {x : Str} (h : JA X es ma) (hN : X.N[j]? = some x := by rfl) (hv : Vis X.env.scope x := by first | exact Or.inl rfl | exact Or.inr (Or.inl rfl) | exact Or.inr (Or.inr rfl)) (hd : (x == ("__debug__" : Str)) = false := by decide) (hcd : (x == ("__classdict__" : Str)) = false := by decide)
    (hs : starEach (.Name x p :: es) X.env = (false, eval (.Name x p) X.env) :: starEach es X.env := by rfl) : JAk X (.Name x p :: es) j 0 ma := by
  obtain ⟨ta, pa, va⟩ := h
  refine ⟨_, pa_cons (pe_var hN hv hd hcd) pa hs, fun H0 σ H ρ rs a ok sj hm H1 e1 Q q => ⟨_, sj, ?_⟩⟩
  refine va _ _ _ _ _ ok hm H1 e1 _ fun vs H2 e2 g => ?_
  exact q _ H2 e2 rfl g
theorem ak_next (h1 : JE X a f1) (h : JAk X es j k ma) (hs : starEach (a :: es) X.env = (false, eval a X.env) :: starEach es X.env := by rfl) : JAk X (a :: es) j (k + 1) (aCons f1 ma) := by
  obtain ⟨te, pe, ve⟩ := h1
  obtain ⟨ta, pa, va⟩ := h
  refine ⟨_, pa_cons pe pa hs, fun H0 σ H ρ rs a ok sj hm H1 e1 Q q => ?_⟩
  unfold aCons at hm
  obtain ⟨r, hr, hm⟩ := Option.bind_eq_some_iff.mp hm
  obtain ⟨r2, hr2, hm⟩ := Option.map_eq_some_iff.mp hm
  subst hm
  refine ve _ _ _ _ _ ok hr H1 e1 _ fun v H2 e2 g => ?_
  refine va _ _ _ _ _ _ ok sj hr2 H2 (e1.trans e2) _ fun vs H3 e3 hk gs => ?_
  refine q _ H3 (e2.trans e3) (by simpa using hk) ?_
  rw [List.eraseIdx_cons_succ]
  exact .cons (g.arg.ex e3) gs
end
def startU (n k : Nat) (ds : List D) (xs : List D) : Rho := ((ds.map C.dat).take k ++ .own xs :: (ds.map C.dat).drop k) ++ List.replicate (n - (ds.length + 1)) .un
def outU (k : Nat) : Option FM → Option (D × List D)
  | some (.ret d ρ) => (match ρ[k]? with | some (.own ys) => some (d, ys) | _ => none)
  | some (.nx ρ) => (match ρ[k]? with | some (.own ys) => some (.non, ys) | _ => none)
  | none => none
def mDefU (n np k : Nat) (b : MM) : MirU := fun rs xs => if rs.length + 1 = np then (dats rs).bind fun ds => outU k (b (startU n k ds xs)) else none
def CalU (P : Program) (w : World) (K : PySem.W.Frag) (mg : Str → Option Value) (base : Heap) (x : Str) (l k : Nat) (m : MirU) : Prop :=
  ∃ f fd ps, FnOk P w K mg base CX0 l f fd ps (spU K mg k m) ∧ mg x = some (.ref f) ∧ PySem.W.keepIn K (.ref f) = true ∧ Binds K fd ps []
section
variable {X : Cx} {W : WX} {a b c e : Expr} {pos p p2 p3 cp : Pos} {f1 f2 f3 : ME} {es : List Expr} {ma : MA} {j k l : Nat} {m : MirU} {x : Str}
theorem ev_callU {ta : TA} {H0 H : Hp} {σ : L2.St} {ρ ρ' : Rho} {d : D} {E : XK} (va : ∀ H0 σ H ρ rs a, Ok X H0 σ H ρ → σ[j]? = some (some (.ref a)) → ma ρ = some rs → ∀ H1, Ex H H1 → ∀ Q : List V → Hp → Prop, (∀ vs H2, Ex H1 H2 → vs[k]? = some (.ref a) → ArgL X.K H2 (vs.eraseIdx k) rs → Q vs H2) → ta σ H1 Q)
    (ok : Ok X H0 σ H ρ) (h : callU j m ma ρ = some (d, ρ')) (Q : VK) (q : ∀ v H', Ok X H0 σ H' ρ' → Den X.K H' v d → Q v H') : tCall (spU X.K X.mg k m) [] E ta σ H Q := by
  unfold callU at h
  split at h
  · rename_i xs hx
    obtain ⟨rs, hrs, h⟩ := Option.bind_eq_some_iff.mp h
    obtain ⟨⟨d', ys⟩, hm, h⟩ := Option.map_eq_some_iff.mp h
    cases h
    obtain ⟨al, us, s, hl, g⟩ := ok.own hx
    refine va _ _ _ _ _ al ok s hrs H (Ex.refl H) _ fun vs H2 e2 hk gs => ?_
    rw [List.append_nil]
    refine ⟨al, us, xs, rs.map argN, d', ys, hk, e2 _ _ hl, g.ex e2, ⟨gs.norm, ok.tbs.ex e2⟩, hm, fun v H' us' ex h' hd' hv => ?_⟩
    exact q v H' ((ok.ex e2).call hx s (e2 _ _ hl) ex h' hd') hv
  · cases h
theorem u_retU (hij : JAk X (a :: es) j k ma) (h : CalU X.prog X.w X.K X.mg X.base x l k m) (hr : Room l X.A) (hg : Gl X x := by rfl) (hdb : (x == ("__debug__" : Str)) = false := by decide)
    (he : starEach (a :: es) X.env = (false, eval a X.env) :: starEach es X.env := by rfl) (hpl : (backTo cp (starEach es X.env)).any (·.1) = false := by rfl) : JM X j (.Return (some (.Call (.Name x p) (a :: es) [] cp)) pos) (uRetU j m ma) := by
  obtain ⟨f, fd, ps, F, hm, hk, hb⟩ := h
  obtain ⟨ta, pa, va⟩ := hij
  refine ⟨_, ps_ret (pe_call F hr hg hm hk hb .nil pass0 pa hdb he hpl), fun H0 D a σ H ρ fl ok h q => ?_⟩
  unfold uRetU at h
  obtain ⟨⟨d, ρ'⟩, hc, h⟩ := Option.map_eq_some_iff.mp h
  subst h
  exact ev_callU va ok.1 hc _ fun v H' ok' hv => q v σ H' ⟨ok', ok.2⟩ hv
theorem s_setU (i : Nat) {y : Str} {pos' : Pos} (hij : JAk X (a :: es) j k ma) (h : CalU X.prog X.w X.K X.mg X.base x l k m) (hr : Room l X.A) (hN : X.N.Nodup) (hg : Gl X x := by rfl) (hdb : (x == ("__debug__" : Str)) = false := by decide)
    (he : starEach (a :: es) X.env = (false, eval a X.env) :: starEach es X.env := by rfl) (hpl : (backTo cp (starEach es X.env)).any (·.1) = false := by rfl)
    (hi : X.N[i]? = some y := by rfl) (hx : Loc X.env.scope y := by first | exact Or.inl rfl | exact Or.inr rfl) (hs : swapsWith (.Call (.Name x p) (a :: es) [] cp) (some (.Name y pos')) pos.line X.env = pure false := by rfl)
    (hf : X.fn y = true ∨ X.env.scope.names.lookup y = some .local := by first | exact .inl rfl | exact .inr rfl | assumption) : JS X W (.Assign [.Name y pos'] (.Call (.Name x p) (a :: es) [] cp) pos) (mSetU i j m ma) := by
  obtain ⟨f, fd, ps, F, hm, hk, hb⟩ := h
  obtain ⟨ta, pa, va⟩ := hij
  refine ⟨_, ps_set hN hi hx (pe_call F hr hg hm hk hb .nil pass0 pa hdb he hpl) hs hf, fun H0 D σ H ρ fl ok h q => ?_⟩
  unfold mSetU at h
  obtain ⟨⟨d, ρ'⟩, hc, h⟩ := Option.map_eq_some_iff.mp h
  subst h
  exact ev_callU va ok hc _ fun v H' ok' hv => q _ _ (ok'.set hv)
end
end
end Tl

namespace Tl
open PySem PySem.Spec PyProof.Rows L2 Evl
noncomputable section
theorem u1 {k : Nat} {A : Around} (r : Room k A) : A.units + 1 < cLine := by
  have := r.units
  omega
theorem startU_get {n k : Nat} {ds xs : List D} (hk : k ≤ ds.length) {i : Nat} {c : C} (h : (startU n k ds xs)[i]? = some c) :
    (i < k ∧ ∃ d, ds[i]? = some d ∧ c = .dat d) ∨ (i = k ∧ c = .own xs) ∨ (k < i ∧ ∃ d, ds[i - 1]? = some d ∧ c = .dat d) ∨ c = .un := by
  unfold startU at h
  have lt : ((ds.map C.dat).take k).length = k := by rw [List.length_take, List.length_map]; omega
  rw [List.getElem?_append] at h
  split at h
  · rw [List.getElem?_append] at h
    split at h
    · rename_i hi
      rw [lt] at hi
      rw [List.getElem?_take_of_lt hi, List.getElem?_map] at h
      cases q : ds[i]? with
      | none => rw [q] at h; cases h
      | some d => rw [q] at h; cases h; exact .inl ⟨hi, d, rfl, rfl⟩
    · rename_i hi
      rw [lt] at hi h
      by_cases e : i = k
      · subst e
        rw [Nat.sub_self] at h
        cases h
        exact .inr (.inl ⟨rfl, rfl⟩)
      · obtain ⟨u, hu⟩ : ∃ u, i = k + (u + 1) := ⟨i - k - 1, by omega⟩
        subst hu
        rw [show k + (u + 1) - k = u + 1 by omega, List.getElem?_cons_succ, List.getElem?_drop, List.getElem?_map] at h
        cases q : ds[k + u]? with
        | none => rw [q] at h; cases h
        | some d => rw [q] at h; cases h; exact .inr (.inr (.inl ⟨by omega, d, by rw [show k + (u + 1) - 1 = k + u by omega]; exact q, rfl⟩))
  · rw [List.getElem?_replicate] at h
    split at h
    · cases h; exact .inr (.inr (.inr rfl))
    · cases h
section
variable {P : Program} {w : World} {K : PySem.W.Frag} {mg : Str → Option Value} {base : Heap}
theorem startU_ok {X : Cx} {H : Hp} {a : Addr} {us vs : List V} {xs ds : List D} {k : Nat} (N : List Str) (hv : vs[k]? = some (.ref a)) (ha : H a = some (.lst us)) (hx : DenL X.K H us xs) (hd : DenL X.K H (vs.eraseIdx k) ds) (ht : Tbs X.K X.mg H) :
    Ok X (delH H a) (L2.start N vs) H (startU N.length k ds xs) := by
  have kl := lt_of_get hv
  have ln : vs.length = ds.length + 1 := by
    have z := hd.length
    rw [List.length_eraseIdx_of_lt kl] at z
    omega
  have ex : Ex (delH H a) H := exI fun b o hb => by
    by_cases q : b = a
    · subst q; rw [delH_same] at hb; cases hb
    · rw [delH_ne q] at hb; exact hb
  have sg : ∀ {i : Nat} {v : V}, vs[i]? = some v → (L2.start N vs)[i]? = some (some v) := fun {i v} e => by
    unfold L2.start
    rw [List.getElem?_append_left (by rw [List.length_map]; exact lt_of_get e), List.getElem?_map, e]
    rfl
  refine ⟨delH H a, ⟨Ex.refl _, ht.del ha (by first | assumption | (intro _ zz; cases zz))⟩, ex, ?_, fun i c hi => ?_, fun i i2 ys zs b h1 h2 _ _ => ?_⟩
  · unfold L2.start startU
    simp only [List.length_append, List.length_map, List.length_replicate, List.length_take, List.length_cons, List.length_drop]
    omega
  · rcases startU_get (by omega) hi with ⟨hlt, d, hdd, rfl⟩ | ⟨rfl, rfl⟩ | ⟨hlt, d, hdd, rfl⟩ | rfl
    · obtain ⟨v, h1, h2⟩ := hd.get hdd
      rw [List.getElem?_eraseIdx_of_lt hlt] at h1
      exact ⟨v, sg h1, h2⟩
    · exact ⟨a, us, sg hv, delH_same, ha, hx⟩
    · obtain ⟨v, h1, h2⟩ := hd.get hdd
      rw [List.getElem?_eraseIdx_of_ge (by omega), show i - 1 + 1 = i by omega] at h1
      exact ⟨v, sg h1, h2⟩
    · trivial
  · rcases startU_get (by omega) h1 with ⟨_, d, _, e⟩ | ⟨e1, _⟩ | ⟨_, d, _, e⟩ | e
    · cases e
    · rcases startU_get (by omega) h2 with ⟨_, d, _, e⟩ | ⟨e2, _⟩ | ⟨_, d, _, e⟩ | e
      · cases e
      · rw [e1, e2]
      · cases e
      · cases e
    · cases e
    · cases e
theorem d_okU {x qual : Str} {st : Stmt} {f : Addr} {fd : FuncData} {N ps : List Str} {l k : Nat} {mb : MM} (F : Fun K x qual st f fd) (S : FnScope N ps (defScope st))
    (hb : ∀ (cdv : Value) (A : Around) (outer : List Env) (s : Shared) (H : Hp) (E : XK), Room l (A.deeper (envOfC qual (defScope st) s.heap.objs.size f cdv)) → JMB (cxOf CX0 P w K mg base N qual (defScope st) f cdv A outer s H E).nox k (defBody st) mb) :
    FnOk P w K mg base CX0 (l + 1) f fd ps (spU K mg k (mDefU N.length ps.length k mb)) := by
  refine F.ok S (fun vs H Q E h => ?_) (fun cdv A outer s H vs Q E hr h => ?_)
  · obtain ⟨a, us, xs, rs, d, ys, hv, _, _, ha, hm, _⟩ := h
    unfold mDefU at hm
    split at hm
    · rename_i hl
      have z := ha.length
      rw [List.length_eraseIdx_of_lt (lt_of_get hv)] at z
      have := lt_of_get hv
      omega
    · cases hm
  · obtain ⟨a, us, xs, rs, d, ys, hv, hl, hx, ha, hm, q⟩ := h
    obtain ⟨ts, p, v⟩ := hb cdv A outer s H E hr
    unfold mDefU at hm
    split at hm
    · obtain ⟨ds, hds, hm⟩ := Option.bind_eq_some_iff.mp hm
      refine ⟨ts, p, ?_⟩
      have ok := startU_ok (X := (cxOf CX0 P w K mg base N qual (defScope st) f cdv A outer s H E).nox) N hv hl hx (dats_of hds ha.l) ha.tb
      have sj : (L2.start N vs)[k]? = some (some (.ref a)) := by
        unfold L2.start
        rw [List.getElem?_append_left (by rw [List.length_map]; exact lt_of_get hv), List.getElem?_map, hv]
        rfl
      cases hf : mb (startU N.length k ds xs) with
      | none => rw [hf] at hm; cases hm
      | some fl =>
        rw [hf] at hm
        have fin : ∀ {σ' : L2.St} {H' : Hp} {ρ' : Rho} {ys' : List D}, OkJ (cxOf CX0 P w K mg base N qual (defScope st) f cdv A outer s H E).nox (delH H a) k a σ' H' ρ' → ρ'[k]? = some (.own ys') → ∃ us', Ex (delH H a) (delH H' a) ∧ H' a = some (.lst us') ∧ DenL K H' us' ys' := fun {σ' H' ρ' ys'} ok' hk => by
          obtain ⟨ok1, s1⟩ := ok'
          obtain ⟨al, us', s2, hl', g'⟩ := ok1.own hk
          rw [s1] at s2
          cases s2
          exact ⟨us', ok1.base.del2, hl', g'⟩
        refine v (delH H a) _ a _ H _ fl ⟨ok, sj⟩ hf ?_
        cases fl with
        | ret d' ρ' =>
          intro u σ' H' ok' gu
          have hm' : (match ρ'[k]? with | some (.own ys) => some (d', ys) | _ => none) = some (d, ys) := hm
          split at hm'
          · rename_i ys' hk
            cases hm'
            obtain ⟨us', e1, e2, e3⟩ := fin ok' hk
            exact q u H' us' e1 e2 e3 gu
          · cases hm'
        | nx ρ' =>
          intro σ' H' ok'
          have hm' : (match ρ'[k]? with | some (.own ys) => some (D.non, ys) | _ => none) = some (d, ys) := hm
          split at hm'
          · rename_i ys' hk
            cases hm'
            obtain ⟨us', e1, e2, e3⟩ := fin ok' hk
            exact q .non H' us' e1 e2 e3 .non
          · cases hm'
    · cases hm
end
end
end Tl

namespace Tl
open PySem PySem.Spec PyProof.Rows L2 Evl
noncomputable section
/-! ### defs that give back a new list and a value together -/
abbrev MP := Rho → Option (List D × D)
abbrev MirP := List R → Option (List D × D)
def GotP (K : PySem.W.Frag) (H0 : Hp) (v : V) (H : Hp) (xs : List D) (d : D) : Prop := ∃ (b a : Addr) (us : List V) (u : V), v = .ref b ∧ SqT K H b [.ref a, u] ∧ H0 a = none ∧ H a = some (.lst us) ∧ DenL K H us xs ∧ Den K H u d
def JP (X : Cx) (sts : List Stmt) (m : MP) : Prop := ∃ ts, PSs X sts ts ∧ ∀ H0 D σ H ρ xs d, Ok X H0 σ H ρ → m ρ = some (xs, d) → (∀ v H', Ex H0 H' → GotP X.K H0 v H' xs d → D.rt v H') → ts D σ H
def pSeq (s : MS) (t : MP) : MP := fun ρ => match s ρ with
  | some (.nx ρ') => t ρ'
  | _ => none
def pRet (i : Nat) (f : ME) : MP := fun ρ => match ρ[i]? with
  | some (.own xs) => (asDat (f ρ)).map fun d => (xs, d)
  | _ => none
def mDefP (n np : Nat) (b : MP) : MirP := fun rs => if rs.length = np then b (startC n rs) else none
def spP (K : PySem.W.Frag) (mg : Str → Option Value) (m : MirP) : Sp := fun vs H Q _ => ∃ (rs : List R) (xs : List D) (d : D), ArgT K mg H vs rs ∧ m rs = some (xs, d) ∧ ∀ v H', Ex H H' → GotP K H v H' xs d → Q v H'
def CalP (P : Program) (w : World) (K : PySem.W.Frag) (mg : Str → Option Value) (base : Heap) (x : Str) (l : Nat) (m : MirP) : Prop :=
  ∃ f fd ps, FnOk P w K mg base CX0 l f fd ps (spP K mg m) ∧ mg x = some (.ref f) ∧ PySem.W.keepIn K (.ref f) = true ∧ Binds K fd ps []
/-- i, j = f(..) -/
def mUnP (i j : Nat) (m : MirP) (ma : MA) : MS := fun ρ => (ma ρ).bind fun rs => (m (rs.map argN)).map fun p => .nx ((ρ.set i (.own p.1)).set j (.dat p.2))
section
variable {X : Cx} {W : WX} {a b c e : Expr} {pos p p2 p3 cp : Pos} {f1 : ME} {es : List Expr} {ma : MA} {st : Stmt} {sts : List Stmt} {m1 : MS} {m2 : MP}
theorem p_cons (h1 : JS X W st m1) (h2 : JP X sts m2) : JP X (st :: sts) (pSeq m1 m2) := by
  obtain ⟨ts, p, v⟩ := h1
  obtain ⟨tr, pr, vr⟩ := h2
  refine ⟨_, pss_cons p pr, fun H0 D σ H ρ xs d ok h q => ?_⟩
  unfold pSeq at h
  show ts { D with nx := tr D } σ H
  split at h
  · rename_i ρ' hm
    exact v H0 _ σ H ρ _ ok hm fun σ' H' ok' => vr H0 D σ' H' ρ' xs d ok' h q
  · cases h
theorem p_ret (i : Nat) {x : Str} {k : Nat} (he : JE X e f1) (hN : X.N[i]? = some x := by rfl) (hv : Vis X.env.scope x := by first | exact Or.inl rfl | exact Or.inr (Or.inl rfl) | exact Or.inr (Or.inr rfl)) (hd : (x == ("__debug__" : Str)) = false := by decide)
    (hcd : (x == ("__classdict__" : Str)) = false := by decide) (hs : starEach (.Name x p :: [e]) X.env = (false, eval (.Name x p) X.env) :: starEach [e] X.env := by rfl) (hs2 : starEach [e] X.env = (false, eval e X.env) :: starEach [] X.env := by rfl) :
    JP X [.Return (some (.Tuple [.Name x p, e] k p2)) pos] (pRet i f1) := by
  obtain ⟨te, pe, ve⟩ := he
  refine ⟨_, pss_one (ps_ret (pe_tup (pa_cons (pe_var hN hv hd hcd) (pa_cons pe pa_nil hs2) hs))), fun H0 D σ H ρ xs d ok h q => ?_⟩
  unfold pRet at h
  split at h
  · rename_i xs' hx
    obtain ⟨d', hd', h⟩ := Option.map_eq_some_iff.mp h
    cases h
    have ba := ok.base
    obtain ⟨B, okb⟩ := ok
    obtain ⟨al, us, s, nb, hl, g⟩ := okb.slot i _ hx
    refine ⟨_, s, ?_⟩
    refine ve _ _ _ _ _ ⟨B, okb⟩ (asDat_some hd') H (Ex.refl H) _ fun w H2 e2 gw => ?_
    have nz : H0 al = none := fresh_back okb.e0.ex nb
    refine ⟨show 2 ≤ sizeLine by decide, fun b nbb => q _ _ ((ba.trans e2).trans (Ex.new nbb)) ⟨b, al, us, w, rfl, st_of upd_same, nz, ?_, ?_, ?_⟩⟩
    · exact Ex.new nbb _ _ (e2 _ _ hl)
    · exact (g.ex e2).ex (Ex.new nbb)
    · exact Den.ex gw (Ex.new nbb)
  · cases h
theorem s_unP (i j : Nat) {x y z : Str} {l k : Nat} {m : MirP} (h : CalP X.prog X.w X.K X.mg X.base x l m) (hr : Room l X.A) (hc : X.calm = true) (hN : X.N.Nodup) (ha : JA X (a :: es) ma) (hg : Gl X x := by rfl) (hdb : (x == ("__debug__" : Str)) = false := by decide)
    (he : starEach (a :: es) X.env = (false, eval a X.env) :: starEach es X.env := by rfl) (hpl : (backTo cp (starEach es X.env)).any (·.1) = false := by rfl)
    (hi : X.N[i]? = some y := by rfl) (hj : X.N[j]? = some z := by rfl) (hxi : Loc X.env.scope y := by first | exact Or.inl rfl | exact Or.inr rfl) (hxj : Loc X.env.scope z := by first | exact Or.inl rfl | exact Or.inr rfl)
    (hfi : X.fn y = true ∨ X.env.scope.names.lookup y = some .local := by first | exact .inl rfl | exact .inr rfl | assumption) (hfj : X.fn z = true ∨ X.env.scope.names.lookup z = some .local := by first | exact .inl rfl | exact .inr rfl | assumption)
    (hpg : ∀ t, PGs X [.Name y p2, .Name z p3] t → PG X (.Tuple [.Name y p2, .Name z p3] k p) (gTup X.K 2 t) := by exact fun t h => pg_tup rfl h)
    (hs2 : ∀ t u, PG X (.Name y p2) t → PGs X [.Name z p3] u → PGs X [.Name y p2, .Name z p3] (gCons t u) := by exact fun t u h1 h2 => pgs_cons h1 h2) (hs3 : ∀ t u, PG X (.Name z p3) t → PGs X [] u → PGs X [.Name z p3] (gCons t u) := by exact fun t u h1 h2 => pgs_cons h1 h2)
    (h1 : List.map (fun x => x.snd) (assignEach [.Tuple [.Name y p2, .Name z p3] k p] X.env) = [assign (.Tuple [.Name y p2, .Name z p3] k p) X.env] := by rfl) {np : Pos}
    (hs : swapsWithSole [.Tuple [.Name y p2, .Name z p3] k p] (.Call (.Name x np) (a :: es) [] cp) pos.line X.env = pure false := by rfl) (hw : swappedStores [.Tuple [.Name y p2, .Name z p3] k p] (.Call (.Name x np) (a :: es) [] cp) X.env = pure none := by rfl) :
    JS X W (.Assign [.Tuple [.Name y p2, .Name z p3] k p] (.Call (.Name x np) (a :: es) [] cp) pos) (mUnP i j m ma) := by
  obtain ⟨f, fd, ps, F, hm, hk, hb⟩ := h
  obtain ⟨ta, pa, va⟩ := ha
  refine ⟨_, ps_asg (pe_call F hr hg hm hk hb .nil pass0 pa hdb he hpl) (hpg _ (hs2 _ _ (pg_name hN hi hxi hfi) (hs3 _ _ (pg_name hN hj hxj hfj) pgs_nil))) hs hw h1, fun H0 D σ H ρ fl ok h q => ?_⟩
  unfold mUnP at h
  obtain ⟨rs, hrs, h⟩ := Option.bind_eq_some_iff.mp h
  obtain ⟨⟨xs, d⟩, hmm, h⟩ := Option.map_eq_some_iff.mp h
  subst h
  refine va _ _ _ _ _ ok hrs H (Ex.refl H) _ fun vs H2 e2 gs => ?_
  rw [List.append_nil]
  refine ⟨rs.map argN, xs, d, ⟨gs.norm, ok.tbs.ex e2⟩, hmm, fun v H' e3 g => ?_⟩
  obtain ⟨b, al, us, u, rfl, hq, n0, hl, gl, gu⟩ := g
  refine ⟨_, _, rfl, hq, rfl, _, _, rfl, _, _, rfl, rfl, ?_⟩
  exact q _ _ (((ok.ex e2).setL e3 n0 hl gl).set gu)
end
section
variable {P : Program} {w : World} {K : PySem.W.Frag} {mg : Str → Option Value} {base : Heap}
theorem d_okP {x qual : Str} {st : Stmt} {f : Addr} {fd : FuncData} {N ps : List Str} {k : Nat} {mb : MP} (F : Fun K x qual st f fd) (S : FnScope N ps (defScope st))
    (hb : ∀ (cdv : Value) (A : Around) (outer : List Env) (s : Shared) (H : Hp) (E : XK), Room k (A.deeper (envOfC qual (defScope st) s.heap.objs.size f cdv)) → JP (cxOf CX0 P w K mg base N qual (defScope st) f cdv A outer s H E).nox (defBody st) mb) :
    FnOk P w K mg base CX0 (k + 1) f fd ps (spP K mg (mDefP N.length ps.length mb)) := by
  refine F.ok S (fun vs H Q E h => ?_) (fun cdv A outer s H vs Q E hr h => ?_)
  · obtain ⟨rs, xs, d, ha, hm, _⟩ := h
    unfold mDefP at hm
    split at hm
    · rename_i hl
      rw [ha.length]; exact hl
    · cases hm
  · obtain ⟨rs, xs, d, ha, hm, q⟩ := h
    obtain ⟨ts, p, v⟩ := hb cdv A outer s H E hr
    unfold mDefP at hm
    split at hm
    · exact ⟨ts, p, v H _ _ H _ xs d (start_ok (X := (cxOf CX0 P w K mg base N qual (defScope st) f cdv A outer s H E).nox) ha N) hm fun u H' e g => q u H' e g⟩
    · cases hm
end
end
end Tl

namespace Tl
open PySem PySem.Spec PyProof.Rows L2 Evl
noncomputable section
/-! ### defs that call themselves: the mirror of depth nought answers nothing -/
section
variable {P : Program} {w : World} {K : PySem.W.Frag} {mg : Str → Option Value} {base : Heap}
theorem cal_none {x qual : Str} {st : Stmt} {f : Addr} {fd : FuncData} {ps : List Str} {k : Nat} (F : Fun K x qual st f fd) (gm : mg x = some (.ref f)) (hb : Binds K fd ps []) : Cal P w K mg base x k (fun _ => none) :=
  ⟨f, fd, ps, ⟨fun vs H Q E h => (by obtain ⟨rs, r, ha, hm, _⟩ := h; cases hm), fun A outer s H args us vs Q E hr e0 hbt r h => (by obtain ⟨rs, r, ha, hm, _⟩ := h; cases hm)⟩, gm, F.kp, hb⟩
end
end
end Tl

namespace Tl
open PySem PySem.Spec PyProof.Rows L2 Evl
noncomputable section
/-! ### range downwards, the signs of a text, int of a text -/
def okRd (i j c : Int) : Bool := okP (-100000 ≤ i ∧ i ≤ 100000 ∧ -100000 ≤ j ∧ j ≤ 100000 ∧ c = -1)
def iRd (f g h : ME) : MI := fun ρ => (asInt (f ρ)).bind fun i => (asInt (g ρ)).bind fun j => (asInt (h ρ)).bind fun c => if okRd i j c = true then some (rngC i (-1) (i - j).toNat, ρ) else none
def chD (z : Str) : List D := z.cps.toList.map fun c => .str ⟨#[c]⟩
def iS (f : ME) : MI := fun ρ => (asStr (f ρ)).map fun z => (chD z, ρ)
section
variable {X : Cx} {W : WX} {a b c e : Expr} {pos p : Pos} {f1 f2 f3 : ME} {es : List Expr} {ma : MA} {tg it elt : Expr}
theorem i_rd {p : Pos} (hm : X.mg "range" = none) (ha : JE X a f1) (hb : JE X b f2) (hc : JE X c f3) (hg : Gl X "range" := by rfl) (hs : starEach [a, b, c] X.env = (false, eval a X.env) :: starEach [b, c] X.env := by rfl)
    (hs2 : starEach (b :: [c]) X.env = (false, eval b X.env) :: starEach [c] X.env := by rfl) (hs3 : starEach (c :: []) X.env = (false, eval c X.env) :: starEach [] X.env := by rfl) (hpl : (backTo pos (starEach [b, c] X.env)).any (·.1) = false := by rfl) :
    JI X tg (.Call (.Name "range" p) [a, b, c] [] pos) (iRd f1 f2 f3) := by
  obtain ⟨ta, pa, va⟩ := ha
  obtain ⟨tb, pb, vb⟩ := hb
  obtain ⟨tc, pc, vc⟩ := hc
  refine ⟨_, pi_range3 hg hm (pa_cons pa (pa_cons pb (pa_cons pc pa_nil hs3) hs2) hs) hs hpl, fun H0 σ H ρ ds ρ' ok h R' k => ?_⟩
  unfold iRd at h
  obtain ⟨i, hi, h⟩ := Option.bind_eq_some_iff.mp h
  obtain ⟨j, hj, h⟩ := Option.bind_eq_some_iff.mp h
  obtain ⟨d, hd, h⟩ := Option.bind_eq_some_iff.mp h
  split at h
  · rename_i hz
    cases h
    obtain ⟨h0, h1, h2, h3, h4⟩ := okP_of hz
    subst h4
    refine (va _ _ _ _ _ ok (asInt_some hi)).int H (Ex.refl H) _ fun H1 e1 => ?_
    refine (vb _ _ _ _ _ ok (asInt_some hj)).int H1 e1 _ fun H2 e2 => ?_
    refine (vc _ _ _ _ _ ok (asInt_some hd)).int H2 (e1.trans e2) _ fun H3 e3 => ?_
    have e123 := (e1.trans e2).trans e3
    exact ⟨i, j, -1, (i - j).toNat, rfl, RgC.neg (by omega) (by omega) (by omega) (by omega), k _ H3 H0 (Ex.refl _) (ok.ex e123) e123 itd_rangeC⟩
  · cases h
theorem itd_str {K : PySem.W.Frag} {H0 : Hp} {z : Str} : ItD K H0 (Its z) (chD z) where
  go := fun i H _ h => by
    unfold chD at h
    have h2 : i < z.cps.size := by simpa using h
    exact h2
  yld := fun i H x H' _ h ⟨e1, c, hc, e2⟩ => by
    subst e1 e2
    refine ⟨Ex.refl _, .str ⟨#[c]⟩, ?_, .str _⟩
    unfold chD
    rw [List.getElem?_map, Array.getElem?_toList, hc]
    rfl
  stop := fun i H _ h => by
    unfold chD at h
    have h2 : z.cps.size ≤ i := by simpa using h
    exact h2
theorem i_s (ha : JE X a f1) : JI X tg a (iS f1) := by
  obtain ⟨ta, pa, va⟩ := ha
  refine ⟨_, pi_str pa, fun H0 σ H ρ ds ρ' ok h R' k => ?_⟩
  unfold iS at h
  obtain ⟨z, hz, h⟩ := Option.map_eq_some_iff.mp h
  cases h
  refine (va _ _ _ _ _ ok (asStr_some hz)).str H (Ex.refl H) _ fun H2 e2 => ?_
  exact ⟨z, rfl, k _ H2 H0 (Ex.refl _) (ok.ex e2) e2 itd_str⟩
def mIntS (f : ME) : ME := fun ρ => (asStr (f ρ)).bind fun z => if okP (z.length ≤ 640) = true then (PySem.intText? z).map fun n => .dat (.int n) else none
theorem x_intS {p : Pos} (hm : X.mg "int" = none) (ha : JE X a f1) (hg : Gl X "int" := by rfl) (hs : starEach (a :: []) X.env = (false, eval a X.env) :: starEach [] X.env := by rfl) : JE X (.Call (.Name "int" p) [a] [] pos) (mIntS f1) := by
  obtain ⟨ta, pa, va⟩ := ha
  refine ⟨_, pe_callTy call_int_str hg hm PyProof.Rows.boot_int (pa_cons pa pa_nil hs) (he := hs), fun H0 σ H ρ r ok h => ?_⟩
  unfold mIntS at h
  obtain ⟨z, hz, h⟩ := Option.bind_eq_some_iff.mp h
  split at h
  · rename_i ho
    obtain ⟨n, hn, h⟩ := Option.map_eq_some_iff.mp h
    subst h
    intro H1 e1 Q q
    exact (va _ _ _ _ _ ok (asStr_some hz)).str H1 e1 _ fun H2 e2 => ⟨z, n, rfl, hn, okP_of ho, q _ _ e2 (.int _)⟩
  · cases h
def mSum (f : ME) : ME := fun ρ => ((asLst (f ρ)).bind intsOf).map fun ns => .dat (.int ns.sum)
theorem DenL.ints_back {K : PySem.W.Frag} {H : Hp} : ∀ {vs : List V} {ns : List Int}, DenL K H vs (ns.map D.int) → vs = ns.map V.int
  | _, [], h => by cases h; rfl
  | _, n :: ns, h => by
    cases h with
    | cons h1 h2 =>
      have h1 : Den K H _ (.int n) := h1
      cases h1
      rw [DenL.ints_back h2]
      rfl
theorem x_sum {p : Pos} (hc : X.calm = true) (hm : X.mg "sum" = none) (ha : JE X a f1) (hg : Gl X "sum" := by rfl) (hs : starEach (a :: []) X.env = (false, eval a X.env) :: starEach [] X.env := by rfl) : JE X (.Call (.Name "sum" p) [a] [] pos) (mSum f1) := by
  obtain ⟨ta, pa, va⟩ := ha
  refine ⟨_, pe_callB (cr_sum hc) hg hm (by decide +kernel) (pa_cons pa pa_nil hs) (he := hs), fun H0 σ H ρ r ok h => ?_⟩
  unfold mSum at h
  obtain ⟨ns, hb, h⟩ := Option.map_eq_some_iff.mp h
  obtain ⟨xs, hx, hb⟩ := Option.bind_eq_some_iff.mp hb
  subst h
  have e := intsOf_eq hb
  subst e
  intro H1 e1 Q q
  refine ev_lst hx (fun r hr => va _ _ _ _ _ ok hr) H1 e1 _ fun v H2 e2 ⟨p, vs, hv, hl, hdn⟩ => ?_
  subst hv
  have e3 := DenL.ints_back hdn
  subst e3
  exact ⟨p, ns, rfl, hl, q _ H2 e2 (.int _)⟩
end
end
end Tl

namespace Tl
open PySem PySem.Spec PyProof.Rows L2 Evl
noncomputable section
/-! ### plain lemmas: loops by an invariant, comprehensions by a map, data without dicts -/
theorem loop_inv {g : MG} {body : MS} (P : Nat → Rho → Prop) : ∀ (ds : List D) (i : Nat), (∀ j d, ds[j]? = some d → ∀ ρ, P (i + j) ρ → ∃ ρ1 ρ2, g d ρ = some ρ1 ∧ body ρ1 = some (.nx ρ2) ∧ P (i + j + 1) ρ2) → ∀ ρ, P i ρ → ∃ ρ', loopM g body ds ρ = some (.nx ρ') ∧ P (i + ds.length) ρ'
  | [], i, _, ρ, h => ⟨ρ, rfl, h⟩
  | d :: ds, i, hs, ρ, h => by
    obtain ⟨ρ1, ρ2, h1, h2, h3⟩ := hs 0 d rfl ρ h
    obtain ⟨ρ', h4, h5⟩ := loop_inv P ds (i + 1) (fun j e he ρ hp => by
      have := hs (j + 1) e (by simpa using he) ρ (by rw [← Nat.add_assoc, Nat.add_right_comm]; exact hp)
      rw [← Nat.add_assoc] at this
      rw [Nat.add_right_comm i 1 j]
      exact this) ρ2 h3
    refine ⟨ρ', ?_, by rw [List.length_cons, ← Nat.add_assoc, Nat.add_right_comm]; exact h5⟩
    rw [loop_nx h1 h2]
    exact h4
theorem rngD_inv {lo : Int} {n j : Nat} {d : D} (h : (rngD lo n)[j]? = some d) : j < n ∧ d = .int (lo + (j : Nat)) := by
  by_cases hj : j < n
  · rw [rngD_get hj] at h
    cases h
    exact ⟨hj, rfl⟩
  · rw [List.getElem?_eq_none (by rw [rngD_len]; omega)] at h
    cases h
theorem rngC_inv {lo c : Int} {n j : Nat} {d : D} (h : (rngC lo c n)[j]? = some d) : j < n ∧ d = .int (lo + (j : Nat) * c) := by
  by_cases hj : j < n
  · rw [rngC_get hj] at h
    cases h
    exact ⟨hj, rfl⟩
  · rw [List.getElem?_eq_none (by rw [rngC_len]; omega)] at h
    cases h
theorem bls_map {α : Type} : ∀ xs : List α, blsOf (xs.map fun _ => D.bl true) = some (xs.map fun _ => true)
  | [] => rfl
  | _ :: xs => by
    show (blsOf (xs.map fun _ => D.bl true)).map _ = _
    rw [bls_map xs]
    rfl
theorem lc_map {g : MG} {f : ME} {ρ : Rho} (e : D → D) : ∀ (ds : List D), (∀ d ∈ ds, ∃ ρ1, g d ρ = some ρ1 ∧ f ρ1 = some (.dat (e d))) → lcM g tYesM f ρ ds = some (ds.map e)
  | [], _ => rfl
  | d :: ds, h => by
    obtain ⟨ρ1, h1, h2⟩ := h d (by simp)
    unfold lcM
    rw [h1]
    simp only [Option.bind_some, tYesM, if_true, h2, asDat]
    rw [lc_map e ds fun x hx => h x (by simp [hx])]
    rfl
theorem lc_mapA {α : Type} {g : MG} {f : ME} {ρ : Rho} (a : α → D) (e : α → D) : ∀ (xs : List α), (∀ x ∈ xs, ∃ ρ1, g (a x) ρ = some ρ1 ∧ f ρ1 = some (.dat (e x))) → lcM g tYesM f ρ (xs.map a) = some (xs.map e)
  | [], _ => rfl
  | d :: ds, h => by
    obtain ⟨ρ1, h1, h2⟩ := h d (by simp)
    rw [List.map_cons]
    unfold lcM
    rw [h1]
    simp only [Option.bind_some, tYesM, if_true, h2, asDat]
    rw [lc_mapA a e ds fun x hx => h x (by simp [hx])]
    rfl
def nice : Nat → D → Prop
  | 0 => fun d => match d with
    | .tup _ => False
    | .dic _ => False
    | .str x => PyData.strOk x = true
    | _ => True
  | k + 1 => fun d => match d with
    | .tup xs => xs.length ≤ 1000 ∧ ∀ x ∈ xs, nice k x
    | .dic _ => False
    | .str x => PyData.strOk x = true
    | _ => True
theorem nice_int {k : Nat} {i : Int} : nice k (.int i) := by cases k <;> trivial
theorem nice_bl {k : Nat} {i : Bool} : nice k (.bl i) := by cases k <;> trivial
theorem nice_non {k : Nat} : nice k .non := by cases k <;> trivial
theorem nice_str {k : Nat} {x : Str} (h : PyData.strOk x = true) : nice k (.str x) := by cases k <;> exact h
theorem nice_tup {k : Nat} {xs : List D} (h : xs.length ≤ 1000) (h2 : ∀ x ∈ xs, nice k x) : nice (k + 1) (.tup xs) := ⟨h, h2⟩
theorem all_true {α : Type} : ∀ xs : List α, (xs.map fun _ => true).all id = true
  | [] => rfl
  | _ :: xs => all_true xs
theorem zip_same : ∀ xs : List D, zipD xs xs = xs.map fun x => .tup [x, x]
  | [] => rfl
  | x :: xs => by
    show D.tup [x, x] :: zipD xs xs = _
    rw [zip_same xs]; rfl
theorem shp_bl (i : Bool) : shp (.bl i) = true := shp_of rfl (Nat.zero_le _)
theorem shp_str {x : Str} (h : PyData.strOk x = true) : shp (.str x) = true := shp_of h (Nat.zero_le _)
/-- numbers by sixteens -/
def gr : List Int → Int
  | [] => 0
  | f :: t => f + 16 * gr t
theorem gr_snoc : ∀ (l : List Int) (x : Int), gr (l ++ [x]) = gr l + x * 16 ^ l.length
  | [], x => by simp [gr]
  | f :: t, x => by
    rw [List.cons_append]
    simp only [gr, gr_snoc t x, List.length_cons, Int.pow_succ]
    rw [Int.mul_add, Int.add_assoc, Int.mul_comm (16 ^ t.length) 16, Int.mul_left_comm]
theorem gr_fold : ∀ (l : List Int) (a : Int), l.reverse.foldl (fun a f => 16 * a + f) 0 = gr l
  | [], a => rfl
  | f :: t, a => by
    rw [List.reverse_cons, List.foldl_append, gr_fold t a]
    show 16 * gr t + f = f + 16 * gr t
    omega
def whyS (t : Int) : Str := if t < 10 then "none" else if t < 16 then "nine" else "carry"
def lineD (a b c : Int) : D := .tup [.int a, .int b, .int c, .int (a + b + c), .str (whyS (a + b + c)), .int ((a + b + c) % 10), .int ((a + b + c) / 10)]
def sxL : List Int → List Int → Int → List D
  | a :: as, b :: bs, c => lineD a b c :: sxL as bs ((a + b + c) / 10)
  | _, _, _ => []
def sxC : List Int → List Int → Int → Int
  | a :: as, b :: bs, c => sxC as bs ((a + b + c) / 10)
  | _, _, c => c
def six (t : Int) : Int := if t < 10 then 0 else 6
def sxA : List Int → List Int → Int → List Int
  | a :: as, b :: bs, c => six (a + b + c) :: sxA as bs ((a + b + c) / 10)
  | _, _, _ => []
def sxR : List Int → List Int → Int → List Int
  | a :: as, b :: bs, c => ((a + b + c) % 10) :: sxR as bs ((a + b + c) / 10)
  | _, _, _ => []
theorem sx_len : ∀ (as bs : List Int) (c : Int), as.length = bs.length → (sxL as bs c).length = as.length ∧ (sxA as bs c).length = as.length ∧ (sxR as bs c).length = as.length
  | [], [], c, _ => ⟨rfl, rfl, rfl⟩
  | a :: as, b :: bs, c, h => by
    obtain ⟨h1, h2, h3⟩ := sx_len as bs ((a + b + c) / 10) (by simpa using h)
    simp [sxL, sxA, sxR, h1, h2, h3]
  | [], _ :: _, _, h => by cases h
  | _ :: _, [], _, h => by cases h
theorem sx_snoc : ∀ (as bs : List Int) (c a b : Int), as.length = bs.length → sxL (as ++ [a]) (bs ++ [b]) c = sxL as bs c ++ [lineD a b (sxC as bs c)] ∧ sxC (as ++ [a]) (bs ++ [b]) c = (a + b + sxC as bs c) / 10 ∧ sxA (as ++ [a]) (bs ++ [b]) c = sxA as bs c ++ [six (a + b + sxC as bs c)]
  | [], [], c, a, b, _ => ⟨rfl, rfl, rfl⟩
  | x :: as, y :: bs, c, a, b, h => by
    obtain ⟨h1, h2, h3⟩ := sx_snoc as bs ((x + y + c) / 10) a b (by simpa using h)
    simp [sxL, sxA, sxC, h1, h2, h3]
  | [], _ :: _, _, _, _, h => by cases h
  | _ :: _, [], _, _, _, h => by cases h
theorem sx_right : ∀ (n : Nat) (x y c : Int), sxR (figs n x) (figs n y) c = figs n (x + y + c)
  | 0, _, _, _ => rfl
  | n + 1, x, y, c => by
    simp only [figs, sxR]
    rw [sx_right n]
    congr 1
    · omega
    · congr 1
      omega
theorem sx_sum : ∀ (as bs : List Int) (c : Int), as.length = bs.length → (∀ a ∈ as, 0 ≤ a ∧ a < 10) → (∀ a ∈ bs, 0 ≤ a ∧ a < 10) → (c = 0 ∨ c = 1) → gr as + gr bs + gr (sxA as bs c) + c = gr (sxR as bs c) + sxC as bs c * 16 ^ as.length
  | [], [], c, _, _, _, _ => by simp [gr, sxA, sxR, sxC]
  | a :: as, b :: bs, c, h, ha, hb, hc => by
    have a1 := ha a (by simp)
    have b1 := hb b (by simp)
    have ih := sx_sum as bs ((a + b + c) / 10) (by simpa using h) (fun z hz => ha z (by simp [hz])) (fun z hz => hb z (by simp [hz])) (by omega)
    simp only [gr, sxA, sxR, sxC, List.length_cons, Int.pow_succ]
    rw [← Int.mul_assoc]
    generalize sxC as bs ((a + b + c) / 10) * 16 ^ as.length = u at ih ⊢
    unfold six
    split <;> omega
  | [], _ :: _, _, h, _, _, _ => by cases h
  | _ :: _, [], _, h, _, _, _ => by cases h
theorem whyS_ok (t : Int) : PyData.strOk (whyS t) = true := by
  unfold whyS
  split
  · decide +kernel
  · split <;> decide +kernel
theorem nice_line (a b c : Int) : nice 1 (lineD a b c) := by
  refine ⟨by simp, fun x hx => ?_⟩
  simp only [List.mem_cons, List.not_mem_nil, or_false] at hx
  rcases hx with rfl | rfl | rfl | rfl | rfl | rfl | rfl
  all_goals first | exact nice_int | exact nice_str (whyS_ok _)
theorem nice_lines : ∀ (as bs : List Int) (c : Int), ∀ d ∈ sxL as bs c, nice 1 d
  | a :: as, b :: bs, c, d, h => by
    rcases List.mem_cons.mp h with rfl | h
    · exact nice_line a b c
    · exact nice_lines as bs _ d h
  | [], _, _, _, h => by simp [sxL] at h
  | _ :: _, [], _, _, h => by simp [sxL] at h
def sxD (n : Nat) (x y : Int) : D := .tup [.int (gr (figs n x) + gr (figs n y)), .int (gr (sxA (figs n x) (figs n y) 0)), .int (gr (figs n (x + y))), .int (sxC (figs n x) (figs n y) 0), .tup (sxL (figs n x) (figs n y) 0)]
theorem sxD_nice (n : Nat) (x y : Int) (h : n ≤ 12) : nice 3 (sxD n x y) := by
  refine ⟨by simp, fun d hx => ?_⟩
  simp only [List.mem_cons, List.not_mem_nil, or_false] at hx
  rcases hx with rfl | rfl | rfl | rfl | rfl
  all_goals first | exact nice_int | skip
  refine ⟨?_, fun d hd => ?_⟩
  · rw [(sx_len _ _ _ (by rw [figs_len, figs_len])).1, figs_len]; omega
  · exact nice_lines _ _ _ d hd
end
end Tl

namespace Tl
open PySem PySem.Spec PyProof.Rows L2 Evl
noncomputable section
/-! ### raise C(text), C without an __init__ of its own -/
def bmV : List Value := [.type "ValueError", .type "Exception", .type "BaseException", .type "object"]
def Xc0 (_ : Program) (_ : World) (K : PySem.W.Frag) (mg : Str → Option Value) (_ : Heap) (c : Str) : Prop :=
  ∃ C : Addr, mg c = some (.ref C) ∧ PySem.W.excIn K C bmV "ValueError.__new__" = true ∧ PySem.W.keepIn K (.ref C) = true ∧ PySem.W.subIn K (.ref C) (.type "BaseException") = some true ∧ PySem.W.typeIn K (.ref C) = some (.type "type")
def mRaise0 (c : Str) (f1 : ME) : MS := fun ρ => (asDat (f1 ρ)).map fun _ => .exc0 c ρ
section
variable {X : Cx} {W : WX} {a b : Expr} {pos p pos2 : Pos} {f1 f2 : ME} {c f g : Str}
theorem s_raise0 (h : Xc0 X.prog X.w X.K X.mg X.base c) (hc : X.calm = true) (hr : Room 2 X.A) (tk : L2N.Takes X W) (ha : JE X a f1) (hg : Gl X c := by rfl) (hdb : (c == ("__debug__" : Str)) = false := by decide)
    (he : starEach (a :: []) X.env = (false, eval a X.env) :: starEach [] X.env := by rfl) : JS X W (.Raise (some (.Call (.Name c p) [a] [] pos)) none pos2) (mRaise0 c f1) := by
  obtain ⟨C, gC, hq, kC, hb, hy⟩ := h
  obtain ⟨ta, pa, va⟩ := ha
  refine ⟨_, L2N.ps_raise hc tk (mkN1 PySem.F.excBase_ValueError hq gC kC (raises_own hb hy) hg pa he hdb), fun H0 D σ H ρ fl ok h q => ?_⟩
  unfold mRaise0 at h
  obtain ⟨d, hd, h⟩ := Option.map_eq_some_iff.mp h
  subst h
  refine va _ _ _ _ _ ok (asDat_some hd) H (Ex.refl H) _ fun v H2 e2 gv => ?_
  exact q C σ H2 gC (ok.ex e2)
end
end
end Tl

namespace Tl
open PySem PySem.Spec PyProof.Rows L2 Evl
noncomputable section
/-! ### a dict that is written out, then filled by name, then only read -/
section
variable {X : Cx} {W : WX} {a b c e : Expr} {pos p p2 p3 : Pos} {f1 f2 f3 : ME} {es : List Expr} {ma : MA}
/-- plain data that hangs on no object -/
def scD : Option R → Option D
  | some (.dat .non) => some .non
  | some (.dat (.bl b)) => some (.bl b)
  | some (.dat (.int b)) => some (.int b)
  | some (.dat (.str b)) => some (.str b)
  | _ => none
inductive Sca : V → D → Prop
  | non : Sca .non .non
  | bl (b : Bool) : Sca (.bl b) (.bl b)
  | int (b : Int) : Sca (.int b) (.int b)
  | str (b : Str) : Sca (.str b) (.str b)
theorem Sca.den {K : PySem.W.Frag} {H : Hp} {v : V} {d : D} (h : Sca v d) : Den K H v d := by
  cases h
  · exact .non
  · exact .bl _
  · exact .int _
  · exact .str _
theorem scD_some {o : Option R} {d : D} (h : scD o = some d) : o = some (.dat d) ∧ ∀ (K : PySem.W.Frag) (H : Hp) (v : V), Den K H v d → Sca v d := by
  unfold scD at h
  split at h
  · cases h
    refine ⟨rfl, fun K H v g => ?_⟩
    cases g; exact .non
  · cases h
    refine ⟨rfl, fun K H v g => ?_⟩
    cases g; exact .bl _
  · cases h
    refine ⟨rfl, fun K H v g => ?_⟩
    cases g; exact .int _
  · cases h
    refine ⟨rfl, fun K H v g => ?_⟩
    cases g; exact .str _
  · cases h
inductive ScaL : List (Key × V) → List (Str × D) → Prop
  | nil : ScaL [] []
  | cons {x : Str} {v : V} {kvs : List (Key × V)} {d : D} {ds : List (Str × D)} : Sca v d → ScaL kvs ds → ScaL ((.inr x, v) :: kvs) ((x, d) :: ds)
theorem ScaL.den {K : PySem.W.Frag} {H : Hp} : ∀ {kvs : List (Key × V)} {ds : List (Str × D)}, ScaL kvs ds → DenKV K H kvs ds
  | _, _, .nil => .nil
  | _, _, .cons h t => .cons h.den t.den
theorem ScaL.length : ∀ {kvs : List (Key × V)} {ds : List (Str × D)}, ScaL kvs ds → kvs.length = ds.length
  | _, _, .nil => rfl
  | _, _, .cons _ t => congrArg (· + 1) t.length
theorem ScaL.keys : ∀ {kvs : List (Key × V)} {ds : List (Str × D)}, ScaL kvs ds → kvs.map (·.1) = ds.map (fun d => (.inr d.1 : Key))
  | _, _, .nil => rfl
  | _, _, .cons _ t => by rw [List.map_cons, List.map_cons, t.keys]
theorem ScaL.append : ∀ {kvs lvs : List (Key × V)} {ds es : List (Str × D)}, ScaL kvs ds → ScaL lvs es → ScaL (kvs ++ lvs) (ds ++ es)
  | _, _, _, _, .nil, s => s
  | _, _, _, _, .cons h t, s => .cons h (ScaL.append t s)
def putD (ds : List (Str × D)) (k : Str) (d : D) : List (Str × D) := if okP (k ∈ ds.map (·.1)) = true then ds.map (fun p => if p.1 = k then (p.1, d) else p) else ds ++ [(k, d)]
theorem ScaL.put {kvs : List (Key × V)} {ds : List (Str × D)} {k : Str} {v : V} {d : D} (h : ScaL kvs ds) (hv : Sca v d) : ScaL (putK kvs (.inr k) v) (putD ds k d) := by
  have hk : (kvs.any fun kv => decide (kv.1 = (.inr k : Key))) = true ↔ k ∈ ds.map (·.1) := by
    induction h with
    | nil => simp
    | cons h t ih =>
      rw [List.any_cons, Bool.or_eq_true, ih, List.map_cons, List.mem_cons]
      constructor
      · rintro (q | q)
        · exact .inl (by have := of_decide_eq_true q; cases this; rfl)
        · exact .inr q
      · rintro (q | q)
        · exact .inl (by subst q; simp)
        · exact .inr q
  unfold putK putD
  by_cases q : k ∈ ds.map (·.1)
  · rw [if_pos (hk.mpr q), if_pos (okP_t q)]
    clear q hk
    induction h with
    | nil => exact .nil
    | @cons x w ks d' es h t ih =>
      rw [List.map_cons, List.map_cons]
      by_cases e : x = k
      · subst e
        simp only [if_true]
        exact .cons hv ih
      · have e' : ¬ (Sum.inr x : Key) = .inr k := fun z => e (Sum.inr.inj z)
        simp only [e, e', if_false]
        exact .cons h ih
  · rw [if_neg (fun z => q (hk.mp z)), if_neg (by rw [okP_iff]; exact q)]
    exact ScaL.append h (.cons hv .nil)
abbrev MDv := Rho → Option (List (Str × D))
def vNil : MDv := fun _ => some []
def vCons (x : Str) (f : ME) (m : MDv) : MDv := fun ρ => (scD (f ρ)).bind fun i => (m ρ).map fun r => (x, i) :: r
def JDv (X : Cx) (pos : Pos) (ks : List (Option Expr)) (vs : List Expr) (m : MDv) : Prop := ∃ trs, PPs X pos ks vs trs ∧ ∀ H0 σ H ρ ds, Ok X H0 σ H ρ → m ρ = some ds → ∀ H1, Ex H H1 → ∀ Q : List (V × V) → Hp → Prop, (∀ H2 kvs, Ex H1 H2 → ScaL kvs ds → Q (kvs.map fun d => (kV d.1, d.2)) H2) → tPairs trs σ H1 Q
theorem v_nil : JDv X pos [] [] vNil := ⟨_, pps_nil, fun H0 σ H ρ ds ok h H1 e Q q => by cases h; exact q H1 [] (Ex.refl _) .nil⟩
theorem v_cons {x : Str} {j : Nat} {ks : List (Option Expr)} {vs : List Expr} {m : MDv} (ha : JE X a f1) (hr : JDv X pos ks vs m) : JDv X pos (some (.Constant (.str x) j p) :: ks) (a :: vs) (vCons x f1 m) := by
  obtain ⟨ta, pa, va⟩ := ha
  obtain ⟨trs, pr, vr⟩ := hr
  refine ⟨_, pps_cons pe_str pa pr, fun H0 σ H ρ ds ok h H1 e Q q => ?_⟩
  unfold vCons at h
  obtain ⟨i, hi, h⟩ := Option.bind_eq_some_iff.mp h
  obtain ⟨r, hr, h⟩ := Option.map_eq_some_iff.mp h
  subst h
  obtain ⟨hi, hs⟩ := scD_some hi
  refine va _ _ _ _ _ ok hi H1 e _ fun v H2 e2 g => ?_
  exact vr _ _ _ _ _ ok hr H2 (e.trans e2) _ fun H3 kvs e3 sk => q H3 ((.inr x, v) :: kvs) (e2.trans e3) (.cons (hs _ _ _ g) sk)
/-- in the making: slot i holds a dict that no one else has -/
structure OkD (X : Cx) (H0 : Hp) (σ : L2.St) (H : Hp) (ρ : Rho) (i : Nat) (ds : List (Str × D)) : Prop where
  ex : ∃ (G : Hp) (u : Addr) (kvs : List (Key × V)), Ok X H0 σ G ρ ∧ G u = none ∧ H = upd G u (.dK kvs) ∧ ScaL kvs ds ∧ σ[i]? = some (some (.ref u))
  un : ρ[i]? = some .un
abbrev MKd := List (Str × D) → MS
def JBd (X : Cx) (W : WX) (i : Nat) (st : List Stmt) (m : MKd) : Prop := ∃ ts, PSs X st ts ∧ ∀ H0 D σ H ρ ds fl, OkD X H0 σ H ρ i ds → m ds ρ = some fl → Post X H0 D W fl → ts D σ H
def dEnd (i : Nat) (m : MS) : MKd := fun ds ρ => m (ρ.set i (.dat (.dic ds)))
theorem k_end (i : Nat) {sts : List Stmt} {m : MS} (h : JB X W sts m) : JBd X W i sts (dEnd i m) := by
  obtain ⟨ts, p, v⟩ := h
  refine ⟨ts, p, fun H0 D σ H ρ ds fl ok h q => ?_⟩
  obtain ⟨⟨G, u, kvs, o, nu, rfl, sk, su⟩, un⟩ := ok
  have e : Ex G (upd G u (.dK kvs)) := Ex.new nu
  have ok2 := (o.ex e).set (i := i) (v := .ref u) (d := .dic ds) (.dic upd_same sk.den)
  have es : σ.set i (some (.ref u)) = σ := by
    refine List.ext_getElem? fun j => ?_
    by_cases z : i = j
    · subst z
      rw [List.getElem?_set_self (lt_of_get su)]
      exact su.symm
    · rw [List.getElem?_set_ne z]
  rw [es] at ok2
  exact v _ _ _ _ _ _ ok2 h q
def dSet (k : Str) (f : ME) (m : MKd) : MKd := fun ds ρ => (scD (f ρ)).bind fun d => if okP (ds.length < 1000) = true then m (putD ds k d) ρ else none
theorem k_set (i : Nat) {x k : Str} {j : Nat} {p1 p4 : Pos} {ev : Expr} {sts : List Stmt} {m : MKd} {fv : ME} (hu : X.A.units + 1 < cLine) (he : JE X ev fv) (hr : JBd X W i sts m) (hN : X.N[i]? = some x := by rfl) (hv : Vis X.env.scope x := by first | exact Or.inl rfl | exact Or.inr (Or.inl rfl) | exact Or.inr (Or.inr rfl)) (hd : (x == ("__debug__" : Str)) = false := by decide)
    (hcd : (x == ("__classdict__" : Str)) = false := by decide)
    (hs : swapsWithSole [.Subscript (.Name x p1) (.Constant (.str k) j p4) p2] ev pos.line X.env = pure false := by rfl) (hw : swappedStores [.Subscript (.Name x p1) (.Constant (.str k) j p4) p2] ev X.env = pure none := by rfl) :
    JBd X W i (.Assign [.Subscript (.Name x p1) (.Constant (.str k) j p4) p2] ev pos :: sts) (dSet k fv m) := by
  obtain ⟨te, p, v⟩ := he
  obtain ⟨tr, pr, vr⟩ := hr
  refine ⟨_, pss_cons (ps_asg p (pg_sub (pe_var hN hv hd hcd) pe_str (set_dict hu)) hs hw) pr, fun H0 D σ H ρ ds fl ok h q => ?_⟩
  unfold dSet at h
  obtain ⟨d, hd', h⟩ := Option.bind_eq_some_iff.mp h
  split at h
  · rename_i hz
    have hz := okP_of hz
    obtain ⟨hf, hs'⟩ := scD_some hd'
    obtain ⟨⟨G, u, kvs, o, nu, rfl, sk, su⟩, un⟩ := ok
    have e : Ex G (upd G u (.dK kvs)) := Ex.new nu
    refine v _ _ _ _ _ (o.ex e) hf _ (Ex.refl _) _ fun w H2 e2 gw => ?_
    refine ⟨_, su, ?_⟩
    have hu2 : H2 u = some (.dK kvs) := e2 _ _ upd_same
    refine ⟨u, _, rfl, DPut.k (k := .inr k) hu2 (by rw [sk.length]; exact Nat.lt_of_lt_of_le hz (by decide)), ?_⟩
    refine vr _ _ _ _ _ _ _ ⟨⟨delH H2 u, u, putK kvs (.inr k) w, o.ex ((e.trans e2).del nu), delH_same, ?_, sk.put (hs' _ _ _ gw), su⟩, un⟩ h q
    · funext b
      by_cases z : b = u
      · subst z; rw [upd_same, upd_same]
      · rw [upd_ne z, upd_ne z, delH_ne z]
  · cases h
def mDict (i : Nat) (m : MDv) (r : MKd) : MS := fun ρ => (m ρ).bind fun ds => if okP ((ds.map (·.1)).Nodup ∧ ds.length ≤ 15 ∧ i < ρ.length) = true then r ds (ρ.set i .un) else none
theorem b_dict (i : Nat) {x : Str} {pos' pd : Pos} {ks : List (Option Expr)} {vs : List Expr} {m : MDv} {r : MKd} {sts : List Stmt} (hN : X.N.Nodup) (hm : JDv X pd ks vs m) (hr : JBd X W i sts r) (hi : X.N[i]? = some x := by rfl) (hx : Loc X.env.scope x := by first | exact Or.inl rfl | exact Or.inr rfl) (hs : swapsWith (.Dict ks vs pd) (some (.Name x pos')) pos.line X.env = pure false := by rfl)
    (hf : X.fn x = true ∨ X.env.scope.names.lookup x = some .local := by first | exact .inl rfl | exact .inr rfl | assumption)
    (hall : ks.all (·.isSome) = true := by rfl) (hl : ks.length = vs.length := by rfl) (h0 : ks ≠ [] := by (intro z; cases z)) (h15 : ks.length ≤ 15 := by decide) :
    JB X W (.Assign [.Name x pos'] (.Dict ks vs pd) pos :: sts) (mDict i m r) := by
  obtain ⟨trs, pr, vr⟩ := hm
  obtain ⟨ts, p, v⟩ := hr
  refine ⟨_, pss_cons (ps_set hN hi hx (pe_disp pr hall hl h0 h15) hs hf) p, fun H0 E σ H ρ fl ok h q => ?_⟩
  unfold mDict at h
  obtain ⟨ds, hd, h⟩ := Option.bind_eq_some_iff.mp h
  split at h
  · rename_i hz
    have hz := okP_of hz
    intro u nu
    have ex : Ex H (upd H u (.dK [])) := Ex.new nu
    refine vr _ _ _ _ _ ok hd _ ex _ fun H2 kvs e2 sk => ?_
    refine ⟨e2 _ _ upd_same, kvs, rfl, by rw [sk.length]; exact hz.2.1, ?_⟩
    have nd : (kvs.map (·.1)).Nodup := by
      rw [sk.keys]
      clear q h hd
      have : ∀ l : List (Str × D), (l.map (·.1)).Nodup → (l.map fun d => (.inr d.1 : Key)).Nodup := fun l hn => by
        induction l with
        | nil => exact List.nodup_nil
        | cons d l ih =>
          rw [List.map_cons, List.nodup_cons] at hn ⊢
          refine ⟨fun hm => hn.1 ?_, ih hn.2⟩
          rw [List.mem_map] at hm
          obtain ⟨y, hy, e⟩ := hm
          rw [← Sum.inr.inj e]
          exact List.mem_map_of_mem hy
      exact this ds hz.1
    rw [merge_nodup _ [] nd (fun _ _ z => by cases z), List.nil_append]
    have hlt : i < σ.length := by
      obtain ⟨B, o⟩ := ok
      rw [← o.len]; exact hz.2.2
    refine v _ _ _ _ _ _ _ ⟨⟨delH H2 u, u, kvs, (ok.ex ((ex.trans e2).del nu)).un, delH_same, ?_, sk, ?_⟩, ?_⟩ h q
    · funext b
      by_cases z : b = u
      · subst z; rw [upd_same, upd_same]
      · rw [upd_ne z, upd_ne z, delH_ne z]
    · exact List.getElem?_set_self hlt
    · exact List.getElem?_set_self hz.2.2
  · cases h
end
end
end Tl

namespace Tl
open PySem PySem.Spec PyProof.Rows L2 Evl
open HotX (HotAt)
noncomputable section
/-! ### iterators that end while an exception is handled -/
section
variable {prog : Program} {w : World} {A : Around} {E : Value → Shared → Prop} {s : Shared}
theorem stop_hot {α : Type} {x1 : Addr} {Q : α → Shared → Prop} (hot : HotAt A x1 s.heap) (hE : ∀ (h2 : Heap) (e : Addr), (∀ b o, s.heap.get? b = some o → h2.get? b = some o) → (∃ o, h2.get? e = some o ∧ o.cls = .type "StopIteration") → E (.ref e) { s with heap := h2 }) :
    wpAny (model prog w) A (newExc (.type "StopIteration") [] >>= fun e => (raiseNew e : Sem α)) Q E s := by
  obtain ⟨hd, o1, vs1, g1, d1, c1⟩ := hot
  refine wpAny_bind ?_
  simp only [newExc, newTuple]
  refine wpAny_bind (wpAny_newObj_type (wpAny_bind (m := firstArgMember _ _) (wpAny_of_eq (a := Value.none) (by first | rfl | (simp only [firstArgMember]; rfl)) (wpAny_newObj_type ?_ (by size_fits)))) (by size_fits))
  have g2 := Heap.get?_push_of_some (h := s.heap) { cls := .type "tuple", dict := none, data := .seq ([] : List Value).toArray } g1
  refine HotX.raiseNew_hot ⟨hd, o1, vs1, Heap.get?_push_of_some _ g2, d1, c1⟩ (Nat.ne_of_lt (Heap.lt_size g2)) (Heap.get?_push_size _ rfl) rfl (by first | (simp; done) | (simp; omega)) ?_
  refine hE _ _ (fun b o z => ?_) ⟨_, Heap.get?_update_self _ (Heap.get?_push_size _ rfl) rfl, rfl⟩
  have z2 := Heap.get?_push_of_some (h := s.heap) { cls := .type "tuple", dict := none, data := .seq ([] : List Value).toArray } z
  rw [Heap.get?_update_other _ _ (Nat.ne_of_gt (Heap.lt_size z2))]
  exact Heap.get?_push_of_some _ z2
theorem not_iter {it l x1 : Addr} {o : Obj} {v : Value} (hot : HotAt A x1 s.heap) (ho : s.heap.get? it = some o) (hd : o.data = .fields #[.ref l, v]) : x1 ≠ it := fun z => by
  obtain ⟨_, o1, vs1, g1, d1, c1⟩ := hot
  rw [z, ho] at g1
  cases g1
  rw [hd] at d1
  cases d1
  cases c1
theorem hot_upd {it x1 : Addr} {g : Obj → Obj} (hot : HotAt A x1 s.heap) (ne : x1 ≠ it) : HotAt A x1 (s.heap.update it g) := by
  obtain ⟨h, o1, vs1, g1, d1, c1⟩ := hot
  exact ⟨h, o1, vs1, by rw [Heap.get?_update_other _ _ (Ne.symm ne)]; exact g1, d1, c1⟩
theorem list_end_hot {it l x1 : Addr} {i : Nat} {items : Array Value} {Q : Option Value → Shared → Prop} (hot : HotAt A x1 s.heap) (hit : s.heap.IsListIter it l i) (hl : s.heap.IsList l items) (hx : items[i]? = none)
    (hQ : ∀ h2, Heap.ExtBut it s.heap h2 → Q none { s with heap := h2 }) : wpAny (model prog w) A (pyNext (.ref it)) Q E s := by
  obtain ⟨o, ho, hc, hd⟩ := id hit; obtain ⟨ol, hol, _, nl, hdl⟩ := hl
  have ne := not_iter hot ho hd
  unfold pyNext
  refine wpAny_bind (wpAny_attempt (wpAny_callSpecial?_slot (name := Str.ofString "__next__") hit.typeIs slot_listiter_next (wpAny_call_entry slot_listiter_next hit.typeIs entry_listiter_next ?_ (args_listiter_next _))))
  refine wpAny_bind (m := field (.ref it) 0) (wpAny_field ho hd (x := .ref l) rfl ?_); show wpAny _ _ (if (Value.ref l == Value.none) = true then _ else _) _ _ s
  rw [if_neg (show ¬ ((Value.ref l == .none) = true) from fun z => Bool.false_ne_true z)]; refine wpAny_bind (m := field (.ref it) 1) (wpAny_field ho hd (x := .int i 0) rfl ?_)
  refine wpAny_bind (m := seqItems? (.ref l)) (wpAny_seqItems hol hdl ?_); simp only [Int.toNat_natCast, hx]
  refine wpAny_bind (wpAny_rule (wpAny_bind (wpAny_setField ho hd (by simp) ?_)))
  refine stop_hot (x1 := x1) (hot_upd ⟨hot.1, hot.2⟩ ne) fun h2 e k he => ?_
  obtain ⟨oe, ge, ce⟩ := he
  refine wpAny_bind (wpAny_isInstance (T := "StopIteration") (b := true) ⟨_, ge, ce⟩ isSubtype_stop (wpAny_pure (hQ _ fun b u nb z => k b u ?_)))
  rw [Heap.get?_update_other _ _ (Ne.symm nb)]; exact z
theorem tup_end_hot {it l x1 : Addr} {i : Nat} {items : Array Value} {Q : Option Value → Shared → Prop} (hot : HotAt A x1 s.heap) (hit : IsTupIter s.heap it l i) (hl : IsTup s.heap l items) (hx : items[i]? = none)
    (hQ : ∀ h2, Heap.ExtBut it s.heap h2 → Q none { s with heap := h2 }) : wpAny (model prog w) A (pyNext (.ref it)) Q E s := by
  obtain ⟨o, ho, hc, hd⟩ := id hit; obtain ⟨ol, hol, _, nl, hdl⟩ := hl
  have ne := not_iter hot ho hd
  unfold pyNext
  refine wpAny_bind (wpAny_attempt (wpAny_callSpecial?_slot (name := Str.ofString "__next__") hit.typeIs slot_tupleiter_next (wpAny_call_entry slot_tupleiter_next hit.typeIs entry_tupleiter_next ?_ (args_tupleiter_next _))))
  refine wpAny_bind (m := field (.ref it) 0) (wpAny_field ho hd (x := .ref l) rfl ?_); show wpAny _ _ (if (Value.ref l == Value.none) = true then _ else _) _ _ s
  rw [if_neg (show ¬ ((Value.ref l == .none) = true) from fun z => Bool.false_ne_true z)]; refine wpAny_bind (m := field (.ref it) 1) (wpAny_field ho hd (x := .int i 0) rfl ?_)
  refine wpAny_bind (m := seqItems? (.ref l)) (wpAny_seqItems hol hdl ?_); simp only [Int.toNat_natCast, hx]
  refine wpAny_bind (wpAny_rule (wpAny_bind (wpAny_setField ho hd (by simp) ?_)))
  refine stop_hot (x1 := x1) (hot_upd ⟨hot.1, hot.2⟩ ne) fun h2 e k he => ?_
  obtain ⟨oe, ge, ce⟩ := he
  refine wpAny_bind (wpAny_isInstance (T := "StopIteration") (b := true) ⟨_, ge, ce⟩ isSubtype_stop (wpAny_pure (hQ _ fun b u nb z => k b u ?_)))
  rw [Heap.get?_update_other _ _ (Ne.symm nb)]; exact z
theorem hot_keep {x1 : Addr} {h h2 : Heap} (hot : HotAt A x1 h) (k : ∀ o, h.get? x1 = some o → h2.get? x1 = some o) : HotAt A x1 h2 := by
  obtain ⟨e, o1, vs1, g1, d1, c1⟩ := hot
  exact ⟨e, o1, vs1, k _ g1, d1, c1⟩
theorem hot_lt {x1 : Addr} {h : Heap} (hot : HotAt A x1 h) : x1 < h.objs.size := by
  obtain ⟨e, o1, vs1, g1, d1, c1⟩ := hot
  exact Heap.lt_size g1
/-- a, b, .. = a tuple of that length, there -/
theorem asg_tup_hot {env : Env} {elts : List Expr} {k} {pos : Pos} {t x1 : Addr} {items : Array Value} {Q : Unit → Shared → Prop} (hot : HotAt A x1 s.heap) (ht : IsTup s.heap t items) (hn : (assignEach elts env).length = items.size) (hs : (assignEach elts env).findIdx? (·.1) = none)
    (h : ∀ h2, Heap.ExtBut s.heap.objs.size s.heap h2 → wpAny (model prog w) A (assignInOrder ((assignEach elts env).map (·.2)) items.toList) Q E { s with heap := h2 }) : wpAny (model prog w) A (assign (.Tuple elts k pos) env (.ref t)) Q E s := by
  have ne : t ≠ s.heap.objs.size := by obtain ⟨o, ho, _⟩ := id ht; exact Nat.ne_of_lt (Heap.lt_size ho)
  have nx : x1 ≠ s.heap.objs.size := Nat.ne_of_lt (hot_lt hot)
  rw [assign_Tuple]; refine wpAny_bind (wpAny_standAt ?_); unfold unpack; rw [hn, hs]
  refine wpAny_bind (wpAny_holding ?_); unfold unpackItems; refine wpAny_bind ?_; unfold notIterableAtAll
  refine wpAny_bind (wpAny_specialOf ht.typeIs slot_tuple_iter.lookup (wpAny_pure ?_)); simp only [Bool.false_eq_true, if_false]
  refine wpAny_bind (wpAny_holding (iter_tuple ht (wpAny_bind (wpAny_holding (draw_tuple ne items.size 0 _ _ ⟨_, Heap.get?_push_size _ rfl, rfl, rfl⟩ (ht.push _) (by omega) fun h1 it1 sb1 => ?_)))))
  have all_ : (items.toList.drop 0).take items.size = items.toList := by rw [List.drop_zero]; exact List.take_of_length_le (by simp)
  rw [all_, if_neg (by simp)]
  have t1 : IsTup h1 t items := (ht.push _).extBut sb1.extBut ne
  have hot1 : HotAt A x1 h1 := hot_keep hot fun o z => sb1.extBut x1 o nx (Heap.get?_push_of_some _ z)
  refine wpAny_bind (wpAny_holding (tup_end_hot (s := { s with heap := h1 }) hot1 it1 t1 (by simp) fun h2 x2 => ?_))
  simp only [Option.isSome_none, Bool.false_eq_true, if_false]
  exact wpAny_pure (h h2 fun b o nb z => x2 b o nb (sb1.extBut b o nb (Heap.get?_push_of_some _ z)))
end
end
end Tl

namespace Tl
open PySem PySem.Spec PyProof.Rows L2 Evl
open HotX (HotAt)
noncomputable section
/-- the handled exception stood at the entry, out of reach of what runs here -/
def HotB (X : Cx) : Prop := ∃ p : Addr × Obj, L2H.Hot1 X.A p ∧ X.s_0.heap.get? p.1 = some p.2 ∧ X.H_0 p.1 = none ∧ p.1 ∉ X.fs ∧ p.1 ∉ X.ex
section
variable {X : Cx} {pins : List (Addr × Obj)} {σ : L2.St} {H : Hp} {s : Shared}
theorem HotB.pin (c : HotB X) (I : Inv X pins σ H s) : ∃ p : Addr × Obj, L2H.Hot1 X.A p ∧ s.heap.get? p.1 = some p.2 ∧ H p.1 = none := by
  obtain ⟨p, h1, g, n, nf, nx⟩ := c
  exact ⟨p, h1, I.base.keep p.1 p.2 g n nf nx, I.base.free p.1 p.2 g n nx⟩
theorem HotB.at (c : HotB X) (I : Inv X pins σ H s) : ∃ x1, HotAt X.A x1 s.heap := by
  obtain ⟨p, ⟨hh, vs, d, e⟩, g, _⟩ := c.pin I
  exact ⟨p.1, hh, p.2, vs, g, d, e⟩
theorem pg_tupH {pos : Pos} {es : List Expr} {k : Nat} {t : TGs} {n : Nat} (c : HotB X) (h : PGs X es t) (hn : (assignEach es X.env).length = n := by rfl) (hst : (assignEach es X.env).findIdx? (·.1) = none := by rfl) : PG X (.Tuple es k pos) (gTup X.K n t) := by
  refine ⟨fun pins s σ H v u Q I r ⟨a, xs, e1, hq, hl, hw⟩ => ?_⟩
  subst e1
  cases r
  obtain ⟨its, rv, ht, hz⟩ := I.tuple hq
  obtain ⟨x1, hot⟩ := c.at I
  refine asg_tup_hot hot ht (by simp [hn, ← hl, rv.length]) hst fun h2 hx => ?_
  exact h.run pins _ σ H xs _ Q (I.kept (t' := s.toks) fun b o e => hx b o (Nat.ne_of_lt (Heap.lt_size e)) e) (by simpa using rv) hw
/-- [elt for tg in a list if ..] while an exception is handled -/
theorem pe_lcH {elt tg iter : Expr} {ifs : List Expr} {scope : Scope} {own : List (Str × Nat)} {pos : Pos} {ti : TE} {g : TG} {tt : TT} {te : TE} (hot : HotB X) (hN : X.N.Nodup) (hi : PE X iter ti) (ok : BlkOk X.N X.env.scope scope own)
    (hg : ∀ (s : Shared) (H : Hp) (C : Addr) (cl : List (Str × Addr)) (fp : List Addr), HotB (X.blk s H scope (compEnvC scope cl C X.env) fp) → PG (X.blk s H scope (compEnvC scope cl C X.env) fp) tg g)
    (ht : ∀ (s : Shared) (H : Hp) (C : Addr) (cl : List (Str × Addr)) (fp : List Addr), PTs (X.blk s H scope (compEnvC scope cl C X.env) fp) ifs tt)
    (he : ∀ (s : Shared) (H : Hp) (C : Addr) (cl : List (Str × Addr)) (fp : List Addr), PE (X.blk s H scope (compEnvC scope cl C X.env) fp) elt te) (hs : ∀ x, foldedSetIterable iter X.env x = pure x := by intro _; rfl) :
    PE X (.ListComp elt [⟨tg, iter, ifs, 0⟩] scope pos) (tLc (iList X.K ti) g tt te (own.map (·.2))) := by
  refine ⟨fun pins s σ H Q I h => ?_⟩
  have free_ : ∀ y ∈ scope.names, y.2 = .free → ∃ c, X.env.cells.lookup y.1 = some c := fun y hy e => (ok.free y hy e).elim (fun k => I.ok.has _ (.inl k)) fun k => I.ok.has _ (.inr k)
  rw [eval_ListComp]
  refine wpAny_comprehension_free (use := none) rfl hs (closure_ok free_) ok.kind (fun y hy e => by rw [ok.uniq y hy, e]) (thn (hi.run pins s σ H _ I h) fun xv s1 hx => ?_)
  obtain ⟨xv', H1, I1, rx, l, el, ⟨xs0, sq0⟩, q⟩ := hx
  subst el
  cases rx
  obtain ⟨its0, rv0, pl0, hz0⟩ := I1.list sq0
  refine wpAny_pyIter_list pl0.isList ?_
  generalize hit : s1.heap.objs.size = it
  generalize hs2 : ({ s1 with heap := s1.heap.push { cls := .type "list_iterator", data := .fields #[.ref l, .int 0 0] } } : Shared) = s2
  have e2 : s2.heap = s1.heap.push { cls := .type "list_iterator", data := .fields #[.ref l, .int 0 0] } := by rw [← hs2]
  have I2 : Inv X pins σ H1 s2 := by rw [← hs2]; exact I1.kept (t' := s1.toks) fun b o e => Heap.get?_push_of_some _ e
  have st2 : s2.heap.IsListIter it l 0 := by rw [e2, ← hit]; exact ⟨_, Heap.get?_push_size _ rfl, rfl, rfl⟩
  have f2 : FpOk X pins H1 it := I1.fpOk (Nat.le_of_eq hit) (I1.hok.fresh (Nat.le_of_eq hit))
  have lt2 : it < s2.heap.objs.size := by rw [e2, Heap.size_push, ← hit]; exact Nat.lt_succ_self _
  refine wpAny_newObj_type (newEnv_comp ?_) (by show 0 ≤ sizeLine; decide)
  generalize hD : s2.heap.objs.size = D
  have hDn : H1 D = none := I2.hok.fresh (Nat.le_of_eq hD)
  obtain ⟨W, ⟨m0, w0⟩, turn⟩ := q D hDn
  generalize hs3 : ({ s2 with heap := s2.heap.push { cls := .type "list", data := .seq ([] : List Value).toArray } } : Shared) = s3
  have e3 : s3.heap = s2.heap.push { cls := .type "list", data := .seq ([] : List Value).toArray } := by rw [← hs3]
  have I3 : Inv X pins σ (upd H1 D (.lst [])) s3 := by
    rw [← hs3]
    exact I2.laid (t' := s2.toks) (fun b o e => Heap.get?_push_of_some _ e) (Nat.le_of_eq hD) ⟨Nat.zero_le _, [], 0, .nil, by rw [← hD]; exact Heap.get?_push_size _ rfl⟩
  have f3 : ∀ b ∈ [it], FpOk X pins (upd H1 D (.lst [])) b ∧ b < s3.heap.objs.size := fun b hb => by
    obtain rfl : b = it := by simpa using hb
    exact ⟨⟨by rw [upd_ne (by rw [← hD]; exact Nat.ne_of_lt lt2)]; exact f2.1, f2.2⟩, by rw [e3, Heap.size_push]; exact Nat.lt_succ_of_lt lt2⟩
  have st3 : s3.heap.IsListIter it l 0 := st2.at fun o e => by rw [e3]; exact Heap.get?_push_of_some _ e
  have I4 := block_start I3 ok hN f3
  generalize hcl : cellsFrom (s3.heap.objs.size + 1) scope.names (cloFrom X.env.cells scope.names []) = cl at I4 ⊢
  have hotB : HotB (X.blk s3 (upd H1 D (.lst [])) scope (compEnvC scope cl s3.heap.objs.size X.env) [it]) := by
    obtain ⟨p, h1, g, n⟩ := hot.pin I3
    obtain ⟨p', h1', g', n', nf', nx'⟩ := id hot
    have ep : p.1 = p'.1 := Value.ref.inj (Option.some.inj (h1.1.symm.trans h1'.1))
    refine ⟨p, h1, g, n, fun hm => ?_, fun hm => ?_⟩
    · have hm : p.1 ∈ frs X.stack := hm
      rcases List.mem_cons.mp (I3.stkSub p.1 hm) with z | z
      · obtain ⟨vs, d, _⟩ := h1.2
        obtain ⟨m, hns, _⟩ := I3.loc
        obtain ⟨o, es, eq_, ho, hd, _⟩ := hns
        rw [← z, g] at ho
        cases ho
        rw [hd] at d
        cases d
      · exact nf' (ep ▸ z)
    · obtain ⟨vs, d, c2⟩ := h1.2
      have hm : p.1 = it := by simpa using (show p.1 ∈ [it] from hm)
      obtain ⟨o, ho, _, hd⟩ := st3
      rw [← hm, g] at ho
      cases ho
      rw [hd] at d
      cases d
      cases c2
  have pg := hg s3 (upd H1 D (.lst [])) s3.heap.objs.size cl [it] hotB
  have pt := ht s3 (upd H1 D (.lst [])) s3.heap.objs.size cl [it]
  have pe := he s3 (upd H1 D (.lst [])) s3.heap.objs.size cl [it]
  show codeAny _ _ (.compStart (.ListComp elt [⟨tg, iter, ifs, 0⟩] scope pos) 0 (.ref it) (.ref D) (compEnvC scope cl s3.heap.objs.size X.env)) (compPost (model X.prog X.w) X.A X.xe none (EP X pins σ Q) (.ref D) s3.heap.objs.size) _
  generalize hce : compEnvC scope cl s3.heap.objs.size X.env = ce at I4 pg pt pe hotB ⊢
  have cL : ce.locals = s3.heap.objs.size := by subst hce; rfl
  have n3 : (upd H1 D (.lst [])) it = none := (f3 it (by simp)).1.1
  generalize hH3 : upd H1 D (.lst []) = H3 at I3 I4 pg pt pe hotB w0 n3 f3
  generalize hs4 : ({ s3 with heap := pushCells (s3.heap.push { cls := .type "dict", data := .dict #[] }) scope.names } : Shared) = s4 at I4 ⊢
  have st4 : s4.heap.IsListIter it l 0 := st3.at fun o e => by rw [← hs4]; exact pushCells_keeps _ _ _ _ (Heap.get?_push_of_some _ e)
  have fp_ : ∀ {σ' : L2.St} {H' : Hp} {s' : Shared}, Inv (X.blk s3 H3 scope ce [it]) [] σ' H' s' → H' it = none → FpOk (X.blk s3 H3 scope ce [it]) [] H' it := fun {σ' H' s'} I' hn =>
    ⟨hn, (I'.ok.exf it (by simp)).1, I'.ok.exfs it (by simp), .inl (by simp), fun x c e => (I'.ok.exf it (by simp)).2 x c e, fun p hp => absurd (show p ∈ ([] : List (Addr × Obj)) ++ [] from hp) (by simp)⟩
  have loop : codeAny (model X.prog X.w) X.A (.compLoop (.ListComp elt [⟨tg, iter, ifs, 0⟩] scope pos) 0 (.ref it) (.ref D) ce) (compPost (model X.prog X.w) X.A X.xe none (EP X pins σ Q) (.ref D) s3.heap.objs.size) s4 := by
    refine compLoop_any (fun n s' => ∃ i H', Inv (X.blk s3 H3 scope ce [it]) [] (wipe σ (own.map (·.2))) H' s' ∧ s'.heap.IsListIter it l i ∧ H' it = none ∧ W i n H') ?_ m0 ⟨0, H3, I4, st4, n3, w0⟩
    rintro n s5 ⟨i, H5, I5, st5, n5, w5⟩
    obtain ⟨z0, z1, z2, z3, z4, z5⟩ := fp_ I5 n5
    rcases turn i n H5 w5 with ⟨⟨xs, hq, hlen⟩, qq⟩ | ⟨⟨xs, x, hq, hx⟩, Nx, hNx, step⟩
    · obtain ⟨its, rv, p, hz⟩ := I5.list hq
      have hl := rv.length
      obtain ⟨x1, ha⟩ := hotB.at I5
      refine list_end_hot ha st5 p.isList (by simp; omega) fun h6 eb => ?_
      have I6 : Inv (X.blk s3 H3 scope ce [it]) [] (wipe σ (own.map (·.2))) H5 { s5 with heap := h6 } := I5.turned (t' := s5.toks) (fun b o hb e => eb b o hb e) z0 z1 z3 z4 z5
      have I7 : Inv X pins σ H5 { s5 with heap := h6 } := I3.call' (ch := [it]) I6.os I6.base I6.hok I6.bare fun b hb => ⟨(f3 b hb).1.2.2.2.1, (f3 b hb).1.2.1, (f3 b hb).1.2.2.2.2.1, (f3 b hb).1.2.2.2.2.2⟩
      obtain ⟨m, hn, _⟩ := I6.loc
      have hn : ({ s5 with heap := h6 } : Shared).heap.Ns ce.locals m := hn
      have nC : H5 s3.heap.objs.size = none := cL ▸ (show H5 ce.locals = none from I6.free)
      rw [cL] at hn
      refine ⟨m, hn, fun h'' sb => ?_⟩
      obtain ⟨y0, y1, y2, y3, y4, y5⟩ : FpOk X pins H5 s3.heap.objs.size := I3.fpOk (Nat.le_refl _) nC
      exact ⟨.ref D, H5, I7.turned (t' := s5.toks) (fun b o hb e => (sb.2 b hb).trans e) y0 y1 y3 y4 y5, rfl, qq⟩
    · obtain ⟨its, rv, p, hz⟩ := I5.list hq
      obtain ⟨u, hu, ru⟩ := rv.get hx
      refine wpAny_pyNext_list_item st5 p.isList (x := u) (by simpa using hu) fun h6 st6 sb => ?_
      have I6 : Inv (X.blk s3 H3 scope ce [it]) [] (wipe σ (own.map (·.2))) H5 { s5 with heap := h6 } := I5.turned (t' := s5.toks) (fun b o hb e => (sb.2 b hb).trans e) z0 z1 z3 z4 z5
      obtain ⟨oi, gi, ci, di⟩ := id st6
      refine go_of (s := { s5 with heap := h6 }) gi ci di (by decide) ?_
      have I7 := I6.pinned (fp := [it]) (fun b hb => (show b = it by simpa using hb) ▸ fp_ I6 n5) (fun b hb => (show b = it by simpa using hb) ▸ ⟨oi, gi, fun v z => by rw [di] at z; cases z⟩)
      refine thnF (pg.run _ { s5 with heap := h6 } _ H5 x u _ I7 ru (step x H5 ⟨rfl, fun ys hy => by rw [I5.list_inj hy hq]; exact hx⟩)) fun _ s8 ⟨σ8, H8, I8, hw8, q8⟩ => ?_
      refine thnF (pt.run _ s8 σ8 H8 _ I8 q8) fun b s9 ⟨H9, I9, q9⟩ => ?_
      have fin : ∀ {s' : Shared} {H' : Hp}, Inv (X.blk s3 H3 scope ce [it]) ([] ++ pinsAt [it] h6) σ8 H' s' → Nx H' → ∃ m, m < n ∧ ∃ i H', Inv (X.blk s3 H3 scope ce [it]) [] (wipe σ (own.map (·.2))) H' s' ∧ s'.heap.IsListIter it l i ∧ H' it = none ∧ W i m H' := fun {s' H'} I' nx => by
        obtain ⟨m', hm, w'⟩ := hNx H' nx
        have pn := I'.pin (it, oi) (List.mem_append_right _ (List.mem_append_right _ (mem_pinsAt (by simp) gi)))
        have hl : (wipe σ (own.map (·.2))).length = σ8.length := by rw [← hw8, wipe_length]
        refine ⟨m', hm, i + 1, H', (I'.unpinned (pins := [])).weak hl (fun j v e => ?_), st6.at fun o e => ?_, pn.2.1, w'⟩
        · rw [← hw8] at e
          exact (wipe_some e).1
        · have e : h6.get? it = some o := e
          rw [gi] at e; cases e; exact pn.1
      cases b with
      | false => simp only [Bool.false_eq_true, if_false] at q9 ⊢; exact fin I9 q9
      | true =>
        simp only [if_true] at q9 ⊢
        exact thnF (pe.run _ s9 σ8 H9 _ I9 q9) fun z s10 ⟨yv, H10, I10, r10, acc, hD10, hz10, nx⟩ => app_ok (X := X.blk s3 H3 scope ce [it]) I10 hD10 hz10 r10 fun s11 I11 => fin I11 nx
  exact codeAny_compStart_list loop (wpAny_pyIter_listiter st4 loop)
end
end
end Tl

namespace Tl
open PySem PySem.Spec PyProof.Rows L2 Evl
noncomputable section
/-! ### a def that is handed the exception in whose suite it is called -/
structure FnE (P : Program) (w : World) (K : PySem.W.Frag) (mg : Str → Option Value) (base : Heap) (k : Nat) (f : Addr) (fd : FuncData) (q0 : Str) (m : MirE) : Prop where
  run : ∀ (A : Around) (outer : List Env) (s : Shared) (H : Hp) (p : Addr × Obj) (Q : VK) (C : Addr) (c : Str) (fs : List (Str × D)) (d : D), L2H.RoomH k A → L2H.Hot1 A p → L2H.PinOk outer H s p → Env0 P w K mg base A outer s H →
    BindsTo s fd ⟨[.ref p.1], []⟩ ([q0].zip [.ref p.1]) → p.2.cls = .ref C → mg c = some (.ref C) → DicE K H H p.2 fs → Tbs K mg H → m c fs = some d → (∀ v H', Ex H H' → Den K H' v d → Q v H') →
    codeAny (model P w) A (.call (.ref f) ⟨[.ref p.1], []⟩) (CR CX0 outer P w H s Q E0) s
abbrev cxE (P : Program) (w : World) (K : PySem.W.Frag) (mg : Str → Option Value) (base : Heap) (N : List Str) (qual : Str) (scope : Scope) (f : Addr) (cd : Value) (A : Around) (outer : List Env) (s : Shared) (H : Hp) (p : Addr × Obj) : Cx := L2H.cxH CX0 P w K mg base N qual scope f cd A outer s H E0 p
section
variable {P : Program} {w : World} {K : PySem.W.Frag} {mg : Str → Option Value} {base : Heap}
theorem d_okHE {x qual q0 : Str} {st : Stmt} {f : Addr} {fd : FuncData} {N : List Str} {k : Nat} {mb : MS} (F : Fun K x qual st f fd) (S : FnScope N [q0] (defScope st)) (h1 : 1 ≤ N.length)
    (hb : ∀ (cdv : Value) (A : Around) (outer : List Env) (s : Shared) (H : Hp) (p : Addr × Obj), L2H.RoomH k (A.deeper (envOfC qual (defScope st) s.heap.objs.size f cdv)) → HotB (cxE P w K mg base N qual (defScope st) f cdv A outer s H p).nox → JB (cxE P w K mg base N qual (defScope st) f cdv A outer s H p).nox W0 (defBody st) mb) :
    FnE P w K mg base (k + 1) f fd q0 (mDefE N.length mb) := by
  obtain ⟨oc, od, kV, dc, pm, an, cv, ct, sl, rfl, lk, hcd⟩ := F.ex
  refine ⟨fun A outer s H p Q C c fs d hr hot hpin e0 hbt hcl hg hd htb hm q => ?_⟩
  have keepB : ∀ b o, base.get? b = some o → s.heap.get? b = some o := fun b o e => (e0.bs b o e).1
  have KX : K.In s.heap := e0.mod.kin.keeps keepB
  refine codeAny_call_function hr.depth (KX _ _ lk) rfl S.co S.gen rfl (PySem.W.codeRec_of KX hcd) (hbt _ _ _ _ (wpAny_newFunctionEnv_cells S.kind (fun ⟨n, v⟩ hy => ?_) fun env he s1 x => ?_))
  · rcases S.par n (List.of_mem_zip hy).1 with z | z
    · exact .inl z
    · exact .inr ⟨z, PySem.W.cellsFrom_some _ _ _ (.inl z)⟩
  · subst he
    refine ⟨(e0.mod.nolimit.keeps keepB).keeps x.toInCall.keep, codeAny_func ?_⟩
    have I : Inv (cxE P w K mg base N qual (defScope st) f cv A outer s H p) [] (L2.start N [.ref p.1]) H s1 := L2H.inv_startH S hpin e0 rfl (.cons rfl .nil) x
    have hotB : HotB (cxE P w K mg base N qual (defScope st) f cv A outer s H p).nox := ⟨p, hot, hpin.get, hpin.free, hpin.nofs, by show p.1 ∉ ([] : List Addr); simp⟩
    obtain ⟨t, pt, v⟩ := hb cv A outer s H p (hr.deeper _) hotB
    obtain ⟨vs0, hv0, _⟩ := hot.2
    unfold mDefE at hm
    cases hfl : mb (.exc c fs :: List.replicate (N.length - 1) .un) with
    | none => rw [hfl] at hm; cases hm
    | some fl =>
      rw [hfl] at hm
      have un : ∀ (i : Nat) (c' : Tl.C), (List.replicate (N.length - 1) Tl.C.un)[i]? = some c' → c' = .un := fun i c' e => by
        rw [List.getElem?_replicate] at e
        split at e
        · cases e; rfl
        · cases e
      have ok : Ok (cxE P w K mg base N qual (defScope st) f cv A outer s H p).nox H (L2.start N [.ref p.1]) H (.exc c fs :: List.replicate (N.length - 1) .un) := by
        refine ⟨H, ⟨Ex.refl _, htb⟩, Ex.refl _, by unfold L2.start; simp, fun i c' hi => ?_, fun i j xs ys b hi _ _ _ => ?_⟩
        · cases i with
          | zero =>
            cases Option.some.inj hi
            exact ⟨p.1, p.2, C, rfl, hcl, hg, ⟨vs0, hv0⟩, ⟨[], rfl⟩, hd⟩
          | succ i =>
            have z := un i c' (by simpa using hi)
            subst z
            trivial
        · cases i with
          | zero => cases Option.some.inj hi
          | succ i => cases un i _ (by simpa using hi)
      have post : t { nx := fun _ _ => False, rt := fun v' H' => Ex H H' ∧ Den K H' v' d } (L2.start N [.ref p.1]) H := by
        refine v H _ _ H _ fl ok hfl ?_
        cases fl with
        | ret r' =>
          cases r' with
          | dat d' => cases hm; exact fun u H' e g => ⟨e, g⟩
          | lst _ => cases hm
          | new _ => cases hm
          | ro _ => cases hm
        | nx _ => cases hm
        | brk _ => cases hm
        | cnt _ => cases hm
        | exc _ _ _ => cases hm
        | exc0 _ _ => cases hm
      refine wpAny_mono (pt.nox.run [] s1 _ H _ I post) (fun fl s' hs => ?_) fun e s' hs => hs
      cases fl with
      | ret u =>
        obtain ⟨v', σ', H', J, rv, e', g'⟩ := hs
        exact ⟨v', H', J.os, J.bare, J.base, J.hok, rv, q v' H' e' g'⟩
      | next =>
        obtain ⟨_, _, _, z⟩ := hs
        exact False.elim z
      | brk =>
        obtain ⟨_, _, _, z⟩ := hs
        exact False.elim z
      | cont =>
        obtain ⟨_, _, _, z⟩ := hs
        exact False.elim z
def CalE (P : Program) (w : World) (K : PySem.W.Frag) (mg : Str → Option Value) (base : Heap) (x : Str) (k : Nat) (m : MirE) : Prop :=
  ∃ f fd q0, FnE P w K mg base k f fd q0 m ∧ mg x = some (.ref f) ∧ PySem.W.keepIn K (.ref f) = true ∧ Binds K fd [q0] []
end
/-- the context of a suite bears the exception, and its context is None -/
def HotS (X : Cx) : Prop := ∃ (p : Addr × Obj) (pn : List (Addr × Obj)), X.pn = p :: pn ∧ L2H.Hot1 X.A p
theorem hotS_of {X : Cx} {a : Addr} {oe : Obj} {cls : Value} {d : Option Addr} {pn : List (Addr × Obj)} (hz : L2N.Zn cls d oe) (hf : ∃ vs, oe.data = .fields vs) : HotS (X.suite a ((a, oe) :: pn)) := by
  obtain ⟨vs, hv⟩ := hf
  exact ⟨(a, oe), pn, rfl, rfl, vs, hv, hz.2.2 vs hv⟩
def mCallE (i : Nat) (m : MirE) : ME := fun ρ => match ρ[i]? with
  | some (.exc c fs) => (m c fs).map .dat
  | _ => none
def tCE (X : Cx) (i : Nat) (m : MirE) : TE := fun σ H Q => ∃ (a C : Addr) (oe : Obj) (c : Str) (fs : List (Str × D)) (d : D),
  σ[i]? = some (some (.ref a)) ∧ AtE X H a oe ∧ oe.cls = .ref C ∧ X.mg c = some (.ref C) ∧ DicE X.K H H oe fs ∧ Tbs X.K X.mg H ∧ m c fs = some d ∧ ∀ v H', Ex H H' → Den X.K H' v d → Q v H'
section
variable {X : Cx} {x n : Str} {p p2 pos : Pos} {k : Nat} {m : MirE}
theorem x_calE (i : Nat) (h : CalE X.prog X.w X.K X.mg X.base x k m) (hot : HotS X) (hr : L2H.RoomH k X.A) (hN : X.N[i]? = some n := by rfl)
    (hv : Vis X.env.scope n := by first | exact Or.inl rfl | exact Or.inr (Or.inl rfl) | exact Or.inr (Or.inr rfl)) (hd : (n == ("__debug__" : Str)) = false := by decide) (hcd : (n == ("__classdict__" : Str)) = false := by decide)
    (hg : Gl X x := by rfl) (hdb : (x == ("__debug__" : Str)) = false := by decide)
    (he : starEach (.Name n p2 :: []) X.env = (false, eval (.Name n p2) X.env) :: starEach [] X.env := by rfl) (hpl : (backTo pos (starEach [] X.env)).any (·.1) = false := by rfl) : JE X (.Call (.Name x p) [.Name n p2] [] pos) (mCallE i m) := by
  obtain ⟨f, fd, q0, G, hm, hk, hb⟩ := h
  obtain ⟨pp, pn, epn, hot⟩ := hot
  have PA1 := pa_cons (pe_var (X := X) (pos := p2) hN hv hd hcd) pa_nil he
  have pe : PE X (.Call (.Name x p) [.Name n p2] [] pos) (tCE X i m) := by
    refine ⟨fun pins s σ H Q I h => ?_⟩
    obtain ⟨a, C, oe, c, fs, d, hs, ⟨pn', ha⟩, hc, hgc, hdi, htb, hmm, q⟩ := h
    have ep : pp = (a, oe) := (List.cons.inj (epn.symm.trans ha)).1
    subst ep
    refine wpAny_Call_Name_kw (ld_glob I hg hm ?_ hdb)
    refine PySem.W.callWith_K (h₀ := X.base) I.ok.mod.kin hk (thn (PA1.run pos pins s σ H (fun vs H1 => vs = [.ref a] ∧ H1 = H) I ⟨_, hs, rfl, rfl⟩) fun us s1 ⟨vs, H1, J, r, e1, e2⟩ => ⟨J.kIn, ?_⟩) he hpl
    subst e1; subst e2
    cases r with
    | cons r1 rr =>
      cases rr
      cases r1
      have pin := J.pin (a, oe) (List.mem_append_left _ (by rw [epn]; exact List.mem_cons_self))
      have po : L2H.PinOk X.stack H1 s1 (a, oe) := ⟨pin.1, pin.2.1, fun hm => (List.mem_cons.mp (J.stkSub a hm)).elim pin.2.2.1 pin.2.2.2.1, pin.2.2.2.2⟩
      have bt := hb s1 [.ref a] J.kIn rfl
      rw [List.append_nil] at bt
      refine wpAny_call (codeAny_mono (G.run X.A X.stack s1 H1 (a, oe) Q C c fs d hr hot po J.env0 bt hc hgc hdi htb hmm q) fun r s' hq => ?_)
      cases r with
      | error e => cases hq
      | ok fl =>
        cases fl with
        | ret u => exact J.after hq
        | next => cases hq
        | brk => cases hq
        | cont => cases hq
  refine ⟨_, pe, fun H0 σ H ρ r ok h => ?_⟩
  unfold mCallE at h
  split at h
  · rename_i c fs hc
    obtain ⟨d, hdd, h⟩ := Option.map_eq_some_iff.mp h
    subst h
    obtain ⟨B, ok⟩ := ok
    obtain ⟨a', oe', C', h2, h3, h4, h5, h6, h8⟩ := ok.slot i _ hc
    intro H1 e Q q
    exact ⟨a', C', oe', c, fs, d, h2, h6, h3, h4, h8.imp (ok.e1.trans e) (.of e), ok.e0.tb.ex (ok.e1.trans e), hdd, fun v H' e' g => q v H' e' g⟩
  · cases h
end
/-! ### a comprehension over a list there -/
section
variable {X : Cx} {a b c e elt tg it : Expr} {pos p : Pos} {f1 : ME} {t : MT} {g : MG}
theorem gw_tpH {es : List Expr} {gs : MGs} {k : Nat} {n : Nat} {js : List Nat} (hot : HotB X) (h : JGsw X es gs js) (hl : ∀ ds ρ ρ', gs ds ρ = some ρ' → ds.length = n) (hn : (assignEach es X.env).length = n := by rfl) (hst : (assignEach es X.env).findIdx? (·.1) = none := by rfl) : JGw X (.Tuple es k pos) (gTp gs) js :=
  gw_tp h hl fun t h => pg_tupH hot h hn hst
theorem x_lcH (i : Nat) {x : Str} {px : Pos} {scope : Scope} {own : List (Str × Nat)} {js : List Nat} (hot : HotB X) (hN : X.N.Nodup) (ok : BlkOk X.N X.env.scope scope own) (hjs : ∀ k, k ∈ js → k ∈ own.map (·.2))
    (hg : ∀ (s : Shared) (H : Hp) (C : Addr) (cl : List (Str × Addr)) (fp : List Addr), HotB (X.blk s H scope (compEnvC scope cl C X.env) fp) → JGw (X.blk s H scope (compEnvC scope cl C X.env) fp) tg g js)
    (ht : ∀ (s : Shared) (H : Hp) (C : Addr) (cl : List (Str × Addr)) (fp : List Addr), JT (X.blk s H scope (compEnvC scope cl C X.env) fp) c t)
    (he : ∀ (s : Shared) (H : Hp) (C : Addr) (cl : List (Str × Addr)) (fp : List Addr), JE (X.blk s H scope (compEnvC scope cl C X.env) fp) elt f1) (hs : ∀ y, foldedSetIterable (.Name x px) X.env y = pure y := by intro _; rfl)
    (hi : X.N[i]? = some x := by rfl) (hv : Vis X.env.scope x := by first | exact Or.inl rfl | exact Or.inr (Or.inl rfl) | exact Or.inr (Or.inr rfl)) (hd : (x == ("__debug__" : Str)) = false := by decide) (hcd : (x == ("__classdict__" : Str)) = false := by decide) :
    JE X (.ListComp elt [⟨tg, .Name x px, [c], 0⟩] scope pos) (mLc (iV i) g t f1 (own.map (·.2))) := by
  refine x_lcW (wi := iList X.K (tVar i)) HotB (fun H0 σ H ρ ds ρ' ok h R' k => ?_) hjs hg (fun s H C cl fp => ?_) he fun g' t' e' pg pt pe => pe_lcH hot hN (pe_var hi hv hd hcd) ok pg pt pe hs
  · obtain ⟨H0', p, vs, e0, ok', _, s, l, g⟩ := frz_ok ok h
    exact ⟨_, s, p, rfl, ⟨_, ex_l ok'.base l⟩, k _ H H0' e0 ok' (Ex.refl _) (itd_list l g)⟩
  · obtain ⟨tt, q, v⟩ := ht s H C cl fp
    exact ⟨tt, pts_one q, v⟩
end
end
end Tl

namespace Tl
open PySem PySem.Spec PyProof.Rows L2 Evl
noncomputable section
theorem roomM {k : Nat} {A : Around} {h : Option Value} (r : Room k A) : L2H.RoomH k (A.mark h) := ⟨r.dp, r.un⟩
/-! ### products of great numbers -/
def cMulW (i j : Int) : Bool := okP (CMulW i j)
def mMulW (f1 f2 : ME) : ME := fun ρ => mII cMulW (fun a b => .int (a * b)) f1 f2 ρ
theorem x_mulW {X : Cx} {a b : Expr} {pos : Pos} {f1 f2 : ME} (ha : JE X a f1) (hb : JE X b f2) : JE X (.BinOp a .Mult b pos) (mMulW f1 f2) := x_op op_mulW (fun i j h => okP_of h) (fun _ _ _ => .int _) ha hb
/-! ### x in a list -/
def mInL (n : Bool) (f g : ME) : ME := fun ρ => (asDat (f ρ)).bind fun x => (asLst (g ρ)).bind fun ys => if ys.isEmpty = true then none else (inF x ys).map fun b => .dat (.bl (if n = true then !b else b))
section
variable {X : Cx} {a b : Expr} {pos : Pos} {f1 f2 : ME}
theorem ev_inL {n : Bool} {ta tb : TE} {σ : L2.St} {H : Hp} {ρ : Rho} {r : R} {H0 : Hp} (va : ∀ H0 σ H ρ r, Ok X H0 σ H ρ → f1 ρ = some r → EvR X.K ta σ H r) (vb : ∀ H0 σ H ρ r, Ok X H0 σ H ρ → f2 ρ = some r → EvR X.K tb σ H r) (ok : Ok X H0 σ H ρ)
    (h : mInL n f1 f2 ρ = some r) : EvR X.K (tOp (rIn X.K n) ta tb) σ H r := by
  unfold mInL at h
  obtain ⟨x, hx, h⟩ := Option.bind_eq_some_iff.mp h
  obtain ⟨ys, hy, h⟩ := Option.bind_eq_some_iff.mp h
  split at h
  · cases h
  · rename_i hne
    obtain ⟨k, hk, h⟩ := Option.map_eq_some_iff.mp h
    subst h
    intro H1 e1 Q q
    refine va _ _ _ _ _ ok (asDat_some hx) H1 e1 _ fun v H2 e2 gv => ?_
    refine ev_lst hy (fun r hr => vb _ _ _ _ _ ok hr) H2 (e1.trans e2) _ fun w H3 e3 ⟨p, ws, hv, hl, hdn⟩ => ?_
    subst hv
    obtain ⟨h1, h2, h3⟩ := inF_of (Den.ex gv e3) hdn hk
    refine ⟨p, ws, rfl, .inl hl, h2 (by intro z; subst z; exact hne rfl), h1, ?_⟩
    rw [h3]
    exact q _ H3 (e2.trans e3) (.bl _)
theorem x_inL (ha : JE X a f1) (hb : JE X b f2) (hm : behindInMarks .In b = false := by rfl) : JE X (.Compare a [.In] [b] pos) (mInL false f1 f2) := by
  obtain ⟨ta, pa, va⟩ := ha
  obtain ⟨tb, pb, vb⟩ := hb
  exact ⟨_, pe_cmpR op_in_seq pa pb hm, fun H0 σ H ρ r ok h => ev_inL va vb ok h⟩
theorem t_inL (ha : JE X a f1) (hb : JE X b f2) (hm : behindInMarks .In b = false := by rfl) : JT X (.Compare a [.In] [b] pos) (mT (mInL false f1 f2)) := by
  obtain ⟨ta, pa, va⟩ := ha
  obtain ⟨tb, pb, vb⟩ := hb
  exact ⟨_, pt_cmpR op_in_seq pa pb hm, fun H0 σ H ρ r ok h => ev_test h fun r hr => ev_inL va vb ok hr⟩
theorem t_niL (ha : JE X a f1) (hb : JE X b f2) (hm : behindInMarks .NotIn b = false := by rfl) : JT X (.Compare a [.NotIn] [b] pos) (mT (mInL true f1 f2)) := by
  obtain ⟨ta, pa, va⟩ := ha
  obtain ⟨tb, pb, vb⟩ := hb
  exact ⟨_, pt_cmpR op_notIn_seq pa pb hm, fun H0 σ H ρ r ok h => ev_test h fun r hr => ev_inL va vb ok hr⟩
end
/-! ### name = ('word', f(..)), f a def that may refuse -/
def mSetTX (i : Nat) (z : Str) (m : MirX) (ma : MA) : MS := fun ρ => match callX m ma ρ with
  | some (.ok (.dat d)) => some (.nx (ρ.set i (.dat (.tup [.str z, d]))))
  | some (.exc c fs) => some (.exc c fs ρ)
  | some (.exc0 c) => some (.exc0 c ρ)
  | _ => none
section
variable {X : Cx} {W : WX} {a : Expr} {es : List Expr} {pos p pt pz : Pos} {x : Str} {k : Nat} {m : MirX} {ma : MA}
theorem s_setTX (i : Nat) {y z : Str} {j : Nat} {kt} {pos' cp : Pos} (h : CalX X.prog X.w X.K X.mg X.base x k m) (hr : Room k X.A) (tk : L2N.Takes X W) (hN : X.N.Nodup) (ha : JA X (a :: es) ma) (hg : Gl X x := by rfl) (hdb : (x == ("__debug__" : Str)) = false := by decide)
    (he : starEach (a :: es) X.env = (false, eval a X.env) :: starEach es X.env := by rfl) (hpl : (backTo cp (starEach es X.env)).any (·.1) = false := by rfl)
    (hi : X.N[i]? = some y := by rfl) (hx : Loc X.env.scope y := by first | exact Or.inl rfl | exact Or.inr rfl) (hs : swapsWith (.Tuple [.Constant (.str z) j pz, .Call (.Name x p) (a :: es) [] cp] kt pt) (some (.Name y pos')) pos.line X.env = pure false := by rfl)
    (h1 : starEach (.Constant (.str z) j pz :: [.Call (.Name x p) (a :: es) [] cp]) X.env = (false, eval (.Constant (.str z) j pz) X.env) :: starEach [.Call (.Name x p) (a :: es) [] cp] X.env := by rfl)
    (h2 : starEach (.Call (.Name x p) (a :: es) [] cp :: []) X.env = (false, eval (.Call (.Name x p) (a :: es) [] cp) X.env) :: starEach [] X.env := by rfl)
    (hf : X.fn y = true ∨ X.env.scope.names.lookup y = some .local := by first | exact .inl rfl | exact .inr rfl | assumption) :
    JS X W (.Assign [.Name y pos'] (.Tuple [.Constant (.str z) j pz, .Call (.Name x p) (a :: es) [] cp] kt pt) pos) (mSetTX i z m ma) := by
  obtain ⟨f, fd, ps, F, hm, hk, hb⟩ := h
  obtain ⟨ta, pa, va⟩ := ha
  refine ⟨_, ps_set hN hi hx (pe_tup (pa_cons pe_str (pa_cons (pe_callS F hr hg hm hk hb (fun σ => L2N.passAt tk σ) pa hdb he hpl) pa_nil h2) h1)) hs hf, fun H0 E σ H ρ fl ok h q => ?_⟩
  unfold mSetTX callX at h
  cases hrs : ma ρ with
  | none => rw [hrs] at h; cases h
  | some rs =>
    rw [hrs, Option.bind_some] at h
    refine va _ _ _ _ _ ok hrs H (Ex.refl H) _ fun vs H2 e2 g => ?_
    cases ho : m (rs.map argN) with
    | none => rw [ho] at h; cases h
    | some o =>
      rw [ho] at h
      refine ⟨rs.map argN, o, ⟨g.norm, ok.tbs.ex e2⟩, ho, outp_of ok e2 q (fun r zr => ?_) (fun c fs zr => ?_) (fun c zr => ?_)⟩
      · subst zr
        cases r with
        | lst _ => cases h
        | new _ => cases h
        | ro _ => cases h
        | dat d =>
          cases h
          refine fun v H' e' gv => ?_
          have gv : Den X.K H' v d := gv
          refine ⟨by show 2 ≤ sizeLine; decide, fun pa na => q _ _ ?_⟩
          have e3 := Ex.new (o := .tup [.str z, v]) na
          exact ((ok.ex (e2.trans e')).ex e3).set (.tup (st_of upd_same) (.cons (.str z) (.cons (gv.ex e3) .nil)))
      · subst zr
        cases h
        rfl
      · subst zr
        cases h
        rfl
end
end
end Tl

namespace Tl
open PySem PySem.Spec PyProof.Rows L2 Evl
noncomputable section
/-! ### tuple * 1, the empty tuple times anything: the tuple itself -/
theorem mulSame (l : Addr) (items : Array Value) (n : Nat) (dd : Option Addr) (sl : Array (Option Value)) (x : Int) (u : Tok) (c0 : (decide (x < -(2 ^ 63)) || decide (x ≥ 2 ^ 63)) = false) (c1 : (items.isEmpty || x == 1) = true) :
    Meets (Builtin.«tuple.__mul__» ⟨[.ref l, .int x u], []⟩) (fun _ R s => s.heap.get? l = some { cls := .type "tuple", dict := dd, data := .seq items n, slots := sl } ∧ R (.ok (.ret (Value.ref l))) s) :=
  .of_wp fun prog w A R s ⟨gl, gr⟩ => by
    obtain ⟨hp, g, d, tk, os⟩ := s; have f1 := AutoSeq1.idx_int; wp_walk using wpAny_loadPart' gl
    repeat (first | (refine wpAny_ite_false (decide_eq_false (by rw [c0]; exact Bool.false_ne_true)) ?_; wp_walk using wpAny_loadPart' gl) | (refine wpAny_ite_true (decide_eq_true (by rw [c1])) ?_; wp_walk using wpAny_loadPart' gl))
    exact ⟨_, rfl, gr⟩
section
variable {X : Cx} {a b : Expr} {pos : Pos} {f1 f2 : ME}
def rSame (K : PySem.W.Frag) : R2 := fun x y H Q => ∃ l k xs, x = .ref l ∧ y = .int k ∧ SqT K H l xs ∧ (xs = [] ∨ k = 1) ∧ (-(2 ^ 63) ≤ k ∧ k < 2 ^ 63) ∧ Q (.ref l) H
theorem op_same : OpR X (binaryOp .Mult) (rSame X.K) := by
  intro pins s σ H x y v u Q I rx ry h
  obtain ⟨l, k, xs, rfl, rfl, hT, hk, hb, q⟩ := h
  cases rx
  obtain ⟨t, rfl⟩ := ry
  obtain ⟨its, r, ⟨⟨cls, dd, data, sl⟩, ho, hc, n, hd⟩, hs⟩ := I.tuple hT
  simp only at hc hd
  subst hc hd
  have c0 : (decide (k < -(2 ^ 63)) || decide (k ≥ 2 ^ 63)) = false := by
    rw [Bool.or_eq_false_iff]; exact ⟨decide_eq_false (by omega), decide_eq_false (by omega)⟩
  have c1 : (its.toArray.isEmpty || k == 1) = true := by
    rcases hk with e | e
    · subst e
      cases r
      rfl
    · subst e
      simp
  refine wpAny_binaryOp_repeat_ref (T := "tuple") (U := "int") (by decide) ⟨_, ho, rfl⟩ (fun s' => typeIs_int s' k t) noFill_tuple_mul F.fills_int_mul F.slot_int_rmul repeat_tuple F.slot_int_index.lookup (call_meets F.slot_int_rmul (typeIs_int s k t) F.entry_int_rmul (F.args_int_rmul_2 _ _) (int_rmul_tuple k t l its.toArray n dd sl) ⟨ho, rfl, ⟨_, ho, rfl⟩, ?_⟩)
  exact call_meets F.slot_tuple_mul ⟨_, ho, rfl⟩ F.entry_tuple_mul (F.args_tuple_mul_2 _ _) (mulSame l its.toArray n dd sl k t c0 c1) ⟨ho, .ref l, H, I, rfl, q⟩
theorem op_rep2 : OpR X (binaryOp .Mult) (fun x y H Q => rRepT X.K x y H Q ∨ rSame X.K x y H Q) := fun pins s σ H x y v u Q I rx ry h => h.elim (fun z => op_repT pins s σ H x y v u Q I rx ry z) fun z => op_same pins s σ H x y v u Q I rx ry z
def mRepT2 (f g : ME) : ME := fun ρ => (asTup (f ρ)).bind fun xs => (asInt (g ρ)).bind fun k => if okP (xs.length ≤ 1000 ∧ k ≤ 1000 ∧ (1 ≤ k ∨ (xs = [] ∧ 0 ≤ k))) = true then some (.dat (.tup (List.replicate k.toNat xs).flatten)) else none
theorem flat_nil {α : Type} : ∀ n : Nat, (List.replicate n ([] : List α)).flatten = []
  | 0 => rfl
  | n + 1 => by rw [List.replicate_succ, List.flatten_cons, flat_nil n]; rfl
theorem x_repT2 (ha : JE X a f1) (hb : JE X b f2) : JE X (.BinOp a .Mult b pos) (mRepT2 f1 f2) := by
  obtain ⟨ta, pa, va⟩ := ha
  obtain ⟨tb, pb, vb⟩ := hb
  refine ⟨_, pe_op op_rep2 pa pb, fun H0 σ H ρ r ok h => ?_⟩
  unfold mRepT2 at h
  obtain ⟨xs, hx, h⟩ := Option.bind_eq_some_iff.mp h
  obtain ⟨k, hk, h⟩ := Option.bind_eq_some_iff.mp h
  split at h
  · rename_i hz
    have hz := okP_of hz
    cases h
    intro H1 e1 Q q
    refine (va _ _ _ _ _ ok (asTup_some hx)).tup H1 e1 _ fun p vs H2 e2 l1 g1 => ?_
    refine (vb _ _ _ _ _ ok (asInt_some hk)).int H2 (e1.trans e2) _ fun H3 e3 => ?_
    have l3 := ex_t e3 l1
    have g3 := g1.ex e3
    by_cases h1 : vs = [] ∨ k = 1
    · refine .inr ⟨p, k, vs, rfl, rfl, l3, h1, by omega, q _ H3 (e2.trans e3) ?_⟩
      rcases h1 with e | e
      · subst e
        cases g3
        rw [flat_nil]
        exact .tup l3 .nil
      · subst e
        have : (List.replicate (1 : Int).toNat xs).flatten = xs := by simp
        rw [this]
        exact .tup l3 g3
    · have nv : vs ≠ [] := fun z => h1 (.inl z)
      have nx : xs ≠ [] := fun z => by
        subst z
        cases g3
        exact nv rfl
      have k2 : 2 ≤ k := by
        rcases hz.2.2 with z | z
        · have : k ≠ 1 := fun z => h1 (.inr z)
          omega
        · exact absurd z.1 nx
      exact .inl ⟨p, k, vs, rfl, rfl, l3, nv, k2, hz.2.1, by rw [g1.length]; exact hz.1, fun z nz => q _ _ ((e2.trans e3).trans (Ex.new nz)) (.tup (st_of upd_same) ((g3.rep _).ex (Ex.new nz)))⟩
  · cases h
end
end
end Tl

namespace Tl
open PySem PySem.Spec PyProof.Rows L2 Evl
noncomputable section
/-! ### all(test for sign in text), the test may read a name of the module -/
/-- the test of the sign c, in the generator's own frame -/
def EltG (X : Cx) (scope : Scope) (x : Str) (elt : Expr) (pb : Nat → Bool) : Prop :=
  ∀ (ce : Env) (B : Around) (E' : Value → Shared → Prop) (c : Nat) (u : Tok) (z : Shared) (ml : Str → Option Value), ce.scope = scope → ce.globals = mainGlobals → z.heap.Ns mainGlobals X.mg → z.heap.Ns ce.locals ml →
    ml x = some (.str ⟨#[c]⟩ u) → wpAny (model X.prog X.w) B (eval elt ce) (fun y z' => y = .bool (pb c) ∧ Keeps z z') E' z
/-- the sign stands in the text y -/
def inSign (y : Str) (c : Nat) : Bool := !(Builtin.Str.occurrences y ⟨#[c]⟩ 0 y.length 1).isEmpty
section
variable {X : Cx} {pins : List (Addr × Obj)} {σ : L2.St} {H : Hp} {s : Shared}
theorem elt_in {scope : Scope} {x g : Str} {y : Str} {u : Tok} {p1 p2 p3 : Pos} (hk : scope.kind = .function) (hl : scope.names.lookup x = some .local) (hg : scope.names.lookup g = some .globalImplicit) (hm : X.mg g = some (.str y u))
    (hd : (x == ("__debug__" : Str)) = false := by decide) (hd2 : (g == ("__debug__" : Str)) = false := by decide) : EltG X scope x (.Compare (.Name x p1) [.In] [.Name g p2] p3) (inSign y) := by
  intro ce B E' c t z ml hs hgl hG hL hx
  refine wpAny_Compare1 (wpAny_Name (wpAny_loadName_local (by rw [hs]; exact hk) (show ce.scope.names.lookup x = some .local by rw [hs]; exact hl) hL hx ?_) hd)
  refine Calls.Name_function_global (by rw [hs]; exact hk) (show ce.scope.names.lookup g = some .globalImplicit by rw [hs]; exact hg) (Calls.loadGlobal_global (by rw [hgl]; exact hG) hm ?_) hd2
  exact PyProof.Rows.in_str ⟨rfl, GxR.keeps_refl _⟩
theorem gen_signs {c P : Addr} {elt iter : Expr} {x : Str} {px gpos : Pos} {scope : Scope} {pb : Nat → Bool} {te : TE} {k : Nat} {Qv : Value → Shared → Prop} {R : Str → Hp → Prop} (hr : Room k X.A) (TB : GxR.TabB X.base X.mg c P) (hcode : X.env.code = .ref c)
    (S : GxR.GenS X.env scope x) (hi : PE X iter te) (hel : EltG X scope x elt pb) (hs : ∀ v, genFold iter X.env v = pure v) (I : Inv X pins σ H s) (h : te σ H fun v G => ∃ a : Str, v = .str a ∧ GxR.TabG G P ∧ R a G)
    (hQ : ∀ a G g z, R a G → GxR.Ready X pins σ G P a pb g z → Qv (.ref g) z) : wpAny (model X.prog X.w) X.A (eval (.GeneratorExp elt [⟨.Name x px, iter, [], 0⟩] scope gpos) X.env) Qv X.xe s := by
  refine wpAny_GeneratorExp_walksQ hr.hd S.co (closure_ok S.free) S.cell S.dot S.loc S.kind (by have := hr.dp; omega) ?_ hs
  refine thn (hi.run pins s σ H _ I h) fun xv sa ⟨v, G, J, rv, qv⟩ => ?_
  obtain ⟨a, rfl, ⟨qs, tP, tk⟩, hR⟩ := qv
  obtain ⟨tt, rfl⟩ := _root_.id rv
  refine wpAny_pyIter_str fun o St W hst => ?_
  have gP : sa.heap.get? P = some { cls := .none, data := .fields qs } := J.hok P _ tP
  have ltP := Heap.lt_size gP
  have gP2 : (sa.heap.push o).get? P = some { cls := .none, data := .fields qs } := Heap.get?_push_of_some _ gP
  have cd : PySem.W.CodeHd (sa.heap.push o) c P := TB.code.keeps fun b u e => Heap.get?_push_of_some _ (J.bk b u e)
  have lim : (sa.heap.push o).NoLimit := J.nolimit.push o
  have szp : (sa.heap.push o).objs.size = sa.heap.objs.size + 1 := Heap.size_push ..
  refine ⟨lim, ?_⟩
  -- the generator's code, there or made now
  have made : wpAny (model X.prog X.w) X.A (genexprCode X.env gpos (X.env.qual ++ "<genexpr>") scope) (fun _ z => ∃ hc tk' more, z = { sa with heap := hc, toks := tk' } ∧ Heap.ExtBut P (sa.heap.push o) hc ∧ (sa.heap.push o).objs.size ≤ hc.objs.size ∧
      hc.get? P = some { cls := .none, data := .fields (qs ++ more) } ∧ TriplesOk (qs ++ more).toList) X.xe { sa with heap := sa.heap.push o } := by
    cases hf : codeAmong gpos qs.toList with
    | some cv => exact wpAny_genexprCode_hit hcode (cd.code gP2 tk) hf ⟨_, _, #[], rfl, Heap.ExtBut.refl _ _, Nat.le_refl _, by simpa using gP2, by simpa using tk⟩
    | none =>
      refine wpAny_genexprCodeX hcode (cd.code gP2 tk) (cd.tab gP2) hf fun c' hc tk' hx l1 l2 isC _ isT _ => ?_
      obtain ⟨_, _, _, _, _, _, _, _, _, _, _, _, _, _, _, _, _, _, _, htr, _⟩ := isC
      exact ⟨_, _, _, rfl, hx, Nat.le_trans l1 (Nat.le_of_lt l2), isT.2, htr⟩
  refine thn made fun code z hz => ?_
  obtain ⟨hc, tk', more, rfl, hx, hle, gP3, ht3⟩ := hz
  obtain ⟨bm, ob, e1, e2, e3, e4, e5, e6, e7, e8⟩ := TB.bm
  have keep : ∀ b u, b ≠ P → sa.heap.get? b = some u → hc.get? b = some u := fun b u hb e => hx b u hb (Heap.get?_push_of_some _ e)
  have csP : cStatics ≠ P := fun e => by
    obtain ⟨_, ⟨o', _, _, ho, hd, _⟩, _⟩ := J.nolimit
    rw [e, gP] at ho
    cases ho
    cases hd
  have csl : cStatics < sa.heap.objs.size := by
    obtain ⟨_, hns, _⟩ := J.nolimit
    exact hns.lt
  have gns : sa.heap.Ns mainGlobals X.mg := J.mod.glob.keeps J.bk
  refine wpAny_builtinsFor (m := X.mg) (by rw [J.ok.glob]; exact (gns.push o).extBut hx TB.gP) e1 e2 (keep _ _ e4 (J.bk _ _ e5)) e6 e7 e8 ?_
  refine ⟨sa.heap.objs.size, [sa.heap.objs.size], [sa.heap.objs.size], a.cps.size, SignAt a, St, (fun _ => true), (fun i y => ∃ cc, a.cps[i]? = some cc ∧ y = .bool (pb cc)), rfl, W, ?_, ?_, lim.extBut hx csP, ?_, ?_, ?_⟩
  · refine (W X.A hr.hd).frame _ _ _ hst fun b hb u e => hx b u (fun q => ?_) e
    rw [List.mem_singleton] at hb
    exact Nat.ne_of_lt ltP (q.symm.trans hb)
  · intro b hb
    rw [List.mem_singleton] at hb
    rw [hb]
    show sa.heap.objs.size < hc.objs.size
    omega
  · rw [List.mem_singleton]
    exact Nat.ne_of_lt csl
  · intro href hh
    refine ⟨fun B E' i v z ml hB hv hn hm hk => ?_, fun B E' i v z ml hB hv hp hn hm hk => ?_⟩
    · simp only [List.forIn_nil]
      exact wpAny_pure ⟨rfl, GxR.keeps_refl _⟩
    · obtain ⟨cc, u, hcc, rfl⟩ := hv
      have gz : z.heap.Ns mainGlobals X.mg := by
        have lg := gns.lt
        obtain ⟨og, es, ep, ho, rest⟩ := gns
        refine ⟨og, es, ep, hk _ (List.mem_range.mpr ?_) ?_ _ (hh _ _ (keep _ _ TB.gP ho)), rest⟩
        · exact Nat.lt_of_lt_of_le lg (Nat.le_trans (by rw [szp]; exact Nat.le_succ _) hle)
        · rw [List.mem_singleton]
          exact Nat.ne_of_lt lg
      exact wpAny_mono (hel _ B E' cc u z ml rfl J.ok.glob gz hn hm) (fun y z' r => ⟨⟨cc, hcc, r.1⟩, r.2⟩) fun _ _ e => e
  · intro g h5 tk5 gs hgb hag hsz5 hk5 W5 hat
    simp only [GxR.passing_true, List.length_range] at W5
    refine hQ a G g _ hR ⟨_, _, _, _, _, W5.in4_1, hat, fun j y sj Qj Ej hy hj => ?_, fun z hm => ?_⟩
    · obtain ⟨i, hij, cc, hcc, rfl⟩ := hy
      obtain ⟨_, ej⟩ := List.getElem?_eq_some_iff.mp hij
      rw [List.getElem_range] at ej
      subst ej
      have e9 : a.cps.toList[j]? = some cc := (Array.getElem?_toList ..).trans hcc
      have hj2 : Qj (GxR.trF pb a.cps.toList j) sj := hj
      rw [GxR.trF_some e9] at hj2
      exact wpAny_truthy_bool hj2
    · have out : ∀ b u, sa.heap.get? b = some u → b ∉ hc.objs.size :: [sa.heap.objs.size] := fun b u e hb => by
        have hl := Heap.lt_size e
        simp only [List.mem_cons, List.not_mem_nil, or_false] at hb
        rcases hb with q | q
        · rw [q] at hl
          exact absurd (Nat.lt_of_lt_of_le hl (Nat.le_trans (by rw [szp]; exact Nat.le_succ _) hle)) (Nat.lt_irrefl _)
        · exact Nat.lt_irrefl _ (q ▸ hl)
      have N := GxR.inv_tab (more := more) (h' := z.heap) (g' := z.gens) (d' := z.drawn) (t' := z.toks) J tP (fun b u hb e => hm.heap b u (out b u e) (hk5 b u (keep b u hb e))) (hm.heap P _ (out P _ gP) (hk5 P _ gP3)) (AllBare.movedS (J.bare.push hgb) hm)
      rw [GxR.sh_eta sa z hm.os] at N
      exact ⟨_, ⟨⟨qs ++ more, upd_same, ht3⟩, fun b hb => upd_ne hb⟩, N⟩
theorem pe_allG {c P : Addr} {elt iter : Expr} {x : Str} {px p pos gpos : Pos} {scope : Scope} {pb : Nat → Bool} {te : TE} {k : Nat} (hr : Room k X.A) (hg : Gl X "all") (hm : X.mg "all" = none) (TB : GxR.TabB X.base X.mg c P) (hcode : X.env.code = .ref c)
    (S : GxR.GenS X.env scope x) (hi : PE X iter te) (hel : EltG X scope x elt pb) (hs : ∀ v, genFold iter X.env v = pure v)
    (he : starEach [.GeneratorExp elt [⟨.Name x px, iter, [], 0⟩] scope gpos] X.env = (false, eval (.GeneratorExp elt [⟨.Name x px, iter, [], 0⟩] scope gpos) X.env) :: starEach [] X.env := by rfl) :
    PE X (.Call (.Name "all" p) [.GeneratorExp elt [⟨.Name x px, iter, [], 0⟩] scope gpos] [] pos) (GxR.tAllS P pb te) := by
  constructor
  intro pins s σ H Q I h
  refine wpAny_Call_Name_kw (ld_blt I hg hm (show bootBuiltins "all" = some (.builtin "all") by decide +kernel) (PyProof.Rows.callWith_builtin1 ?_ he (by rfl)))
  rw [he]
  refine Calls.spliced_cons (rest := backTo pos (starEach [] X.env)) (gen_signs (R := fun a G => ∀ G2, GxR.Tabbed P G G2 → Q (.bl (a.cps.toList.all pb)) G2) hr TB hcode S hi hel hs I h fun a G g z hR hG => ?_)
  obtain ⟨_, _, _, F, St, W, hst, htr, hI⟩ := hG
  refine Calls.spliced_nil (call_all_walkS (W.self 0 _ _ _ hst ⟨g, _, _, _, _, F, St, _, rfl, W, hst, htr, fun z' hmv => ?_⟩))
  obtain ⟨G2, hT, N⟩ := hI z' hmv
  exact ⟨.bl _, G2, N, rfl, (GxR.all_signs a pb).symm ▸ hR G2 hT⟩
/-! in the layer -/
def mAllG (y : Str) (f : ME) : ME := fun ρ => (asStr (f ρ)).map fun z => .dat (.bl (z.cps.toList.all (inSign y)))
theorem x_allG {n c P : Addr} {fn : Str} {iter : Expr} {x g y : Str} {u : Tok} {px p pos gpos p1 p2 p3 : Pos} {scope : Scope} {f1 : ME} {k : Nat} (hr : Room k X.A) (hm : X.mg "all" = none) (tp : TabP X.K X.mg fn c P) (TB : GxR.TabB X.base X.mg c P) (hcode : X.env.code = .ref c)
    (S : GxR.GenS X.env scope x) (hi : JE X iter f1) (hy : X.mg g = some (.str y u)) (hl : scope.names.lookup g = some .globalImplicit := by rfl) (hg : Gl X "all" := by rfl) (hs : ∀ v, genFold iter X.env v = pure v := by exact fun _ => rfl)
    (hd : (x == ("__debug__" : Str)) = false := by decide) (hd2 : (g == ("__debug__" : Str)) = false := by decide)
    (he : starEach [.GeneratorExp (.Compare (.Name x p1) [.In] [.Name g p2] p3) [⟨.Name x px, iter, [], 0⟩] scope gpos] X.env = (false, eval (.GeneratorExp (.Compare (.Name x p1) [.In] [.Name g p2] p3) [⟨.Name x px, iter, [], 0⟩] scope gpos) X.env) :: starEach [] X.env := by rfl) :
    JE X (.Call (.Name "all" p) [.GeneratorExp (.Compare (.Name x p1) [.In] [.Name g p2] p3) [⟨.Name x px, iter, [], 0⟩] scope gpos] [] pos) (mAllG y f1) := by
  obtain ⟨te, pe, v⟩ := hi
  refine ⟨_, pe_allG hr hg hm TB hcode S pe (elt_in S.kind S.loc hl hy hd hd2) hs he, fun H0 σ H ρ r ok h => ?_⟩
  unfold mAllG at h
  obtain ⟨z, hz, h⟩ := Option.map_eq_some_iff.mp h
  subst h
  intro H1 e1 Q q
  refine (v _ _ _ _ _ ok (asStr_some hz)).str H1 e1 _ fun H2 e2 => ?_
  have t2 : GxR.TabG H2 P := (ok.tbs.ex (e1.trans e2)) fn c P tp
  exact ⟨z, rfl, t2, fun H3 hT => q _ H3 (e2.trans (.tabbed hT t2)) (.bl _)⟩
end
section
variable {P : Program} {w : World} {K : PySem.W.Frag} {mg : Str → Option Value} {base : Heap}
/-- a def whose code object is told -/
theorem d_okG {x qual : Str} {st : Stmt} {f c T : Addr} {fd : FuncData} {N ps : List Str} {k : Nat} {mb : MS} (F : Fun K x qual st f fd) (S : FnScope N ps (defScope st)) (gm : mg x = some (.ref f)) (tp : TabP K mg x c T)
    (hb : ∀ (A : Around) (outer : List Env) (s : Shared) (H : Hp) (E : XK), Room k (A.deeper (envOfC qual (defScope st) s.heap.objs.size f (.ref c))) → JB (cxOf CX0 P w K mg base N qual (defScope st) f (.ref c) A outer s H E).nox W0 (defBody st) mb) :
    FnOk P w K mg base CX0 (k + 1) f fd ps (spM K mg (mDef N.length ps.length mb)) := by
  obtain ⟨oc, od, kV, doc, pm, an, cdv, ct, osl, rfl, lk, hcd⟩ := F.ex
  have ec : cdv = .ref c := by
    obtain ⟨_, f', _, _, _, _, g1, g2, g3, _⟩ := tp
    rw [gm] at g1
    cases g1
    rw [lk] at g2
    cases g2
    exact g3
  subst ec
  refine fn_of lk hcd S (fun vs H Q E h => ?_) fun A outer s H vs Q E hr h => ?_
  · obtain ⟨rs, r, ha, hm, _⟩ := h
    unfold mDef at hm
    split at hm
    · rename_i hl
      rw [ha.length]; exact hl
    · cases hm
  · obtain ⟨rs, r, ha, hm, q⟩ := h
    obtain ⟨ts, p, v⟩ := hb A outer s H E hr
    unfold mDef at hm
    split at hm
    · refine ⟨ts, p.nox, ?_⟩
      cases hf : mb (startC N.length rs) with
      | none => rw [hf] at hm; cases hm
      | some fl =>
        rw [hf] at hm
        refine v H _ _ H _ fl (start_ok (X := (cxOf CX0 P w K mg base N qual (defScope st) f (.ref c) A outer s H E).nox) ha N) hf ?_
        cases fl with
        | ret r' => cases hm; exact fun u H' e g => q u H' e g
        | nx ρ' => cases hm; exact fun σ' H' ok' => q .non H' ok'.base .non
        | brk _ => cases hm
        | cnt _ => cases hm
        | exc _ _ _ => cases hm
        | exc0 _ _ => cases hm
    · cases hm
end
end
end Tl

namespace Tl
open PySem PySem.Spec PyProof.Rows L2 Evl
noncomputable section
/-! ### the end of a law some of whose defs walk a generator: their tables are empty behind the top -/
theorem cd_one {h : Heap} {c P P' : Addr} {ps : Array Value} (a : PySem.W.CodeHd h c P) (b : h.TableAt c P' ps) : P' = P := by
  obtain ⟨o, vs, _, _, _, _, _, _, _, e1, _, e3, e4, _⟩ := a
  obtain ⟨⟨o2, vs2, g1, _, g3, g4⟩, _⟩ := b
  rw [e1] at g1
  cases g1
  rw [e3] at g3
  cases g3
  rw [e4] at g4
  cases g4
  rfl
/-- what the end asks of the defs xs: each has an empty table -/
def TabsB (mg : Str → Option Value) (h : Heap) (x : Str) : Prop := ∀ (f c : Addr) (o : Obj) (fd : FuncData), mg x = some (.ref f) → h.get? f = some o → o.data = .func fd → fd.code = .ref c → ∃ P, h.TableAt c P #[]
theorem walk_ofG {l : PySem.W.OpenLaw} {n k : Nat} {q : Program} {loose : List Str} {XP : (Str → Option Value) → Heap → Prop} {YP : World → Heap → Prop} {d : DefRec} {K : Params → PySem.W.Frag} {CX : World → CXT} {x : Str} (xs : List Str)
    (hn : l.most = some n) (hn2 : n ≤ sizeLine) (hdf : d.params.defaults = []) (hr : Room k callerA) (hY : ∀ (w : World) (h : Heap), YP w h → (K w.params).In h) (hxs : ∀ y ∈ xs, ((recsOf q).find? fun e => e.name == y).isSome = true)
    (F : ∀ (w : World) (mg : Str → Option Value) (fa : Addr) (h : Heap), (K w.params).In h → h.Ns mainGlobals mg → mg d.name = some (.ref fa) → (∀ y ∈ xs, TabsB mg h y) → LamX.LawAtS l w (K w.params) (CX w) k n x mg fa h)
    (hCX : ∀ (w : World) (H : Hp) (s : Shared) (e : Value) (s' : Shared), CX w [] H s (fun _ _ _ => False) e s' → False) : PySem.W.WalkO q loose XP YP l.row.toRowW d [] (fun f vs => PySem.call f vs) := by
  refine Att.attach_callB hn hdf fun w s₀ z mg mb fa o pm cd doc a vs ns G Y ho hd hcd hmg hobj hints hlen hbits hg => ?_
  have tabs : ∀ y ∈ xs, TabsB mg z.heap y := fun y hy f c o' fd g1 g2 g3 g4 => by
    obtain ⟨d', hd'⟩ := Option.isSome_iff_exists.mp (hxs y hy)
    obtain ⟨c', P, e1, e2⟩ := PySem.W.based_of_top G.T hd' g1 g2 g3
    rw [g4] at e1
    cases e1
    exact ⟨P, e2.tab⟩
  obtain ⟨fd, cs, sp, hT, nT, C, hb, hsp, hF⟩ := F w mg fa _ (hY w _ Y) G.T.g hmg tabs
  exact LamX.law_callTs (hY w _ Y) G.T.g G.T.b G.T.builtins G.T.nolimit hg hT nT C G.T.bmain hobj hints (Nat.le_trans hlen hn2) hr hF hb (fun H hH hS => hsp H a ns hlen hbits hH hS) fun H e s' => hCX w H z e s'
theorem hd_one {K : PySem.W.Frag} {c P P' : Addr} (a : PySem.W.codeHdIn K c P = true) (b : PySem.W.codeHdIn K c P' = true) : P = P' := by
  unfold PySem.W.codeHdIn at a b
  split at a
  · rename_i vs _ hk
    rw [hk] at b
    simp only [Bool.and_eq_true] at a b
    obtain ⟨⟨⟨⟨⟨a1, _⟩, _⟩, _⟩, _⟩, _⟩ := a
    obtain ⟨⟨⟨⟨⟨b1, _⟩, _⟩, _⟩, _⟩, _⟩ := b
    split at a1
    · rename_i h1
      split at b1
      · rename_i h2
        rw [h1] at h2
        cases h2
        exact (beq_iff_eq.mp a1).symm.trans (beq_iff_eq.mp b1)
      · cases b1
    · cases a1
  · cases a
/-- a law's end, its tables at hand: the names of GN are not there, or have their table among cs -/
theorem law_atG {l : PySem.W.OpenLaw} {w : World} {K : PySem.W.Frag} {k n : Nat} {x : Str} {mg : Str → Option Value} {fa : Addr} {h : Heap} {m : Mir} {fd : FuncData} (KX : K.In h) (cs : List (Str × Addr × Addr))
    (hcs : ∀ p ∈ cs, TabP K mg p.1 p.2.1 p.2.2) (hall : ∀ y ∈ GN, mg y = none ∨ ∃ p ∈ cs, p.1 = y) (nT : ∀ p ∈ cs, K.lookup p.2.2 = none) (tabs : ∀ p ∈ cs, TabsB mg h p.1)
    (hb : ∀ (s : Shared) (u : Value), BindsTo s fd ⟨[u], []⟩ [(x, u)]) (hm : ∀ ns : List Int, ns.length ≤ n → m [.ro (ns.map D.int)] = some (.dat (.bl true)))
    (F : ∀ base : Heap, K.In base → base.Ns mainGlobals mg → (∀ p ∈ cs, GxR.TabB base mg p.2.1 p.2.2) → FnOk l.prog w K mg base CX0 k fa fd [x] (spM K mg m)) : LamX.LawAtS l w K CX0 k n x mg fa h := by
  have mem : ∀ q ∈ cs.map (·.2), ∃ p ∈ cs, p.2 = q := fun q hq => List.mem_map.mp hq
  refine ⟨fd, cs.map (·.2), spM K mg m, fun q hq => ?_, fun q hq => ?_, fun q hq => ?_, hb, fun H a ns hl _ hH hS => ?_, fun base X G T => F base X G fun p hp => ?_⟩
  · obtain ⟨p, hp, rfl⟩ := mem q hq
    obtain ⟨_, f, oc, od, fd', sl, g1, g2, g3, g4⟩ := hcs p hp
    obtain ⟨P, hP⟩ := tabs p hp f _ _ _ g1 (KX _ _ g2) rfl g3
    rw [← cd_one (PySem.W.codeHd_of_K KX g4) hP]
    exact hP.2
  · obtain ⟨p, hp, rfl⟩ := mem q hq
    exact nT p hp
  · obtain ⟨p, hp, rfl⟩ := mem q hq
    obtain ⟨_, f, oc, od, fd', sl, g1, g2, g3, g4⟩ := hcs p hp
    exact PySem.W.codeHd_of_K KX g4
  · refine law_end (fun y c P hy => ?_) hS (hm ns hl)
    rcases hall y hy.1 with z | ⟨p, hp, z⟩
    · obtain ⟨_, _, _, _, _, _, g1, _⟩ := hy
      rw [z] at g1
      cases g1
    · obtain ⟨_, f, oc, od, fd', sl, g1, g2, g3, g4⟩ := hy
      obtain ⟨_, f2, oc2, od2, fd2, sl2, k1, k2, k3, k4⟩ := hcs p hp
      rw [z, g1] at k1
      cases k1
      rw [g2] at k2
      cases k2
      rw [g3] at k3
      cases k3
      rw [hd_one g4 k4]
      exact ⟨#[], hH p.2 (List.mem_map.mpr ⟨p, hp, rfl⟩), trivial⟩
  · have t := T p.2 (List.mem_map.mpr ⟨p, hp, rfl⟩)
    exact ⟨t.code, t.bm, t.gP⟩
end
end Tl

namespace Tl
open PySem PySem.Spec PyProof.Rows L2 Evl
noncomputable section
/-! ### texts of the module -/
theorem gcon_str {K : PySem.W.Frag} {mg : Str → Option Value} {x y : Str} {t : Tok} (h : mg x = some (.str y t)) : Gcon K mg x (.str y) := ⟨.str y, _, h, ⟨t, rfl⟩, fun _ => .str y⟩
theorem gcon_str_of {K : PySem.W.Frag} {mg : Str → Option Value} {x y : Str} (h : Gcon K mg x (.str y)) : ∃ t, mg x = some (.str y t) := by
  obtain ⟨v, u, h1, r, d⟩ := h
  cases d (fun _ => none)
  obtain ⟨t, rfl⟩ := r
  exact ⟨t, h1⟩
/-! ### what is never come to -/
def mNo : ME := fun _ => none
def sNo : MS := fun _ => none
section
variable {X : Cx} {W : WX} {st : Stmt} {e : Expr}
theorem x_never : JE X e mNo := ⟨fun _ _ _ => False, ⟨fun _ _ _ _ _ _ h => h.elim⟩, fun _ _ _ _ _ _ h => by cases h⟩
theorem s_never : JS X W st sNo := ⟨fun _ _ _ => False, ⟨fun _ _ _ _ _ _ h => h.elim⟩, fun _ _ _ _ _ _ _ h => by cases h⟩
/-! ### all(sign in NAME for sign in text) -/
def genOk (scope : Scope) (x g : Str) : Bool := decide (scope.kind = .function) && !scope.isCoroutine && scope.names.all (fun y => !decide (y.2 = .cell) && !decide (y.2 = .free)) && decide (scope.names.lookup (".0" : Str) = some .local) && decide (scope.names.lookup x = some .local) && decide (scope.names.lookup g = some .globalImplicit)
theorem genOk_of {env : Env} {scope : Scope} {x g : Str} (h : genOk scope x g = true) : GxR.GenS env scope x ∧ scope.names.lookup g = some .globalImplicit := by
  unfold genOk at h
  simp only [Bool.and_eq_true, decide_eq_true_eq, Bool.not_eq_true', List.all_eq_true, decide_eq_false_iff_not] at h
  obtain ⟨⟨⟨⟨⟨h1, h2⟩, h3⟩, h4⟩, h5⟩, h6⟩ := h
  exact ⟨⟨h1, h2, fun y hy => (h3 y hy).1, h4, h5, fun y hy z => absurd z (h3 y hy).2⟩, h6⟩
theorem x_allC {c P : Addr} {fn : Str} {iter : Expr} {x g y : Str} {px p pos gpos p1 p2 p3 : Pos} {scope : Scope} {f1 : ME} {k : Nat} (hr : Room k X.A) (hm : X.mg "all" = none) (tp : TabP X.K X.mg fn c P) (TB : GxR.TabB X.base X.mg c P) (hcode : X.env.code = .ref c)
    (hi : JE X iter f1) (hy : Gcon X.K X.mg g (.str y)) (ok : genOk scope x g = true := by decide +kernel) (hg : Gl X "all" := by rfl) (hs : ∀ v, genFold iter X.env v = pure v := by exact fun _ => rfl)
    (hd : (x == ("__debug__" : Str)) = false := by decide) (hd2 : (g == ("__debug__" : Str)) = false := by decide)
    (he : starEach [.GeneratorExp (.Compare (.Name x p1) [.In] [.Name g p2] p3) [⟨.Name x px, iter, [], 0⟩] scope gpos] X.env = (false, eval (.GeneratorExp (.Compare (.Name x p1) [.In] [.Name g p2] p3) [⟨.Name x px, iter, [], 0⟩] scope gpos) X.env) :: starEach [] X.env := by rfl) :
    JE X (.Call (.Name "all" p) [.GeneratorExp (.Compare (.Name x p1) [.In] [.Name g p2] p3) [⟨.Name x px, iter, [], 0⟩] scope gpos] [] pos) (mAllG y f1) := by
  obtain ⟨u, hu⟩ := gcon_str_of hy
  obtain ⟨S, hl⟩ := genOk_of (env := X.env) ok
  exact x_allG (n := 0) hr hm tp TB hcode S hi hu hl hg hs hd hd2 he
end
end
end Tl

namespace Tl
open PySem PySem.Spec PyProof.Rows L2 Evl
noncomputable section
/-! ### a list's members among others: (a, *xs) -/
def lsOf : Option R → Option (List D)
  | some (.lst xs) => some xs
  | some (.new xs) => some xs
  | some (.ro xs) => some xs
  | some (.dat (.tup xs)) => some xs
  | _ => none
def aStar (f : ME) (ma : MA) : MA := fun ρ => (lsOf (f ρ)).bind fun xs => (ma ρ).map fun rs => xs.map R.dat ++ rs
section
variable {X : Cx} {e : Expr} {es : List Expr} {p : Pos} {f1 : ME} {ma : MA}
theorem ArgL.app {K : PySem.W.Frag} {H : Hp} : ∀ {vs us : List V} {ds : List D} {rs : List R}, DenL K H vs ds → ArgL K H us rs → ArgL K H (vs ++ us) (ds.map R.dat ++ rs)
  | _, _, _, _, .nil, h => h
  | _, _, _, _, .cons d t, h => .cons d (ArgL.app t h)
theorem a_star (ha : JE X e f1) (hr : JA X es ma) (hs : starEach (.Starred e p :: es) X.env = (true, eval e X.env) :: starEach es X.env := by rfl) : JA X (.Starred e p :: es) (aStar f1 ma) := by
  obtain ⟨ta, pa, va⟩ := ha
  obtain ⟨tb, pb, vb⟩ := hr
  refine ⟨_, StX.pa_star pa pb hs, fun H0 σ H ρ rs ok h => ?_⟩
  unfold aStar at h
  obtain ⟨xs, hx, h⟩ := Option.bind_eq_some_iff.mp h
  obtain ⟨j, hj, h⟩ := Option.map_eq_some_iff.mp h
  subst h
  intro H1 e1 Q q
  cases hf : f1 ρ with
  | none => rw [hf] at hx; cases hx
  | some r =>
    rw [hf] at hx
    refine va _ _ _ _ _ ok hf H1 e1 _ fun v H2 e2 g => ?_
    have key : ∃ a us, v = .ref a ∧ (SqT X.K H2 a us ∨ SqL X.K H2 a us) ∧ DenL X.K H2 us xs := by
      cases r with
      | lst ys => cases hx; obtain ⟨a, us, h1, h2, h3⟩ := g; exact ⟨a, us, h1, .inr (sq_of h2), h3⟩
      | new ys => cases hx; obtain ⟨a, us, h1, _, h2, h3⟩ := g; exact ⟨a, us, h1, .inr (sq_of h2), h3⟩
      | ro ys => cases hx; obtain ⟨a, us, h1, h2, h3⟩ := g; exact ⟨a, us, h1, .inr h2, h3⟩
      | dat d =>
        cases d with
        | tup ys =>
          cases hx
          have g : Den X.K H2 v (.tup xs) := g
          cases g with
          | tup h1 h2 => exact ⟨_, _, rfl, .inl h1, h2⟩
        | non => cases hx
        | bl _ => cases hx
        | int _ => cases hx
        | str _ => cases hx
        | dic _ => cases hx
    obtain ⟨a, us, rfl, hsq, hd⟩ := key
    refine ⟨a, us, rfl, hsq, ?_⟩
    exact vb _ _ _ _ _ ok hj H2 (e1.trans e2) _ fun vs H3 e3 gs => q _ H3 (e2.trans e3) (ArgL.app (hd.ex e3) gs)
end
/-! ### name = [comprehension] -/
section
variable {X : Cx} {W : WX} {elt tg it : Expr} {pos spos : Pos} {f1 : ME} {mi : MI} {g : MG}
theorem s_setLc (i : Nat) {y : Str} {py : Pos} {scope : Scope} {own : List (Str × Nat)} {js : List Nat} (hN : X.N.Nodup) (hc : X.calm = true) (hi : JI X tg it mi) (ok : BlkOk X.N X.env.scope scope own) (hjs : ∀ k, k ∈ js → k ∈ own.map (·.2))
    (hg : ∀ (s : Shared) (H : Hp) (C : Addr) (cl : List (Str × Addr)) (fp : List Addr), JGw (X.blk s H scope (compEnvC scope cl C X.env) fp) tg g js)
    (he : ∀ (s : Shared) (H : Hp) (C : Addr) (cl : List (Str × Addr)) (fp : List Addr), JE (X.blk s H scope (compEnvC scope cl C X.env) fp) elt f1) (hy : X.N[i]? = some y := by rfl) (hyl : X.env.scope.names.lookup y = some .local := by rfl)
    (hsw : swapsWith (.ListComp elt [⟨tg, it, [], 0⟩] scope pos) (some (.Name y py)) spos.line X.env = pure true := by rfl) (hs : ∀ x, foldedSetIterable it X.env x = pure x := by intro _; rfl) :
    JS X W (.Assign [.Name y py] (.ListComp elt [⟨tg, it, [], 0⟩] scope pos) spos) (mSet i (mLc mi g tYesM f1 (own.map (·.2)))) := by
  obtain ⟨wi, pi, vi⟩ := hi
  obtain ⟨te, p, v⟩ := lc_any (Pj := fun te => PS X (.Assign [.Name y py] (.ListComp elt [⟨tg, it, [], 0⟩] scope pos) spos) (tAsg te (gName i))) (t := tYesM) (own := own) (fun _ => True) vi hjs (fun s H C cl fp _ => hg s H C cl fp)
    (fun s H C cl fp => ⟨_, pts_nil, fun H0 σ H' ρ b ok h => by cases h; exact fun H1 _ Q q => q H1 (Ex.refl H1)⟩) he
    fun g' t' e' pg pt pe => ps_setLc hc hN hy hyl hsw pi ok (fun s H C cl fp => pg s H C cl fp trivial) pt pe hs
  refine ⟨_, p, fun H0 D σ H ρ fl ok h q => ?_⟩
  unfold mSet at h
  obtain ⟨ρ', h1, h2⟩ := Option.map_eq_some_iff.mp h
  subst h2
  cases hr : mLc mi g tYesM f1 (own.map (·.2)) ρ with
  | none => rw [hr] at h1; cases h1
  | some r =>
    rw [hr] at h1
    exact v _ _ _ _ _ ok hr H (Ex.refl H) _ fun w H2 e2 gw => q _ _ (setR_ok ok h1 e2 gw)
end
end
end Tl

namespace Tl
open PySem PySem.Spec PyProof.Rows L2 Evl
noncomputable section
/-! ### str(x), x a number or a text -/
def gStrA : List R → Option R
  | [.dat (.int i)] => gStr [.dat (.int i)]
  | [.dat (.str z)] => some (.dat (.str z))
  | _ => none
def mStrA (f : ME) : ME := fun ρ => (aCons f aNil ρ).bind gStrA
section
variable {X : Cx} {a : Expr} {pos : Pos} {f1 : ME}
theorem x_strA {p : Pos} (hm : X.mg "str" = none) (ha : JE X a f1) (hg : Gl X "str" := by rfl) (hs : starEach (a :: []) X.env = (false, eval a X.env) :: starEach [] X.env := by rfl) : JE X (.Call (.Name "str" p) [a] [] pos) (mStrA f1) := by
  refine x_bltT (id := "str") (r := fun xs H Q => (∃ i, xs = [.int i] ∧ i.natAbs.log2 < 1920 ∧ Q (.str (toString i)) H) ∨ ∃ z, xs = [.str z] ∧ Q (.str z) H) ?_ hg hm (by decide +kernel) (g := gStrA) (fun rs vs H q Q h g k => ?_) (a_cons ha a_nil hs) (he := hs)
  · intro pins s σ H us vs Q I r h
    rcases h with h | h
    · exact call_str_int pins s σ H us vs Q I r h
    · exact SkE.call_str_str pins s σ H us vs Q I r h
  · unfold gStrA at h
    split at h
    · rename_i i
      have h : (if okP (i.natAbs.log2 < 1920) = true then some (R.dat (.str (Str.ofString (toString i)))) else none) = some q := h
      split at h
      · rename_i hz
        cases h
        cases g with
        | cons g1 g2 =>
          cases g2
          have g1 : Den X.K H _ (.int i) := g1
          cases g1
          exact .inl ⟨i, rfl, okP_of hz, k _ H (Ex.refl H) (.str _)⟩
      · cases h
    · rename_i z
      cases h
      cases g with
      | cons g1 g2 =>
        cases g2
        have g1 : Den X.K H _ (.str z) := g1
        cases g1
        exact .inr ⟨z, rfl, k _ H (Ex.refl H) (.str _)⟩
    · cases h
end
end
end Tl

namespace Tl
open PySem PySem.Spec PyProof.Rows L2 Evl
noncomputable section
/-! ### startswith, removeprefix, partition -/
def mSw (f g : ME) : ME := fun ρ => (asStr (f ρ)).bind fun z => (asStr (g ρ)).map fun y => .dat (.bl (Txt.startswith z y))
def mRp (f g : ME) : ME := fun ρ => (asStr (f ρ)).bind fun z => (asStr (g ρ)).bind fun y => if szOk z.length = true then some (.dat (.str (Txt.removeprefix z y))) else none
def mPart (f g : ME) : ME := fun ρ => (asStr (f ρ)).bind fun z => (asStr (g ρ)).bind fun y => if (okP (y.length ≠ 0) && szOk z.length) = true then some (.dat (.tup [.str (Txt.partition z y).1, .str (Txt.partition z y).2.1, .str (Txt.partition z y).2.2])) else none
section
variable {X : Cx} {a b : Expr} {p2 p3 : Pos} {f1 f2 : ME}
theorem x_sw (ha : JE X a f1) (hb : JE X b f2) (hst : starEach [b] X.env = [(false, eval b X.env)] := by rfl)
    (hpe : ∀ to te, PE X a to → PE X b te → PE X (.Call (.Attribute a "startswith" p2) [b] [] p3) (tM1 (fun x xs H Q => ∃ a b, x = .str a ∧ xs = [.str b] ∧ Q (.bl (Txt.startswith a b)) H) to te) := by exact fun _ _ h1 h2 => pe_m1 PySem.F.slot_str_startswith PySem.F.type_str_startswith mt_startswith h1 h2) :
    JE X (.Call (.Attribute a "startswith" p2) [b] [] p3) (mSw f1 f2) := by
  obtain ⟨ta, pa, va⟩ := ha
  obtain ⟨tb, pb, vb⟩ := hb
  refine ⟨_, hpe _ _ pa pb, fun H0 σ H ρ r ok h => ?_⟩
  unfold mSw at h
  obtain ⟨z, hz, h⟩ := Option.bind_eq_some_iff.mp h
  obtain ⟨y, hy, h⟩ := Option.map_eq_some_iff.mp h
  subst h
  intro H1 e1 Q q
  refine (va _ _ _ _ _ ok (asStr_some hz)).str H1 e1 _ fun H2 e2 => ⟨⟨z, rfl⟩, ?_⟩
  refine (vb _ _ _ _ _ ok (asStr_some hy)).str H2 (e1.trans e2) _ fun H3 e3 => ?_
  exact ⟨z, y, rfl, rfl, q _ H3 (e2.trans e3) (.bl _)⟩
theorem x_rp (ha : JE X a f1) (hb : JE X b f2) (hst : starEach [b] X.env = [(false, eval b X.env)] := by rfl)
    (hpe : ∀ to te, PE X a to → PE X b te → PE X (.Call (.Attribute a "removeprefix" p2) [b] [] p3) (tM1 (fun x xs H Q => ∃ a b, x = .str a ∧ xs = [.str b] ∧ a.length ≤ sizeLine ∧ Q (.str (Txt.removeprefix a b)) H) to te) := by exact fun _ _ h1 h2 => pe_m1 PySem.F.slot_str_removeprefix PySem.F.type_str_removeprefix mt_removeprefix h1 h2) :
    JE X (.Call (.Attribute a "removeprefix" p2) [b] [] p3) (mRp f1 f2) := by
  obtain ⟨ta, pa, va⟩ := ha
  obtain ⟨tb, pb, vb⟩ := hb
  refine ⟨_, hpe _ _ pa pb, fun H0 σ H ρ r ok h => ?_⟩
  unfold mRp at h
  obtain ⟨z, hz, h⟩ := Option.bind_eq_some_iff.mp h
  obtain ⟨y, hy, h⟩ := Option.bind_eq_some_iff.mp h
  split at h
  · rename_i hk
    cases h
    intro H1 e1 Q q
    refine (va _ _ _ _ _ ok (asStr_some hz)).str H1 e1 _ fun H2 e2 => ⟨⟨z, rfl⟩, ?_⟩
    refine (vb _ _ _ _ _ ok (asStr_some hy)).str H2 (e1.trans e2) _ fun H3 e3 => ?_
    exact ⟨z, y, rfl, rfl, szOk_of hk, q _ H3 (e2.trans e3) (.str _)⟩
  · cases h
theorem x_part (ha : JE X a f1) (hb : JE X b f2) (hst : starEach [b] X.env = [(false, eval b X.env)] := by rfl)
    (hpe : ∀ to te, PE X a to → PE X b te → PE X (.Call (.Attribute a "partition" p2) [b] [] p3) (tM1 (fun x xs H Q => ∃ a b, x = .str a ∧ xs = [.str b] ∧ (b.length == 0) = false ∧ a.length ≤ sizeLine ∧ ∀ p, H p = none → Q (.ref p) (upd H p (.tup [.str (Txt.partition a b).1, .str (Txt.partition a b).2.1, .str (Txt.partition a b).2.2]))) to te) := by exact fun _ _ h1 h2 => pe_partition h1 h2) :
    JE X (.Call (.Attribute a "partition" p2) [b] [] p3) (mPart f1 f2) := by
  obtain ⟨ta, pa, va⟩ := ha
  obtain ⟨tb, pb, vb⟩ := hb
  refine ⟨_, hpe _ _ pa pb, fun H0 σ H ρ r ok h => ?_⟩
  unfold mPart at h
  obtain ⟨z, hz, h⟩ := Option.bind_eq_some_iff.mp h
  obtain ⟨y, hy, h⟩ := Option.bind_eq_some_iff.mp h
  split at h
  · rename_i hk
    cases h
    rw [Bool.and_eq_true] at hk
    have hk1 := okP_of hk.1
    intro H1 e1 Q q
    refine (va _ _ _ _ _ ok (asStr_some hz)).str H1 e1 _ fun H2 e2 => ⟨⟨z, rfl⟩, ?_⟩
    refine (vb _ _ _ _ _ ok (asStr_some hy)).str H2 (e1.trans e2) _ fun H3 e3 => ?_
    refine ⟨z, y, rfl, rfl, by simpa using hk1, szOk_of hk.2, fun u nu => ?_⟩
    exact q _ _ ((e2.trans e3).trans (Ex.new nu)) (.tup (st_of upd_same) (.cons (.str _) (.cons (.str _) (.cons (.str _) .nil))))
  · cases h
end
end
end Tl

namespace Tl
open PySem PySem.Spec PyProof.Rows L2 Evl
noncomputable section
/-! ### f'{n:02X}', f'words {text}', a text as a test, text.index(text) -/
def mHex (f : ME) : ME := fun ρ => (asInt (f ρ)).bind fun i => if okP (0 ≤ i ∧ i < 256) = true then some (.dat (.str (S [hx1 (i.toNat / 16), hx1 (i.toNat % 16)]))) else none
def mFs (w : Str) (f : ME) : ME := fun ρ => (asStr (f ρ)).bind fun z => if szOk (w.length + z.length) = true then some (.dat (.str (Str.empty ++ w ++ z))) else none
def mTs (f : ME) : MT := fun ρ => (asStr (f ρ)).bind fun z => if szOk z.length = true then some ((z.length : Int) != 0) else none
def mSix (f g : ME) : ME := fun ρ => (asStr (f ρ)).bind fun z => (asStr (g ρ)).bind fun y => match Builtin.Str.occurrences z y 0 z.length 1 with
  | i :: _ => some (.dat (.int (i : Nat)))
  | [] => none
def tHex (te : TE) : TE := fun σ H Q => te σ H fun x H1 => ∃ n : Nat, x = .int (n : Int) ∧ n < 256 ∧ Q (.str (S [hx1 (n / 16), hx1 (n % 16)])) H1
section
variable {X : Cx} {a b : Expr} {p2 p3 : Pos} {f1 f2 : ME}
theorem pe_hex {e : Expr} {te : TE} {j : Nat} {p p' p2 p3 : Pos} (he : PE X e te) : PE X (.JoinedStr [.FormattedValue e (-1) (some (.JoinedStr [.Constant (.str "02X") j p] p')) p2] p3) (tHex te) := by
  refine pe_joined1 ⟨fun pins s σ H Q I h => ?_⟩
  refine wpAny_FormattedValue_spec (thn (he.run pins s σ H _ I h) fun v s1 hv => ?_)
  obtain ⟨x, H1, I1, r1, n, rfl, hn, q⟩ := hv
  obtain ⟨t, rfl⟩ := r1
  refine thn ((pe_joined1 (X := X) (pos := p') (pe_str (x := "02X") (j := j) (pos := p))).run pins s1 σ H1 (fun y H2 => y = .str "02X" ∧ Q (.str (S [hx1 (n / 16), hx1 (n % 16)])) H2) I1 ⟨rfl, q⟩) fun u s2 hu => ?_
  obtain ⟨y, H2, I2, r2, rfl, q2⟩ := hu
  obtain ⟨t2, rfl⟩ := r2
  refine ⟨_, _, rfl, ?_⟩
  exact wpAny_formatField_spec (T := "int") (by decide +kernel) (fun s' => typeIs_int s' _ _) F.slot_int_format F.entry_int_format (fun a b => F.args_int_format_2 a b) (fun u => hex_at n hn t u) ⟨.str (S [hx1 (n / 16), hx1 (n % 16)]), H2, I2.tok _, ⟨_, rfl⟩, q2⟩ (by decide +kernel) (by show 2 ≤ _; decide)
theorem x_hex {j : Nat} {p p' p2 p3 : Pos} (ha : JE X a f1) : JE X (.JoinedStr [.FormattedValue a (-1) (some (.JoinedStr [.Constant (.str "02X") j p] p')) p2] p3) (mHex f1) := by
  obtain ⟨ta, pa, va⟩ := ha
  refine ⟨_, pe_hex pa, fun H0 σ H ρ r ok h => ?_⟩
  unfold mHex at h
  obtain ⟨i, hi, h⟩ := Option.bind_eq_some_iff.mp h
  split at h
  · rename_i hk
    cases h
    have hk := okP_of hk
    intro H1 e1 Q q
    refine (va _ _ _ _ _ ok (asInt_some hi)).int H1 e1 _ fun H2 e2 => ?_
    obtain ⟨n, rfl⟩ : ∃ n : Nat, i = (n : Int) := ⟨i.toNat, by omega⟩
    exact ⟨n, rfl, by omega, q _ H2 e2 (.str _)⟩
  · cases h
theorem x_fs {w : Str} {j : Nat} {p : Pos} (ha : JE X a f1) : JE X (.JoinedStr [.Constant (.str w) j p, .FormattedValue a (-1) none p2] p3) (mFs w f1) := by
  obtain ⟨ta, pa, va⟩ := ha
  refine ⟨_, pe_joined (.cons pe_str (.cons (pe_fmt pa) .nil)), fun H0 σ H ρ r ok h => ?_⟩
  unfold mFs at h
  obtain ⟨z, hz, h⟩ := Option.bind_eq_some_iff.mp h
  split at h
  · rename_i hk
    cases h
    have hk2 := szOk_of hk
    have l0 : (Str.empty ++ w).length = w.length := by rw [TL.len_tl, TL.tl_append, List.length_append, ← TL.len_tl, ← TL.len_tl]; exact Nat.zero_add _
    have l1 : (Str.empty ++ w ++ z).length = w.length + z.length := by rw [TL.len_tl, TL.tl_append, List.length_append, ← TL.len_tl, ← TL.len_tl, l0]
    intro H1 e1 Q q
    show ∃ y : Str, V.str w = .str y ∧ (Str.empty ++ y).length ≤ sizeLine ∧ _
    refine ⟨w, rfl, by rw [l0]; omega, ?_⟩
    show tFmt ta σ H1 _
    refine (va _ _ _ _ _ ok (asStr_some hz)).str H1 e1 _ fun H2 e2 => .inl ⟨z, rfl, by omega, ?_⟩
    exact ⟨z, rfl, by rw [l1]; exact hk2, q _ H2 e2 (.str _)⟩
  · cases h
theorem t_str (ha : JE X a f1) (he : ∀ whole, isTrue a X.env whole = (do let v ← whole; standAt a.pos; holding [v] (truthy v)) := by intro _; rfl) : JT X a (mTs f1) := by
  obtain ⟨ta, pa, va⟩ := ha
  refine ⟨_, pt_truth pa he, fun H0 σ H ρ k ok h => ?_⟩
  unfold mTs at h
  obtain ⟨z, hz, h⟩ := Option.bind_eq_some_iff.mp h
  split at h
  · rename_i hk
    cases h
    intro H1 e1 Q q
    exact (va _ _ _ _ _ ok (asStr_some hz)).str H1 e1 _ fun H2 e2 => ⟨_, ⟨szOk_of hk, rfl⟩, q H2 e2⟩
  · cases h
theorem x_six (ha : JE X a f1) (hb : JE X b f2) (hst : starEach [b] X.env = [(false, eval b X.env)] := by rfl)
    (hpe : ∀ to te, PE X a to → PE X b te → PE X (.Call (.Attribute a "index" p2) [b] [] p3) (tM1 (fun x xs H Q => ∃ a b i rest, x = .str a ∧ xs = [.str b] ∧ Builtin.Str.occurrences a b 0 a.length 1 = i :: rest ∧ Q (.int (i : Nat)) H) to te) := by exact fun _ _ h1 h2 => pe_m1 PySem.F.slot_str_index PySem.F.type_str_index mt_sindex h1 h2) :
    JE X (.Call (.Attribute a "index" p2) [b] [] p3) (mSix f1 f2) := by
  obtain ⟨ta, pa, va⟩ := ha
  obtain ⟨tb, pb, vb⟩ := hb
  refine ⟨_, hpe _ _ pa pb, fun H0 σ H ρ r ok h => ?_⟩
  unfold mSix at h
  obtain ⟨z, hz, h⟩ := Option.bind_eq_some_iff.mp h
  obtain ⟨y, hy, h⟩ := Option.bind_eq_some_iff.mp h
  split at h
  · rename_i i rest ho
    cases h
    intro H1 e1 Q q
    refine (va _ _ _ _ _ ok (asStr_some hz)).str H1 e1 _ fun H2 e2 => ⟨⟨z, rfl⟩, ?_⟩
    refine (vb _ _ _ _ _ ok (asStr_some hy)).str H2 (e1.trans e2) _ fun H3 e3 => ?_
    exact ⟨z, y, i, rest, rfl, rfl, ho, q _ H3 (e2.trans e3) (.int _)⟩
  · cases h
/-! ### a sign in a text -/
def mInS (n : Bool) (f g : ME) : ME := fun ρ => (asStr (f ρ)).bind fun i => (asStr (g ρ)).bind fun z => match i.cps.toList with
  | [c] => some (.dat (.bl (if n = true then !decide (c ∈ z.cps.toList) else decide (c ∈ z.cps.toList))))
  | _ => none
theorem inSign_mem (y : Str) (c : Nat) : inSign y c = decide (c ∈ y.cps.toList) := PySem.StrLaws.found_one y c
theorem one_sign {i : Str} {c : Nat} (h : i.cps.toList = [c]) : i = ⟨#[c]⟩ := TL.ext_tl h
theorem ev_inS {op : CmpOp} {n : Bool} {ta tb : TE} {σ : L2.St} {H : Hp} {ρ : Rho} {r : R} {H0 : Hp} (va : ∀ H0 σ H ρ r, Ok X H0 σ H ρ → f1 ρ = some r → EvR X.K ta σ H r) (vb : ∀ H0 σ H ρ r, Ok X H0 σ H ρ → f2 ρ = some r → EvR X.K tb σ H r) (ok : Ok X H0 σ H ρ)
    (h : mInS n f1 f2 ρ = some r) : EvR X.K (tOp (fun x y H Q => ∃ (c : Nat) (z : Str), x = .str ⟨#[c]⟩ ∧ y = .str z ∧ Q (.bl (if n = true then !decide (c ∈ z.cps.toList) else decide (c ∈ z.cps.toList))) H) ta tb) σ H r := by
  unfold mInS at h
  obtain ⟨i, hi, h⟩ := Option.bind_eq_some_iff.mp h
  obtain ⟨z, hz, h⟩ := Option.bind_eq_some_iff.mp h
  split at h
  · rename_i c hc
    cases h
    intro H1 e1 Q q
    refine (va _ _ _ _ _ ok (asStr_some hi)).str H1 e1 _ fun H2 e2 => ?_
    refine (vb _ _ _ _ _ ok (asStr_some hz)).str H2 (e1.trans e2) _ fun H3 e3 => ?_
    exact ⟨c, z, congrArg V.str (one_sign hc), rfl, q _ H3 (e2.trans e3) (.bl _)⟩
  · cases h
theorem x_inS (ha : JE X a f1) (hb : JE X b f2) (hm : behindInMarks .In b = false := by rfl) : JE X (.Compare a [.In] [b] p2) (mInS false f1 f2) := by
  obtain ⟨ta, pa, va⟩ := ha
  obtain ⟨tb, pb, vb⟩ := hb
  exact ⟨_, pe_cmpR op_in_sign pa pb hm, fun H0 σ H ρ r ok h => ev_inS (op := .In) va vb ok h⟩
theorem t_inS (ha : JE X a f1) (hb : JE X b f2) (hm : behindInMarks .In b = false := by rfl) : JT X (.Compare a [.In] [b] p2) (mT (mInS false f1 f2)) := by
  obtain ⟨ta, pa, va⟩ := ha
  obtain ⟨tb, pb, vb⟩ := hb
  exact ⟨_, pt_cmpR op_in_sign pa pb hm, fun H0 σ H ρ r ok h => ev_test h fun r hr => ev_inS (op := .In) va vb ok hr⟩
theorem x_niS (ha : JE X a f1) (hb : JE X b f2) (hm : behindInMarks .NotIn b = false := by rfl) : JE X (.Compare a [.NotIn] [b] p2) (mInS true f1 f2) := by
  obtain ⟨ta, pa, va⟩ := ha
  obtain ⟨tb, pb, vb⟩ := hb
  exact ⟨_, pe_cmpR op_notIn_sign pa pb hm, fun H0 σ H ρ r ok h => ev_inS (op := .NotIn) va vb ok h⟩
theorem t_niS (ha : JE X a f1) (hb : JE X b f2) (hm : behindInMarks .NotIn b = false := by rfl) : JT X (.Compare a [.NotIn] [b] p2) (mT (mInS true f1 f2)) := by
  obtain ⟨ta, pa, va⟩ := ha
  obtain ⟨tb, pb, vb⟩ := hb
  exact ⟨_, pt_cmpR op_notIn_sign pa pb hm, fun H0 σ H ρ r ok h => ev_test h fun r hr => ev_inS (op := .NotIn) va vb ok hr⟩
end
end
end Tl

namespace Tl
open PySem PySem.Spec PyProof.Rows L2 Evl
noncomputable section
/-! ### {'a': [..], ..}.get(key, [..]) -/
def newR : Option R → Option (List D)
  | some (.new xs) => some xs
  | _ => none
def newI (o : Option R) : Option (List Int) := (newR o).bind intsOf
theorem denl_ints (K : PySem.W.Frag) (G : Hp) : ∀ ns : List Int, DenL K G (ns.map V.int) (ns.map D.int)
  | [] => .nil
  | n :: ns => .cons (.int n) (denl_ints K G ns)
theorem newR_some {o : Option R} {xs : List D} (h : newR o = some xs) : o = some (.new xs) := by
  unfold newR at h
  split at h
  · cases h; rfl
  · cases h
abbrev MDl := Rho → Option (List (Str × List Int))
def lNil : MDl := fun _ => some []
def lCons (x : Str) (f : ME) (m : MDl) : MDl := fun ρ => (newI (f ρ)).bind fun xs => (m ρ).map fun r => (x, xs) :: r
/-- new lists by their keys -/
inductive NewL (H1 H : Hp) : List (Key × V) → List (Str × List Int) → Prop
  | nil : NewL H1 H [] []
  | cons {p : Addr} {x : Str} {xs : List Int} {kvs : List (Key × V)} {r : List (Str × List Int)} : H1 p = none → H p = some (.lst (xs.map V.int)) → NewL H1 H kvs r → NewL H1 H ((.inr x, .ref p) :: kvs) ((x, xs) :: r)
theorem ex_none {H1 H2 : Hp} {p : Addr} (e : Ex H1 H2) (h : H2 p = none) : H1 p = none := by
  cases hp : H1 p with
  | none => rfl
  | some o =>
    cases o with
    | tbl q => obtain ⟨q', h', _⟩ := e.t p q hp; rw [h] at h'; cases h'
    | _ => exact absurd (e.k p _ hp (by intro _ z; cases z)) (by rw [h]; exact fun z => by cases z)
theorem NewL.ex {H0 H1 H H' : Hp} (e0 : Ex H0 H1) (e : Ex H H') : ∀ {kvs : List (Key × V)} {ds : List (Str × List Int)}, NewL H1 H kvs ds → NewL H0 H' kvs ds
  | _, _, .nil => .nil
  | _, _, .cons n l r => .cons (ex_none e0 n) (e _ _ l) (NewL.ex e0 e r)
theorem NewL.val {H1 H : Hp} (k : Str) : ∀ {kvs : List (Key × V)} {ds : List (Str × List Int)}, NewL H1 H kvs ds →
    match ds.lookup k with
    | none => valV kvs (.inr k) = none
    | some xs => ∃ p, valV kvs (.inr k) = some (.ref p) ∧ H1 p = none ∧ H p = some (.lst (xs.map V.int))
  | _, _, .nil => rfl
  | _, _, .cons (x := x) (xs := xs) (p := p) (kvs := kvs) (r := r) n l t => by
    have ih := NewL.val k t
    by_cases h : k = x
    · subst h
      simp only [List.lookup_cons, beq_self_eq_true]
      exact ⟨p, by simp [valV], n, l⟩
    · have h1 : (k == x) = false := by simp [h]
      have h2 : ¬ ((.inr x : Key) = .inr k) := fun z => h (Sum.inr.inj z).symm
      have e : valV ((.inr x, V.ref p) :: kvs) (.inr k : Key) = valV kvs (.inr k) := by
        unfold valV
        rw [List.find?_cons]
        simp only [h2, decide_false]
      rw [List.lookup_cons, h1, e]
      exact ih
theorem NewL.keys {H1 H : Hp} : ∀ {kvs : List (Key × V)} {ds : List (Str × List Int)}, NewL H1 H kvs ds → kvs.map (·.1) = ds.map fun d => (.inr d.1 : Key)
  | _, _, .nil => rfl
  | _, _, .cons _ _ t => by rw [List.map_cons, List.map_cons, NewL.keys t]
def JDl (X : Cx) (pos : Pos) (ks : List (Option Expr)) (vs : List Expr) (m : MDl) : Prop := ∃ trs, PPs X pos ks vs trs ∧ ∀ H0 σ H ρ ds, Ok X H0 σ H ρ → m ρ = some ds → ∀ H1, Ex H H1 → ∀ Q : List (V × V) → Hp → Prop, (∀ H2 kvs, Ex H1 H2 → NewL H1 H2 kvs ds → Q (kvs.map fun d => (kV d.1, d.2)) H2) → tPairs trs σ H1 Q
section
variable {X : Cx} {pos p p2 p3 : Pos} {a b c : Expr} {f1 f2 : ME}
theorem l_nil : JDl X pos [] [] lNil := ⟨_, pps_nil, fun H0 σ H ρ ds ok h H1 e Q q => by cases h; exact q H1 [] (Ex.refl _) .nil⟩
theorem l_cons {x : Str} {j : Nat} {ks : List (Option Expr)} {vs : List Expr} {m : MDl} (ha : JE X a f1) (hr : JDl X pos ks vs m) : JDl X pos (some (.Constant (.str x) j p) :: ks) (a :: vs) (lCons x f1 m) := by
  obtain ⟨ta, pa, va⟩ := ha
  obtain ⟨trs, pr, vr⟩ := hr
  refine ⟨_, pps_cons pe_str pa pr, fun H0 σ H ρ ds ok h H1 e Q q => ?_⟩
  unfold lCons at h
  obtain ⟨i, hi, h⟩ := Option.bind_eq_some_iff.mp h
  obtain ⟨r, hr, h⟩ := Option.map_eq_some_iff.mp h
  subst h
  obtain ⟨xs, hi, hx⟩ := Option.bind_eq_some_iff.mp hi
  refine va _ _ _ _ _ ok (newR_some hi) H1 e _ fun v H2 e2 ⟨u, ws, hv, n, l, g⟩ => ?_
  subst hv
  rw [intsOf_eq hx] at g
  have ev := DenL.ints g
  subst ev
  exact vr _ _ _ _ _ ok hr H2 (e.trans e2) _ fun H3 kvs e3 sk => q H3 ((.inr x, .ref u) :: kvs) (e2.trans e3) (.cons n (e3 _ _ l) (sk.ex e2 (Ex.refl _)))
def mPickD (m : MDl) (f d : ME) : ME := fun ρ => (m ρ).bind fun ds => (asStr (f ρ)).bind fun k => (newI (d ρ)).bind fun dd => if okP ((ds.map (·.1)).Nodup ∧ ds.length ≤ 15) = true then some (.new (((ds.lookup k).getD dd).map .int)) else none
theorem x_pickD {ks : List (Option Expr)} {vs : List Expr} {m : MDl} (hu : X.A.units + 1 < cLine) (h : JDl X pos ks vs m) (hb : JE X b f1) (hc : JE X c f2) (hall : ks.all (·.isSome) = true := by rfl) (hl : ks.length = vs.length := by rfl) (h0 : ks ≠ [] := by (intro z; cases z)) (h15 : ks.length ≤ 15 := by decide)
    (hm : M2 X (.Dict ks vs pos) "get" p2 b c p3 := by exact ⟨rfl, rfl, rfl, rfl⟩) : JE X (.Call (.Attribute (.Dict ks vs pos) "get" p2) [b, c] [] p3) (mPickD m f1 f2) := by
  obtain ⟨trs, pr, vr⟩ := h
  obtain ⟨tb, pb, vb⟩ := hb
  obtain ⟨tc, pc, vc⟩ := hc
  refine ⟨_, pe_dget2 hu (pe_disp pr hall hl h0 h15) pb pc hm, fun H0 σ H ρ r ok h => ?_⟩
  unfold mPickD at h
  obtain ⟨ds, hd, h⟩ := Option.bind_eq_some_iff.mp h
  obtain ⟨k, hk, h⟩ := Option.bind_eq_some_iff.mp h
  obtain ⟨dd, hdd, h⟩ := Option.bind_eq_some_iff.mp h
  split at h
  · rename_i hz
    have hz := okP_of hz
    cases h
    intro H1 e1 Q q u nu
    have ex : Ex H1 (upd H1 u (.dK [])) := Ex.new nu
    refine vr _ _ _ _ _ ok hd _ (e1.trans ex) _ fun H2 kvs e2 nl => ?_
    have hks := nl.keys
    have hn : (kvs.map (·.1)).Nodup := by
      rw [hks]
      have : ∀ l : List (Str × List Int), (l.map (·.1)).Nodup → (l.map fun d => (.inr d.1 : Key)).Nodup := fun l hn => by
        induction l with
        | nil => exact List.nodup_nil
        | cons d l ih =>
          rw [List.map_cons, List.nodup_cons] at hn ⊢
          refine ⟨fun hm => hn.1 ?_, ih hn.2⟩
          obtain ⟨y, hy, e⟩ := List.mem_map.mp hm
          rw [← Sum.inr.inj e]
          exact List.mem_map_of_mem hy
      exact this ds hz.1
    have hlen : kvs.length = ds.length := by have := congrArg List.length hks; simpa using this
    refine ⟨e2 _ _ upd_same, kvs, rfl, by rw [hlen]; exact hz.2, ?_⟩
    rw [merge_nodup _ [] hn (fun _ _ z => by cases z), List.nil_append]
    have e3 : Ex H1 (upd H2 u (.dK kvs)) := (ex.trans e2).mut nu
    refine ⟨u, rfl, .inl ⟨kvs, .inl upd_same⟩, ?_⟩
    refine (vb _ _ _ _ _ ok (asStr_some hk)).str _ (e1.trans e3) _ fun H4 e4 => ?_
    obtain ⟨ys, hy, hyi⟩ := Option.bind_eq_some_iff.mp hdd
    refine vc _ _ _ _ _ ok (newR_some hy) H4 ((e1.trans e3).trans e4) _ fun v H5 e5 ⟨w, ws, hv, n, l, g⟩ => ?_
    subst hv
    rw [intsOf_eq hyi] at g
    have hd5 : H5 u = some (.dK kvs) := e5 _ _ (e4 _ _ upd_same)
    refine ⟨valV kvs (.inr k), .inl ⟨kvs, .inr k, .inl hd5, rfl, rfl⟩, ?_⟩
    have hv := nl.val k
    cases hlk : ds.lookup k with
    | none =>
      rw [hlk] at hv q
      rw [hv]
      exact q _ H5 ((e3.trans e4).trans e5) ⟨w, ws, rfl, ex_none (e3.trans e4) n, l, g⟩
    | some xs =>
      rw [hlk] at hv q
      obtain ⟨pp, h1, h2, h3⟩ := hv
      rw [h1]
      have ne : pp ≠ u := fun z => by
        rw [z, upd_same] at h2
        cases h2
      have h6 : (upd H2 u (.dK kvs)) pp = some (.lst (xs.map V.int)) := (upd_ne ne).trans h3
      exact q _ H5 ((e3.trans e4).trans e5) ⟨pp, _, rfl, by rw [upd_ne ne] at h2; exact h2, e5 _ _ (e4 _ _ h6), denl_ints _ _ _⟩
  · cases h
end
end
end Tl

namespace Tl
open PySem PySem.Spec PyProof.Rows L2 Evl
noncomputable section
/-! ### NAME.get(key), NAME a written dict: the value, or None -/
def keyS : Value → Option Str
  | .str x _ => some x
  | _ => none
def Dlo (K : PySem.W.Frag) (w : World) (mg : Str → Option Value) (x : Str) (ks : List Str) : Prop :=
  ∃ a es n, mg x = some (.ref a) ∧ K.lookup a = some ⟨.type "dict", none, .dict es n, #[]⟩ ∧ PySem.W.KeysLit w.params es.toList ∧ (a == sysModules) = false ∧ es.toList.map (fun e => keyS e.key) = ks.map some
theorem find_no {ks : List Str} {z : Str} (hz : z ∉ ks) : ∀ {l : List DictEntry}, (∀ e ∈ l, ∃ x ∈ ks, keyS e.key = some x) → l.find? (fun e => Value.isStrOf z e.key) = none
  | [], _ => rfl
  | e :: l, h => by
    obtain ⟨x, hx, hk⟩ := h e (by simp)
    have : Value.isStrOf z e.key = false := by
      unfold keyS at hk
      split at hk
      · rename_i y t hy
        cases hk
        rw [hy]
        show (x == z) = false
        cases q : (x == z) with
        | false => rfl
        | true => exact absurd (beq_iff_eq.mp q ▸ hx) hz
      · cases hk
    rw [List.find?_cons, this]
    exact find_no hz fun e he => h e (by simp [he])
theorem lookup_mem {tb : List (Str × D)} {k : Str} (h : tb.lookup k = none) : k ∉ tb.map (·.1) := by
  induction tb with
  | nil => simp
  | cons p tb ih =>
    rw [List.lookup_cons] at h
    cases q : (k == p.1) with
    | true => rw [q] at h; cases h
    | false =>
      rw [q] at h
      rw [List.map_cons, List.mem_cons, not_or]
      exact ⟨fun e => by rw [e] at q; simp at q, ih h⟩
def mDgt (tb : List (Str × D)) (f : ME) : ME := fun ρ => (asStr (f ρ)).map fun k => .dat ((tb.lookup k).getD .non)
section
variable {X : Cx} {b : Expr} {p p2 p3 : Pos} {f1 : ME}
theorem x_dgtN {x : Str} {tb : List (Str × D)} (h : Dcon X.K X.w X.mg x tb) (lo : Dlo X.K X.w X.mg x (tb.map (·.1))) (hb : JE X b f1) (hg : Gl X x := by rfl) (hdb : (x == ("__debug__" : Str)) = false := by decide)
    (m : M1 X (.Name x p) "get" p2 b p3 := by exact ⟨rfl, rfl, rfl, rfl⟩) : JE X (.Call (.Attribute (.Name x p) "get" p2) [b] [] p3) (mDgt tb f1) := by
  obtain ⟨a, es, n, hm, hl, hk, hlo, hks⟩ := lo
  obtain ⟨a', hm', ht⟩ := h
  rw [hm] at hm'
  cases hm'
  obtain ⟨tb', pb, vb⟩ := hb
  have pe : PE X (.Call (.Attribute (.Name x p) "get" p2) [b] [] p3) (fun σ H Q => tb' σ H fun y H2 => ∃ z v, y = .str z ∧ ((∃ u, findBy Value.isStrOf es z = some u ∧ RelV v u) ∨ (findBy Value.isStrOf es z = none ∧ v = .non)) ∧ Q v H2) := by
    refine ⟨fun pins s σ H Q I hh => ?_⟩
    refine wpAny_Call_method m.base m.few m.line PySem.F.plainAttrs_dict PySem.F.slot_dict_get PySem.F.type_dict_get (ld_glob I hg hm ?_ hdb)
    have hmm := PySem.W.mapOf_K (prog := X.prog) (w := X.w) I.kIn hl hk
    refine ⟨hmm.typeIs, fun b q => ?_, ?_⟩
    · cases q
      exact ⟨_, I.kIn _ _ hl, rfl⟩
    · rw [m.trees]
      refine Calls.callWith_builtin rfl (Calls.evalArgs_plain (Calls.spliced_cons (thn (pb.run pins s σ H _ I hh) fun iv s2 ⟨y, H2, I2, ry, z, v, ey, kd, q2⟩ => Calls.spliced_nil ?_)))
      subst ey
      obtain ⟨t, rfl⟩ := ry
      have hm2 := PySem.W.mapOf_K (prog := X.prog) (w := X.w) I2.kIn hl hk
      refine call_meetsIn PySem.F.slot_dict_get hm2.typeIs PySem.F.entry_dict_get (PySem.F.args_dict_get_2 _ _) (meets_dict_get (strKind X.prog X.w) a (strKind_is X.prog X.w z t) hlo) ⟨_, hm2, v, H2, I2.tok _, ?_, q2⟩
      rcases kd with ⟨u, hu, ru⟩ | ⟨hu, rfl⟩
      · rw [hu]; exact ru
      · rw [hu]; rfl
  refine ⟨_, pe, fun H0 σ H ρ r ok h => ?_⟩
  unfold mDgt at h
  obtain ⟨k, hkk, h⟩ := Option.map_eq_some_iff.mp h
  subst h
  intro H1 e1 Q q
  refine (vb _ _ _ _ _ ok (asStr_some hkk)).str H1 e1 _ fun H2 e2 => ?_
  cases hlk : tb.lookup k with
  | some d =>
    obtain ⟨v, kd, hv⟩ := ht k d hlk
    obtain ⟨es', n', u0, hl', hk', e, ru⟩ := kd
    rw [hl] at hl'
    cases hl'
    refine ⟨k, v, rfl, .inl ⟨u0, PySem.W.find_K hl e, ru⟩, q v H2 e2 ?_⟩
    rw [hlk]
    exact hv H2
  | none =>
    refine ⟨k, .non, rfl, .inr ⟨?_, rfl⟩, q .non H2 e2 ?_⟩
    · have : es.toList.find? (fun e => Value.isStrOf k e.key) = none := find_no (lookup_mem hlk) fun e he => by
        have h1 : keyS e.key ∈ es.toList.map (fun e => keyS e.key) := List.mem_map_of_mem he
        rw [hks] at h1
        obtain ⟨x, hx, hx2⟩ := List.mem_map.mp h1
        exact ⟨x, hx, hx2.symm⟩
      unfold findBy
      rw [← Array.find?_toList, this]
      rfl
    · rw [hlk]
      exact .non
end
end
end Tl

namespace Tl
open PySem PySem.Spec PyProof.Rows L2 Evl
noncomputable section
/-! ### try with several named handlers -/
abbrev SuT := Addr → Value → Option Addr → TS
/-- behind a suite the name is gone -/
def gone (D : Ends) (i : Nat) : Ends := { nx := fun σ' H' => D.nx (σ'.set i none) H', rt := D.rt, bk := fun σ' H' => D.bk (σ'.set i none) H', ct := fun σ' H' => D.ct (σ'.set i none) H' }
def wNm (K : PySem.W.Frag) (Wo : WX) (D : Ends) : List (Value × Nat × SuT) → WX
  | [] => Wo
  | q :: r => fun cl dd σ H => ∃ yes, PySem.W.exmOne K cl q.1 = some yes ∧ (yes = true → ∀ a, H a = none → q.2.2 a cl dd (gone D q.2.1) (σ.set q.2.1 (some (.ref a))) H) ∧ (yes = false → wNm K Wo D r cl dd σ H)
inductive HdsNm (X : Cx) : List ExceptHandler → List (Value × Nat × SuT) → Prop
  | nil : HdsNm X [] []
  | cons {x n : Str} {c : Value} {i : Nat} {ts : SuT} {s₀ : Stmt} {sts : List Stmt} {p1 p2 : Pos} {hds : List ExceptHandler} {l : List (Value × Nat × SuT)} (nm : Names X x c) (ix : X.N[i]? = some n) (lo : X.env.kindOf n = some .local)
      (su : ∀ (a : Addr) (oe : Obj) (cl : Value) (dd : Option Addr) (pn : List (Addr × Obj)), L2N.Zn cl dd oe → (∃ vs, oe.data = .fields vs) → PSs (X.suite a ((a, oe) :: pn)) (s₀ :: sts) (ts a cl dd)) (r : HdsNm X hds l) :
      HdsNm X (.ExceptHandler (some (.Name x p1)) (some n) (s₀ :: sts) p2 :: hds) ((c, i, ts) :: l)
section
variable {X : Cx} {body : List Stmt} {hd0 : ExceptHandler} {hds : List ExceptHandler} {l : List (Value × Nat × SuT)} {pos : Pos} {tb : WX → TS} {Wo : WX}
theorem ps_tryNm (st : X.stack = X.env :: X.outer) (fr : X.env.frame = some X.env.locals) (nd : X.N.Nodup) (tk : L2N.Takes X Wo)
    (bd : ∀ (W : WX) (pn : List (Addr × Obj)) (xe : Value → Shared → Prop), L2N.Takes (X.tr pn xe) W → PassesOwn (model X.prog X.w) X.A X.env xe → PSs (X.tr pn xe) body (tb W))
    (hs : HdsNm X (hd0 :: hds) l) : PS X (.Try body (hd0 :: hds) [] [] pos) (fun D σ H => tb (wNm X.K Wo D l) D σ H) := by
  constructor
  intro pins s σ H D I ht
  have k0 := I.ok
  have frs0 : X.A.frames = some (X.env :: X.outer) := by rw [k0.frames, st]
  refine wpAny_Try_except (wpAny_mono ((bd (wNm X.K Wo D l) (X.pn ++ pins) (fun e z => wpAny (model X.prog X.w) X.A (noteFrame e X.env) (fun _ z2 => wpAny (model X.prog X.w) X.A (setFlight e none)
    (fun _ z3 => wpAny (model X.prog X.w) X.A (handleBy e X.env (hd0 :: hds)) (SP X pins D) X.xe z3) X.xe z2) X.xe z) ?caught PassesOwn.looking).run [] s σ H D (I.toTry _) ht) ?calm fun _ _ z => z)
  case calm =>
    intro fl z hz
    match fl, hz with
    | .next, ⟨σ1, H1, J, q⟩ => exact wpAny_execs_nil ⟨σ1, H1, J.ofTry k0, q⟩
    | .brk, ⟨σ1, H1, J, q⟩ => exact ⟨σ1, H1, J.ofTry k0, q⟩
    | .cont, ⟨σ1, H1, J, q⟩ => exact ⟨σ1, H1, J.ofTry k0, q⟩
    | .ret u, ⟨v, σ1, H1, J, r, q⟩ => exact ⟨v, σ1, H1, J.ofTry k0, r, q⟩
  case caught =>
    rintro _ z ⟨ea, B, sI, pins1, σ1, H1, cl, dd, rfl, J0, nbr, upto, sky, hna, hos, hag, hw⟩
    have J : Inv X pins σ1 H1 sI := J0.ofTry k0
    have sky1 : Sky B (X.env :: X.outer) ea (L2N.Zn cl dd) X.env.locals z.heap := st ▸ sky
    show wpAny (model X.prog X.w) X.A (noteFrame (.ref ea) X.env) _ _ _
    refine L2N.Sky.land L2N.Zn.steady frs0 fr sky1 fun g fly upg => ?_
    have Jg : Inv X pins σ1 H1 { z with heap := g } := J.landed nbr fly.1 (upto.trans upg) hos hag
    obtain ⟨og, vg, hog, hzg, hdg⟩ := fly.there
    have notin : ea ∉ frs (X.env :: X.outer) := fun hm => by
      obtain ⟨_, o2, e2, n2⟩ := Heap.FunFrames.mem fly.2.2.1 hm
      rw [hog] at e2
      cases e2
      exact n2 _ hdg
    have neL : ea ≠ X.env.locals := fun e => notin (List.mem_filterMap.mpr ⟨X.env, List.mem_cons_self, by rw [fr, e]⟩)
    have neF : ea ∉ X.fs := fun hm => by
      obtain ⟨en, h1, h2⟩ := List.mem_filterMap.mp hm
      exact notin (List.mem_filterMap.mpr ⟨en, List.mem_cons_of_mem _ h1, h2⟩)
    have Sg := Jg.suite hog hdg hna neL neF
    -- one handler behind the other
    have walk : ∀ {hl : List ExceptHandler} {ql : List (Value × Nat × SuT)}, HdsNm X hl ql → wNm X.K Wo D ql cl dd σ1 H1 → wpAny (model X.prog X.w) X.A (handleBy (.ref ea) X.env hl) (SP X pins D) X.xe { z with heap := g } := by
      intro hl ql hk
      induction hk with
      | nil =>
        intro wo
        obtain ⟨_, _, _, o3, v3, T3, _, _, ho3, _, hd3, h13, _⟩ := id fly
        refine wpAny_handleBy_nil ?_
        unfold PySem.passOn
        refine wpAny_bind (wpAny_field ho3 hd3 h13 ?_)
        rw [if_neg (show ¬ ((Value.ref T3 == Value.none) = true) from by simp)]
        have out : wpAny (model X.prog X.w) X.A (setFlight (.ref ea) X.env.frame) (fun _ z4 => wpAny (model X.prog X.w) X.A (throw (.ref ea) : Sem Flow) (SP X pins D) X.xe z4) X.xe { z with heap := g } := by
          rw [fr]
          exact HandSPX.setFlight_upZ fly fun g4 held up4 => wpAny_throw (tk _ _ ⟨ea, B, sI, pins, σ1, H1, cl, dd, rfl, J, nbr, (upto.trans upg).trans up4, .inr (.inr (st ▸ held)), hna, hos, hag, wo⟩)
        first
          | exact wpAny_bind (wpAny_pure (wpAny_bind out))
          | exact wpAny_bind out
      | @cons x n c i ts s₀ sts p1 p2 hds2 l2 nm ix lo su r ih =>
        rintro ⟨yes, hm, hy, hn⟩
        refine wpAny_handleBy_cons (codeAny_handlers_test ?_) (by intro q; cases q)
        have look : PySem.W.Looks (model X.prog X.w) g (typeOf (.ref ea)) cl := fun A Q E s2 k q => wpAny_typeOf_ref (k _ _ hog) (by rw [hzg.1]; exact q)
        have lm := PySem.W.exm_one (M := model X.prog X.w) Jg.kIn look hm
        have nmd : ∀ {Q : Value → Shared → Prop} {E : Value → Shared → Prop}, Q c { z with heap := g } → wpAny (model X.prog X.w) (X.A.mark (some (.ref ea))) (eval (.Name x p1) X.env) Q E { z with heap := g } := fun {Q E} q => by
          obtain ⟨g1, g2, g3 | ⟨g3, g4, g5⟩⟩ := nm
          · exact ld_glob (X := X.suite ea ((ea, og) :: (X.pn ++ pins))) Sg g1 g3 q g2
          · exact ld_blt (X := X.suite ea ((ea, og) :: (X.pn ++ pins))) Sg g1 g3 g4 q g5 g2
        refine nmd (lm.here ?_)
        cases yes with
        | false => exact ih (hn rfl)
        | true =>
          refine codeAny_handlers_suite_as (HandSPX.lands_againZ fly fun g4 fly4 up4 => ?_)
          have J4 : Inv X pins σ1 H1 { z with heap := g4 } := J.landed nbr fly4.1 ((upto.trans upg).trans up4) hos hag
          obtain ⟨o4, v4, ho4, hz4, hd4⟩ := fly4.there
          have S4 := J4.suite ho4 hd4 hna neL neF
          refine store_ok (X := X.suite ea ((ea, o4) :: (X.pn ++ pins))) (v := .ref ea) S4 nd ix (.inl lo) rfl (fun z5 S5 => ?_) (.inr lo)
          refine wpAny_mono ((su ea o4 cl dd (X.pn ++ pins) hz4 ⟨_, hd4⟩).run [] z5 _ H1 _ S5 (hy rfl ea hna)) (fun fl z6 hz6 => ?_) fun _ _ f => f.elim
          have off : ∀ {σ6 : L2.St} {H6 : Hp} {Q : Shared → Prop}, Inv (X.suite ea ((ea, o4) :: (X.pn ++ pins))) [] σ6 H6 z6 → (∀ z7, Inv X pins (σ6.set i none) H6 z7 → Q z7) →
              wpAny (model X.prog X.w) X.A (do bindName X.env n .none; unbindBehindTheSuite X.env n p2) (fun _ z7 => Q z7) X.xe z6 := fun {_ _ _} S6 hq => gone_ok (S6.unsuite k0) nd ix lo hq
          match fl, hz6 with
          | .next, ⟨_, _, S6, q6⟩ => exact off S6 fun _ J7 => ⟨_, _, J7, q6⟩
          | .brk, ⟨_, _, S6, q6⟩ => exact off S6 fun _ J7 => ⟨_, _, J7, q6⟩
          | .cont, ⟨_, _, S6, q6⟩ => exact off S6 fun _ J7 => ⟨_, _, J7, q6⟩
          | .ret u, ⟨_, _, _, S6, r6, q6⟩ => exact off S6 fun _ J7 => ⟨_, _, _, J7, r6, q6⟩
    exact walk hs hw
end
/-! ### in the layer -/
abbrev HdM := List (Nat × (Str → Option Bool) × MS)
def hdN : HdM → Str → List (Str × D) → F → Rho → Option F
  | [], _, _, e, _ => some e
  | q :: r, c, fs, e, ρ => match q.2.1 c with
    | some true => endT q.1 (q.2.2 (ρ.set q.1 (.exc c fs)))
    | some false => hdN r c fs e ρ
    | none => none
def mTryN (hl : HdM) (mb : MS) : MS := fun ρ => match mb (ρ.map dropX) with
  | some (.exc0 c ρ') => hdN hl c [] (.exc0 c (ρ'.map dropX)) (ρ'.map dropX)
  | some (.exc c fs ρ') => hdN hl c fs (.exc c fs (ρ'.map dropX)) (ρ'.map dropX)
  | some (.nx ρ') => some (.nx (ρ'.map dropX))
  | some (.brk ρ') => some (.brk (ρ'.map dropX))
  | some (.cnt ρ') => some (.cnt (ρ'.map dropX))
  | some (.ret r) => some (.ret r)
  | _ => none
/-- what is known of the handlers -/
structure HdP (X : Cx) (W : WX) (hl : HdM) (l : List (Value × Nat × SuT)) : Prop where
  e0 : ∀ H0 D c C pn xe ρ' σ' H' fl, X.mg c = some (.ref C) → Ok (X.tr pn xe) H0 σ' H' ρ' → hdN hl c [] (.exc0 c (ρ'.map dropX)) (ρ'.map dropX) = some fl → Post X H0 D W fl → wNm X.K W D l (.ref C) none σ' H'
  e1 : ∀ H0 D c C d fs gs pn xe ρ' σ' H' fl, X.mg c = some (.ref C) → Ok (X.tr pn xe) H0 σ' H' ρ' → H0 d = none → H' d = some (.xd gs) → FldL X.K H' gs fs → hdN hl c fs (.exc c fs (ρ'.map dropX)) (ρ'.map dropX) = some fl → Post X H0 D W fl → wNm X.K W D l (.ref C) (some d) σ' H'
def JHd (X : Cx) (W : WX) (hds : List ExceptHandler) (hl : HdM) : Prop := ∃ l, HdsNm X hds l ∧ HdP X W hl l
section
variable {X : Cx} {W : WX} {pos pos' np : Pos} {body suite : List Stmt} {s₀ : Stmt} {mb ms : MS} {n x : Str} {Ch : Addr} {hds : List ExceptHandler} {hl : HdM}
theorem hd_nil : JHd X W [] [] := ⟨[], .nil, fun H0 D c C pn xe ρ' σ' H' fl hg ok h q => by cases h; exact q C σ' H' hg (Ok.drop (Y := X) ok rfl),
  fun H0 D c C d fs gs pn xe ρ' σ' H' fl hg ok nd hd hf h q => by cases h; exact q C d σ' H' gs hg (Ok.drop (Y := X) ok rfl) nd hd hf⟩
/-- the suite's promise -/
def suT (X : Cx) (ms : MS) : SuT := fun a cl dd D σ H => ∀ (oe : Obj) (pn : List (Addr × Obj)), L2N.Zn cl dd oe → (∃ vs, oe.data = .fields vs) → ∃ G ρ fl, Ok (X.suite a ((a, oe) :: pn)) G σ H ρ ∧ ms ρ = some fl ∧ Post (X.suite a ((a, oe) :: pn)) G D W0 fl
theorem su_end {X : Cx} {W : WX} {a : Addr} {oe : Obj} {pn : List (Addr × Obj)} {i : Nat} {H0 B B2 : Hp} {D : Ends} {fl fl2 : F} {ms : MS} {ρ1 : Rho} (e : Ex H0 B) (hms : ms ρ1 = some fl2) (h : endT i (ms ρ1) = some fl) (q : Post X H0 D W fl) (up : Post X H0 D W fl → Post X B2 D W fl) :
    Post (X.suite a ((a, oe) :: pn)) B2 (gone D i) W0 fl2 := by
  have q' := up q
  rw [hms] at h
  cases fl2 with
  | nx ρ2 => cases h; exact fun σ2 H2 ok2 => q' _ H2 (Ok.drop (Y := X) ok2 rfl).un
  | brk ρ2 => cases h; exact fun σ2 H2 ok2 => q' _ H2 (Ok.drop (Y := X) ok2 rfl).un
  | cnt ρ2 => cases h; exact fun σ2 H2 ok2 => q' _ H2 (Ok.drop (Y := X) ok2 rfl).un
  | ret r => cases h; exact q'
  | exc _ _ _ => cases h
  | exc0 _ _ => cases h
theorem hd_cons (i : Nat) (mt : Str → Option Bool) (nm : Names X x (.ref Ch)) (hmt : ∀ c b C, mt c = some b → X.mg c = some (.ref C) → PySem.W.exmOne X.K (.ref C) (.ref Ch) = some b)
    (hsu : ∀ (a : Addr) (oe : Obj) (cl : Value) (dd : Option Addr) (pn : List (Addr × Obj)), L2N.Zn cl dd oe → (∃ vs, oe.data = .fields vs) → JB (X.suite a ((a, oe) :: pn)) W0 (s₀ :: suite) ms) (hr : JHd X W hds hl)
    (ix : X.N[i]? = some n := by rfl) (lo : X.env.kindOf n = some .local := by rfl) : JHd X W (.ExceptHandler (some (.Name x np)) (some n) (s₀ :: suite) pos' :: hds) ((i, mt, ms) :: hl) := by
  obtain ⟨l, hk, P⟩ := hr
  refine ⟨(.ref Ch, i, suT X ms) :: l, .cons nm ix lo (fun a oe cl dd pn hz hd => ?_) hk, ?_, ?_⟩
  · obtain ⟨ts, p, v⟩ := hsu a oe cl dd pn hz hd
    constructor
    intro pins s σ H D I h
    obtain ⟨G, ρ, fl, ok, hm, q⟩ := h oe pn hz hd
    exact p.run pins s σ H D I (v G D σ H ρ fl ok hm q)
  · intro H0 D c C pn0 xe ρ' σ' H' fl hg ok h q
    have h : (match mt c with | some true => endT i (ms ((ρ'.map dropX).set i (.exc c []))) | some false => hdN hl c [] (.exc0 c (ρ'.map dropX)) (ρ'.map dropX) | none => none) = some fl := h
    cases hm : mt c with
    | none => rw [hm] at h; cases h
    | some yes =>
      rw [hm] at h
      refine ⟨yes, hmt c yes C hm hg, fun ey a na => ?_, fun en => ?_⟩
      · subst ey
        intro oe pn hz hdd
        have okS : Ok (X.suite a ((a, oe) :: pn)) H0 σ' H' (ρ'.map dropX) := Ok.drop (Y := X.suite a ((a, oe) :: pn)) ok rfl
        obtain ⟨B, okB⟩ := okS
        obtain ⟨B2, okP⟩ := okB.pin
        have okE := okP.setX (i := i) (a := a) (C := C) (oe := oe) (c := c) (fs := []) ⟨pn, rfl⟩ hz.1 hg hdd (.inr ⟨hz.2.1, rfl⟩)
        cases hms : ms ((ρ'.map dropX).set i (.exc c [])) with
        | none => rw [hms] at h; cases h
        | some fl2 => exact ⟨_, _, fl2, ⟨B2, okE⟩, hms, su_end (okB.e0.trans okB.hid) hms h q (Post.up (X := X) (W := W) (okB.e0.trans okB.hid))⟩
      · subst en
        exact P.e0 H0 D c C pn0 xe ρ' σ' H' fl hg ok h q
  · intro H0 D c C d fs gs pn0 xe ρ' σ' H' fl hg ok nd hd hf h q
    have h : (match mt c with | some true => endT i (ms ((ρ'.map dropX).set i (.exc c fs))) | some false => hdN hl c fs (.exc c fs (ρ'.map dropX)) (ρ'.map dropX) | none => none) = some fl := h
    cases hm : mt c with
    | none => rw [hm] at h; cases h
    | some yes =>
      rw [hm] at h
      refine ⟨yes, hmt c yes C hm hg, fun ey a na => ?_, fun en => ?_⟩
      · subst ey
        intro oe pn hz hdd
        have okS : Ok (X.suite a ((a, oe) :: pn)) H0 σ' H' (ρ'.map dropX) := Ok.drop (Y := X.suite a ((a, oe) :: pn)) ok rfl
        obtain ⟨B, okB⟩ := okS
        have nown : ¬ Owned σ' (ρ'.map dropX) d := fun z => by
          obtain ⟨_, vs, z2⟩ := okB.owned z
          rw [z2] at hd
          cases hd
        obtain ⟨B2, okP⟩ := okB.pin
        have hdB : B2 d = some (.xd gs) := okP.e0.ex _ _ (by rw [hidO_no nown]; exact hd)
        have okE := okP.setX (i := i) (a := a) (C := C) (oe := oe) (c := c) (fs := fs) ⟨pn, rfl⟩ hz.1 hg hdd (.inl ⟨d, gs, hz.2.1, hdB, hf⟩)
        cases hms : ms ((ρ'.map dropX).set i (.exc c fs)) with
        | none => rw [hms] at h; cases h
        | some fl2 => exact ⟨_, _, fl2, ⟨B2, okE⟩, hms, su_end (okB.e0.trans okB.hid) hms h q (Post.up (X := X) (W := W) (okB.e0.trans okB.hid))⟩
      · subst en
        exact P.e1 H0 D c C d fs gs pn0 xe ρ' σ' H' fl hg ok nd hd hf h q
theorem s_tryN {hd0 : ExceptHandler} {ends : HdM} (hN : X.N.Nodup) (tk : L2N.Takes X W)
    (hb : ∀ (W' : WX) (pn : List (Addr × Obj)) (xe : Value → Shared → Prop), L2N.Takes (X.tr pn xe) W' → PassesOwn (model X.prog X.w) X.A X.env xe → JB (X.tr pn xe) W' body mb)
    (hh : JHd X W (hd0 :: hds) ends) (st : X.stack = X.env :: X.outer := by rfl) (fr : X.env.frame = some X.env.locals := by rfl) : JS X W (.Try body (hd0 :: hds) [] [] pos) (mTryN ends mb) := by
  obtain ⟨l, hk, P⟩ := hh
  refine ⟨_, ps_tryNm (tb := fun W' D σ H => ∃ G ρ fl, (∀ pn xe, Ok (X.tr pn xe) G σ H ρ) ∧ mb ρ = some fl ∧ ∀ pn xe, Post (X.tr pn xe) G D W' fl) st fr hN tk (fun W' pn xe t po => ?_) hk, fun H0 D σ H ρ fl ok h q => ?_⟩
  · obtain ⟨ts, p, v⟩ := hb W' pn xe t po
    constructor
    intro pins s σ H D I h
    obtain ⟨G, ρ, fl, ok, hm, q⟩ := h
    exact p.run pins s σ H D I (v G D σ H ρ fl (ok pn xe) hm (q pn xe))
  · unfold mTryN at h
    cases hbd : mb (ρ.map dropX) with
    | none => rw [hbd] at h; cases h
    | some fl1 =>
      rw [hbd] at h
      refine ⟨H0, ρ.map dropX, fl1, fun pn xe => ok.drop rfl, hbd, fun pn xe => ?_⟩
      cases fl1 with
      | nx ρ' => cases h; exact fun σ' H' ok' => q σ' H' (Ok.drop (Y := X) ok' rfl)
      | brk ρ' => cases h; exact fun σ' H' ok' => q σ' H' (Ok.drop (Y := X) ok' rfl)
      | cnt ρ' => cases h; exact fun σ' H' ok' => q σ' H' (Ok.drop (Y := X) ok' rfl)
      | ret r => cases h; exact q
      | exc0 c ρ' => exact fun C σ' H' hgc ok' => P.e0 H0 D c C pn xe ρ' σ' H' fl hgc ok' h q
      | exc c fs ρ' => exact fun C d σ' H' gs hgc ok' nd hd hfl => P.e1 H0 D c C d fs gs pn xe ρ' σ' H' fl hgc ok' nd hd hfl h q
end
end
end Tl

namespace Tl
open PySem PySem.Spec PyProof.Rows L2 Evl
noncomputable section
/-! ### a text many times -/
def mRepS2 (f g : ME) : ME := fun ρ => (asStr (f ρ)).bind fun z => (asInt (g ρ)).bind fun i => if okP (0 ≤ i ∧ i ≤ 1000 ∧ z.length ≤ 1000) = true then some (.dat (.str (Txt.mul z i))) else none
section
variable {X : Cx} {a b : Expr} {pos : Pos} {f1 f2 : ME}
theorem op_repS2 : OpR X (binaryOp .Mult) (fun x y H Q => ∃ (z : Str) (i : Int), x = .str z ∧ y = .int i ∧ (0 ≤ i ∧ i ≤ 1000 ∧ z.length ≤ 1000) ∧ Q (.str (Txt.mul z i)) H) := by
  intro pins s σ H x y v u Q I rx ry h
  obtain ⟨z, i, rfl, rfl, ⟨h0, h1, h2⟩, h⟩ := h
  obtain ⟨t, rfl⟩ := rx
  obtain ⟨t', rfl⟩ := ry
  exact PySem.SB.mul (mulOk_of 1000 1000 (by omega) (by omega) (by omega) (by decide) (by decide)) fun t' k => ⟨.str (Txt.mul z i), H, I.tok _, ⟨t', rfl⟩, h⟩
theorem x_repS2 (ha : JE X a f1) (hb : JE X b f2) : JE X (.BinOp a .Mult b pos) (mRepS2 f1 f2) := by
  obtain ⟨ta, pa, va⟩ := ha
  obtain ⟨tb, pb, vb⟩ := hb
  refine ⟨_, pe_op op_repS2 pa pb, fun H0 σ H ρ r ok h => ?_⟩
  unfold mRepS2 at h
  obtain ⟨z, hz, h⟩ := Option.bind_eq_some_iff.mp h
  obtain ⟨i, hi, h⟩ := Option.bind_eq_some_iff.mp h
  split at h
  · rename_i hk
    cases h
    intro H1 e1 Q q
    refine (va _ _ _ _ _ ok (asStr_some hz)).str H1 e1 _ fun H2 e2 => ?_
    refine (vb _ _ _ _ _ ok (asInt_some hi)).int H2 (e1.trans e2) _ fun H3 e3 => ?_
    exact ⟨z, i, rfl, rfl, okP_of hk, q _ H3 (e2.trans e3) (.str _)⟩
  · cases h
end
end
end Tl

namespace Tl
open PySem PySem.Spec PyProof.Rows L2 Evl
noncomputable section
/-! ### a comprehension whose element may refuse -/
theorem note_same {e1 e2 : Env} (h : e1.frame = e2.frame) (v : Value) : noteFrame v e1 = noteFrame v e2 := by
  unfold noteFrame PySem.frameOf
  rw [h]
theorem frames_move {h1 h2 B1 B2 : Heap} : ∀ {l : List Env}, h1.FunFrames B1 l → (∀ b o, b ∈ frs l → h1.get? b = some o → h2.get? b = some o) → (∀ b, B1.get? b = none → B2.get? b = none) → h2.FunFrames B2 l
  | [], _, _, _ => trivial
  | en :: l, ⟨k, ⟨L, o, e1, e2, e3, e4⟩, r⟩, hk, hb => ⟨k, ⟨L, o, e1, hb L e2, hk L o (List.mem_filterMap.mpr ⟨en, List.mem_cons_self, e1⟩) e3, e4⟩, frames_move r (fun b o hm => hk b o (by
      obtain ⟨x, h1, h2⟩ := List.mem_filterMap.mp hm
      exact List.mem_filterMap.mpr ⟨x, List.mem_cons_of_mem _ h1, h2⟩)) hb⟩
section
variable {X : Cx} {pins : List (Addr × Obj)} {σ : L2.St} {H : Hp} {s z : Shared} {W : WX} {C : Addr}
theorem lcx_pass (st : X.stack = X.env :: X.outer) (fr : X.env.frame = some X.env.locals) (tk : L2N.Takes X W) (J : Inv X pins σ H s) {oC : Obj} {mC : Str → Option Value} (hC : s.heap.get? C = some oC) (nC : s.heap.Ns C mC) (fC : FpOk X pins H C) {ce : Env} (hce : ce.frame = X.env.frame) {E1 : Value → Shared → Prop}
    {u : Value} (c : L2N.CX X.prog X.w X.stack H s (fun cl dd H' => W cl dd σ H') u z) :
    wpAny (model X.prog X.w) X.A (noteFrame u ce) (fun _ z1 => ∃ m, z1.heap.Ns C m ∧ ∀ h', Heap.SameBut C z1.heap h' → ∀ cn : Env, cn.frame = X.env.frame → wpAny (model X.prog X.w) X.A (passOn "comprehension.variables-let-go" u cn : Sem Value) (fun _ _ => False) X.xe { z1 with heap := h' }) E1 z := by
  obtain ⟨a, B, H', cl, dd, rfl, fly, hok, ub, hna, hos, hag, hE⟩ := c
  have frs0 : X.A.frames = some (X.env :: X.outer) := by rw [J.ok.frames, st]
  have cF : C ∉ frs X.stack := fun hm => by
    rcases List.mem_cons.mp (J.stkSub C hm) with e | e
    · exact fC.2.1 e
    · exact fC.2.2.1 e
  have BC : B.get? C = some oC := ub.keep C oC hC fC.1 cF
  rw [note_same hce]
  refine PXN.looks_onZ L2N.Zn.steady frs0 fr (by rw [← st]; exact fly) fun h1 held up1 => ?_
  rw [← st] at held
  have C1 : h1.get? C = some oC := held.1 C oC BC
  have ns1 : h1.Ns C mC := by
    obtain ⟨o, es, ep, ho, r⟩ := nC
    rw [hC] at ho
    cases ho
    exact ⟨oC, es, ep, C1, r⟩
  refine ⟨mC, ns1, fun h' sb cn hcn => ?_⟩
  have keep1 : ∀ b o, b ≠ C → h1.get? b = some o → h'.get? b = some o := fun b o hb e => (sb.2 b hb).trans e
  obtain ⟨s1, s2, s3, oe, vs, T, oT, ts, he, hz, hd, hv, hnT, hTe, hT, hdT, h3⟩ := held
  have aC : a ≠ C := fun e => by rw [e, BC] at s2; cases s2
  have TC : T ≠ C := fun e => by rw [e, BC] at hnT; cases hnT
  -- the ground, as it is now
  obtain ⟨B', b1, b2⟩ := restrict h' fun b => (B.get? b).isSome
  have inB : ∀ b o, B.get? b = some o → b ≠ C → B'.get? b = some o := fun b o e hb => by
    rw [b1 b (by simp [e])]
    exact keep1 b o hb (s1 b o e)
  have noB : ∀ b, B.get? b = none → B'.get? b = none := fun b e => b2 b (by simp [e])
  have stB : B'.StaysIn h' := fun b o e => by
    cases q : (B.get? b).isSome with
    | false => rw [b2 b q] at e; cases e
    | true => rw [b1 b q] at e; exact e
  have frC : ∀ b o, b ∈ frs X.stack → h1.get? b = some o → h'.get? b = some o := fun b o hb e => keep1 b o (fun q => cF (q ▸ hb)) e
  have ff : h'.FunFrames B' X.stack := frames_move s3 frC noB
  have tr : HandSPX.TracedZ h' B' a (L2N.Zn cl dd) (rawInt X.env.locals) := ⟨oe, vs, T, oT, ts, keep1 a _ aC he, hz, hd, hv, noB T hnT, hTe, keep1 T _ TC hT, hdT, h3⟩
  unfold PySem.passOn
  refine wpAny_bind (wpAny_field (keep1 a _ aC he) hd hv ?_)
  rw [if_neg (show ¬ ((Value.ref T == Value.none) = true) from by simp)]
  have out : wpAny (model X.prog X.w) X.A (setFlight (.ref a) cn.frame) (fun _ z4 => wpAny (model X.prog X.w) X.A (throw (.ref a) : Sem Value) (fun _ _ => False) X.xe z4) X.xe { z with heap := h' } := by
    rw [hcn, fr]
    refine HandSPX.setFlight_anyZ stB ff tr fun h4 k1 k2 k3 k4 => wpAny_throw (tk _ _ ?_)
    obtain ⟨Gr, in1, out1⟩ := restrict h' fun b => (B.get? b).isSome || decide (b ∈ frs X.stack)
    have gB : ∀ b o, b ≠ C → B.get? b = some o → Gr.get? b = some o := fun b o hb e => by
      rw [in1 b (by simp [e])]
      exact keep1 b o hb (s1 b o e)
    have gF : ∀ b, b ∈ frs X.stack → Gr.get? b = h'.get? b := fun b hb => in1 b (by simp [hb])
    have ofG : ∀ b o, Gr.get? b = some o → h'.get? b = some o ∧ ((B.get? b).isSome = true ∨ b ∈ frs X.stack) := fun b o e => by
      cases yes : ((B.get? b).isSome || decide (b ∈ frs X.stack)) with
      | false => rw [out1 b yes] at e; exact nomatch e
      | true => exact ⟨(in1 b yes).symm.trans e, by simpa [Bool.or_eq_true] using yes⟩
    have slots : ∀ b o, s.heap.get? b = some o → b ∈ frs X.stack → ∃ sl, Gr.get? b = some { o with slots := sl } := fun b o e hb => by
      obtain ⟨sl, e2⟩ := ub.slot b o e hb
      obtain ⟨_, o2, e3, nf⟩ := Heap.FunFrames.mem fly.2.2.1 hb
      rw [e2] at e3
      cases e3
      obtain ⟨sl2, e4⟩ := up1 b _ e2 nf
      exact ⟨sl2, by rw [gF b hb]; exact frC b _ hb e4⟩
    refine ⟨a, B', { s with heap := Gr, gens := z.gens, drawn := z.drawn, toks := z.toks }, pins, σ, H', cl, dd, rfl, ?_, fun b o e hb => ?_, (Heap.UpToSlots.of_keeps fun b o e => (ofG b o e).1).trans k4, .inr (.inr ⟨k1, noB a s2, k2, k3⟩), hna, hos, hag, hE⟩
    · refine J.call (ch := [C]) ⟨fun b o e n hb hc => gB b o (by simpa using hc) (ub.keep b o e n hb), fun b o e n hb hc => slots b o e hb, fun b o e n _ => ub.free b o e n, fun b o e hc => ?_, ub.tups, ub.frzs, ub.tbls⟩ (fun b v e => ?_) hag fun b hb => ?_
      · by_cases hb : b ∈ frs X.stack
        · obtain ⟨sl, q⟩ := slots b o e hb
          exact ⟨_, q⟩
        · obtain ⟨o', q⟩ := ub.there b o e hb
          exact ⟨o', gB b o' (by simpa using hc) q⟩
      · have nn : ∀ b v, H' b = some v → b ≠ C := fun b v e q => by
          rw [q, ub.free C oC hC fC.1] at e
          cases e
        refine (hok b v e).stay (fun x y hx q => gB x y ?_ q) (fun _ q => q) fun _ _ q => q
        rcases hx with q | q
        · rw [q]; exact nn b v e
        · exact nn x _ q
      · have : b = C := by simpa using hb
        subst this
        exact ⟨fC.2.2.2.1, fC.2.1, fC.2.2.2.2.1, fC.2.2.2.2.2⟩
    · obtain ⟨e', h⟩ := ofG b o e
      rcases h with h | h
      · rw [b1 b h]; exact e'
      · exact absurd h hb
  first
    | exact wpAny_bind (wpAny_pure (wpAny_bind out))
    | exact wpAny_bind out
end
/-! the comprehension, its own frame known -/
def cpX (M : Model) (A : Around) (E : Value → Shared → Prop) (Q : Value → Shared → Prop) (acc : Value) (cn : Env) : Result → Shared → Prop
  | .ok _, z => ∃ m, z.heap.Ns cn.locals m ∧ ∀ h', Heap.SameBut cn.locals z.heap h' → Q acc { z with heap := h' }
  | .error x, z => ∃ m, z.heap.Ns cn.locals m ∧ ∀ h', Heap.SameBut cn.locals z.heap h' → wpAny M A (passOn "comprehension.variables-let-go" x cn : Sem Value) (fun _ _ => False) E { z with heap := h' }
theorem compX {M : Model} {A : Around} {E : Value → Shared → Prop} {s : Shared} {env : Env} {e : Expr} {scope : Scope} {pos : Pos} {newAcc first : Sem Value} {g : Comprehension} {gs : List Comprehension} {cl : List (Str × Addr)} {Q : Value → Shared → Prop}
    (cls : clausesOf e = g :: gs) (fold : ∀ x, foldedSetIterable g.iter env x = pure x) (clo : closureFor scope env = pure cl) (kd : scope.kind = .function) (lo : ∀ x ∈ scope.names, x.2 = .local → scope.names.lookup x.1 = some .local)
    (h : wpAny M A first (fun x z1 => wpAny M A (pyIter x) (fun it z2 => wpAny M A newAcc (fun acc z3 => wpAny M A (newFunctionEnv scope env.globals cl [] env.qual none .none (some env))
      (fun cn z4 => codeAny M A (.compStart e 0 it acc { cn with scope := relabel scope env }) (cpX M A E Q acc { cn with scope := relabel scope env }) z4) E z3) E z2) E z1) E s) :
    wpAny M A (comprehension e scope env pos newAcc false first none) Q E s := by
  unfold comprehension
  rw [clo, cls]
  have id' : ∀ (v : Value) (z : Shared), E v z → E v z := fun _ _ y => y
  refine wpAny_bind (wpAny_mono h (fun x z1 k1 => ?_) id')
  refine wpAny_bind (wpAny_standAt (wpAny_bind (wpAny_of_eq (fold x) (wpAny_bind (wpAny_holding (wpAny_mono k1 (fun it z2 k2 => ?_) id'))))))
  refine wpAny_standIf (wpAny_bind (wpAny_mono k2 (fun acc z3 k3 => ?_) id'))
  refine wpAny_bind (wpAny_pure (wpAny_bind (wpAny_mono k3 (fun cn z4 k4 => ?_) id')))
  dsimp only
  have vs : ∀ x ∈ (scope.names.filter fun y => (y.2 == .local || y.2 == .cell) && y.1 != (".0" : Str)).reverse, x.2 = .local → Env.kindOf { cn with scope := relabel scope env } x.1 = some .local :=
    fun x hx hl => lookup_relabel_local (lo x (List.mem_filter.mp (List.mem_reverse.mp hx)).1 hl)
  refine wpAny_holding (wpAny_bind (wpAny_attempt (wpAny_holding (wpAny_run (codeAny_mono k4 fun r z5 hr => ?_)))))
  match r, hr with
  | .ok f, ⟨m, ns, q⟩ => exact wpAny_bind (wpAny_holding (wpAny_comp_letGo (cenv := { cn with scope := relabel scope env }) kd _ z5 m vs ns fun h' _ _ sb => wpAny_pure (q h' sb)))
  | .error x, ⟨m, ns, q⟩ => exact wpAny_bind (wpAny_holding (wpAny_comp_letGo (cenv := { cn with scope := relabel scope env }) kd _ z5 m vs ns fun h' _ _ sb => wpAny_mono (q h' sb) (fun _ _ f => f.elim) id'))
/-! a list comprehension over it -/
section
variable {X : Cx} {W : WX}
def tLcX (wi : TI) (g : TG) (te : L2.St → TE) (vs : List Nat) : TE := fun σ H Q => tLc wi g tYes (te σ) vs σ H Q
abbrev bk (X : Cx) (s : Shared) (H : Hp) (scope : Scope) (cl : List (Str × Addr)) (C : Addr) (fp : List Addr) : Cx := X.blk s H scope (compEnvC scope cl C X.env) fp
theorem pe_lcX {elt tg iter : Expr} {scope : Scope} {own : List (Str × Nat)} {pos : Pos} {wi : TI} {g : TG} {te : L2.St → TE} (hc : X.calm = true) (nd : X.N.Nodup) (stk : X.stack = X.env :: X.outer) (fr : X.env.frame = some X.env.locals) (tk : L2N.Takes X W)
    (hi : PI X tg iter wi) (ok : BlkOk X.N X.env.scope scope own) (hg : ∀ (s : Shared) (H : Hp) (C : Addr) (cl : List (Str × Addr)) (fp : List Addr), PG (bk X s H scope cl C fp) tg g)
    (he : ∀ (s : Shared) (H : Hp) (C : Addr) (cl : List (Str × Addr)) (fp : List Addr) (xe : Value → Shared → Prop) (σd : L2.St), (∀ σb, PassesAt (L2N.CX X.prog X.w) ((bk X s H scope cl C fp).wish xe) σb (fun c d H' => W c d σd H')) → PE ((bk X s H scope cl C fp).wish xe) elt (te σd))
    (fold : ∀ x, foldedSetIterable iter X.env x = pure x := by intro _; rfl) : PE X (.ListComp elt [⟨tg, iter, [], 0⟩] scope pos) (tLcX wi g te (own.map (·.2))) := by
  constructor
  intro pins s σ H Q I ht
  rw [eval_ListComp]
  have fre : ∀ y ∈ scope.names, y.2 = .free → ∃ c, X.env.cells.lookup y.1 = some c := fun y hy e => by
    rcases ok.free y hy e with k | k
    · exact I.ok.has _ (.inl k)
    · exact I.ok.has _ (.inr k)
  refine compX rfl fold (closure_ok fre) ok.kind (fun y hy e => by rw [ok.uniq y hy, e]) (thn (hi.run pins s σ H _ I ht) fun _ z1 k1 => thn k1 fun _ z2 k2 => ?_)
  obtain ⟨it, fp, tn, J, H2, rfl, I2, T, t2, f2, q2⟩ := k2
  refine wpAny_newObj_type (newEnv_comp ?_) (by show 0 ≤ sizeLine; decide)
  generalize eD : z2.heap.objs.size = D
  have nD : H2 D = none := I2.hok.fresh (Nat.le_of_eq eD)
  obtain ⟨V, ⟨m0, v0⟩, turn⟩ := q2 D nD
  generalize e3 : ({ z2 with heap := z2.heap.push { cls := .type "list", data := .seq ([] : List Value).toArray } } : Shared) = z3
  have h3 : z3.heap = z2.heap.push { cls := .type "list", data := .seq ([] : List Value).toArray } := by rw [← e3]
  have I3 : Inv X pins σ (upd H2 D (.lst [])) z3 := by
    rw [← e3]
    refine I2.laid (t' := z2.toks) (fun _ _ e => Heap.get?_push_of_some _ e) (Nat.le_of_eq eD) ⟨Nat.zero_le _, [], 0, .nil, ?_⟩
    rw [← eD]
    exact Heap.get?_push_size _ rfl
  have f3 : ∀ b ∈ fp, FpOk X pins (upd H2 D (.lst [])) b ∧ b < z3.heap.objs.size := fun b hb => by
    obtain ⟨o, eo, _⟩ := T.obj _ _ t2 b hb
    have lt := Heap.lt_size eo
    refine ⟨⟨?_, (f2 b hb).2⟩, by rw [h3, Heap.size_push]; exact Nat.lt_succ_of_lt lt⟩
    rw [upd_ne (by rw [← eD]; exact Nat.ne_of_lt lt)]
    exact (f2 b hb).1
  have t3 : tn 0 z3.heap := T.keep _ _ _ t2 fun b _ o e => by rw [h3]; exact Heap.get?_push_of_some _ e
  have I4 := block_start I3 ok nd f3
  have pg := hg z3 (upd H2 D (.lst [])) z3.heap.objs.size (cellsFrom (z3.heap.objs.size + 1) scope.names (cloFrom X.env.cells scope.names [])) fp
  have pe := he z3 (upd H2 D (.lst [])) z3.heap.objs.size (cellsFrom (z3.heap.objs.size + 1) scope.names (cloFrom X.env.cells scope.names [])) fp
  show codeAny _ _ (.compStart (.ListComp elt [⟨tg, iter, [], 0⟩] scope pos) 0 (.ref it) (.ref D) (compEnvC scope (cellsFrom (z3.heap.objs.size + 1) scope.names (cloFrom X.env.cells scope.names [])) z3.heap.objs.size X.env)) (cpX (model X.prog X.w) X.A X.xe _ (.ref D) (compEnvC scope (cellsFrom (z3.heap.objs.size + 1) scope.names (cloFrom X.env.cells scope.names [])) z3.heap.objs.size X.env)) { z3 with heap := pushCells (z3.heap.push { cls := .type "dict", data := .dict #[] }) scope.names }
  have nfp : ∀ b ∈ fp, (upd H2 D (.lst [])) b = none := fun b hb => (f3 b hb).1.1
  generalize cellsFrom (z3.heap.objs.size + 1) scope.names (cloFrom X.env.cells scope.names []) = cl at I4 pg pe ⊢
  generalize upd H2 D (.lst []) = H3 at I3 I4 pg pe v0 nfp f3
  generalize e4 : ({ z3 with heap := pushCells (z3.heap.push { cls := .type "dict", data := .dict #[] }) scope.names } : Shared) = z4 at I4 ⊢
  generalize eC : z3.heap.objs.size = C at I4 pg pe ⊢
  have t4 : tn 0 z4.heap := T.keep _ _ _ t3 fun b _ o e => by rw [← e4]; exact pushCells_keeps _ _ _ _ (Heap.get?_push_of_some _ e)
  -- back in the def
  have back : ∀ {Z : List (Addr × Obj)} {σb : L2.St} {Hb : Hp} {zb : Shared}, Inv (bk X z3 H3 scope cl C fp) Z σb Hb zb → Inv X pins σ Hb zb := fun {_ _ _ _} Ib => I3.call' (ch := fp) Ib.os Ib.base Ib.hok Ib.bare fun b hb => ⟨(f3 b hb).1.2.2.2.1, (f3 b hb).1.2.1, (f3 b hb).1.2.2.2.2.1, (f3 b hb).1.2.2.2.2.2⟩
  have freeC : ∀ {Z : List (Addr × Obj)} {σb : L2.St} {Hb : Hp} {zb : Shared}, Inv (bk X z3 H3 scope cl C fp) Z σb Hb zb → FpOk X pins Hb C := fun {_ _ _ _} Ib => I3.fpOk (Nat.le_of_eq eC) Ib.free
  have fpS : ∀ {σb : L2.St} {Hb : Hp} {zb : Shared}, Inv (bk X z3 H3 scope cl C fp) [] σb Hb zb → (∀ b ∈ fp, Hb b = none) → ∀ b ∈ fp, FpOk (bk X z3 H3 scope cl C fp) [] Hb b := fun {_ _ _} Ib hn b hb =>
    ⟨hn b hb, (Ib.ok.exf b hb).1, Ib.ok.exfs b hb, .inl hb, fun x c e => (Ib.ok.exf b hb).2 x c e, fun p hp => absurd (show p ∈ ([] : List (Addr × Obj)) ++ [] from hp) (by simp)⟩
  let RR : Result → Shared → Prop := cpX (model X.prog X.w) X.A X.xe (fun v z => ∃ x H', Inv X pins σ H' z ∧ RelV x v ∧ Q x H') (.ref D) (compEnvC scope cl C X.env)
  let xb : Value → Shared → Prop := notedBy (model X.prog X.w) X.A (compEnvC scope cl C X.env) fun e z => RR (.error e) z
  have pass : ∀ σb, PassesAt (L2N.CX X.prog X.w) ((bk X z3 H3 scope cl C fp).wish xb) σb (fun c d H' => W c d σ H') := fun σb Z Hb zb e z Ib cx => by
    have Iu : Inv (bk X z3 H3 scope cl C fp) Z σb Hb zb := Ib.unwish
    obtain ⟨mC, nC, _⟩ := id Iu.loc
    obtain ⟨oC, _, _, hC, _⟩ := id nC
    exact wpAny_mono (lcx_pass stk fr tk (back Iu) hC nC (freeC Iu) (ce := compEnvC scope cl C X.env) rfl cx) (fun _ z1 ⟨m, ns, q⟩ => ⟨m, ns, fun h' sb => q h' sb _ rfl⟩) fun _ _ y => y
  have pe := pe xb σ pass
  have loop : codeAny (model X.prog X.w) X.A (.compLoop (.ListComp elt [⟨tg, iter, [], 0⟩] scope pos) 0 (.ref it) (.ref D) (compEnvC scope cl C X.env)) RR z4 := by
    refine compLoop_any (fun n zz => ∃ i Hb, Inv (bk X z3 H3 scope cl C fp) [] (wipe σ (own.map (·.2))) Hb zz ∧ tn i zz.heap ∧ (∀ b ∈ fp, Hb b = none) ∧ V i n Hb) ?_ m0 ⟨0, H3, I4, t4, nfp, v0⟩
    rintro n z5 ⟨i, H5, I5, t5, n5, v5⟩
    rcases turn i n H5 v5 with ⟨stop, qq⟩ | ⟨go, Nx, hNx, step⟩
    · refine thnF (T.done (bk X z3 H3 scope cl C fp) rfl rfl rfl hc i [] z5 _ H5 (fun _ _ => False) I5 (fpS I5 n5) t5 stop) fun r z6 ⟨hr, I6⟩ => ?_
      subst hr
      obtain ⟨m6, ns6, _⟩ := id I6.loc
      have f6 := freeC I6
      exact ⟨m6, ns6, fun h' sb => ⟨.ref D, H5, (back I6).turned (t' := z6.toks) (fun b o hb e => (sb.2 b hb).trans e) f6.1 f6.2.1 f6.2.2.2.1 f6.2.2.2.2.1 f6.2.2.2.2.2, rfl, qq⟩⟩
    · refine thnF (T.item (bk X z3 H3 scope cl C fp) rfl rfl rfl hc i [] z5 _ H5 (fun _ _ => False) I5 (fpS I5 n5) t5 go) fun r z6 ⟨u, hr, k6⟩ => ?_
      subst hr
      refine thnF k6 fun _ z7 ⟨x, H7, I7, r7, y7, t7, n7⟩ => ?_
      have I7p := I7.pinned (fpS I7 n7) (T.obj _ _ t7)
      refine thnF (pg.run _ z7 _ H7 x u _ I7p r7 (step x H7 y7)) fun _ z8 ⟨σ8, H8, I8, hw8, q8⟩ => ?_
      refine thnF ((pts_nil (X := bk X z3 H3 scope cl C fp)).run _ z8 σ8 H8 _ I8 q8) fun b z9 ⟨H9, I9, q9⟩ => ?_
      have fin : ∀ {zz : Shared} {Hb : Hp}, Inv (bk X z3 H3 scope cl C fp) ([] ++ pinsAt fp z7.heap) σ8 Hb zz → Nx Hb → ∃ m, m < n ∧ ∃ i Hb, Inv (bk X z3 H3 scope cl C fp) [] (wipe σ (own.map (·.2))) Hb zz ∧ tn i zz.heap ∧ (∀ b ∈ fp, Hb b = none) ∧ V i m Hb := fun {zz Hb} Ib nx => by
        obtain ⟨m', hm, v'⟩ := hNx Hb nx
        have pin : ∀ b ∈ fp, ∀ o, z7.heap.get? b = some o → zz.heap.get? b = some o ∧ Hb b = none := fun b hb o e =>
          have w := Ib.pin (b, o) (List.mem_append_right _ (List.mem_append_right _ (mem_pinsAt hb e)))
          ⟨w.1, w.2.1⟩
        refine ⟨m', hm, i + 1, Hb, (Ib.unpinned (pins := [])).weak (by rw [← hw8, wipe_length]) (fun j v e => (wipe_some (hw8 ▸ e)).1), T.keep _ _ _ t7 fun b hb o e => (pin b hb o e).1, fun b hb => ?_, v'⟩
        obtain ⟨o, e, _⟩ := T.obj _ _ t7 b hb
        exact (pin b hb o e).2
      cases b with
      | false => exact fin I9 (by simpa using q9)
      | true =>
        simp only [if_true] at q9 ⊢
        refine wpAny_mono (pe.run _ z9 σ8 H9 _ (I9.wish xb) q9) (fun y z10 ⟨yv, H10, I10, r10, acc, hD10, hz10, nx⟩ => ?_) fun _ _ k => k
        exact app_ok (X := bk X z3 H3 scope cl C fp) I10.unwish hD10 hz10 r10 fun z11 I11 => fin I11 nx
  exact codeAny_compStart_list loop (T.self X.A 0 _ _ _ t4 loop)
end
end
end Tl

namespace Tl
open PySem PySem.Spec PyProof.Rows L2 Evl
noncomputable section
/-! ### the comprehension of calls that may refuse, as a mirror -/
def consO (y : D) : Option Out → Option Out
  | some (.ok (.new ys)) => some (.ok (.new (y :: ys)))
  | some (.exc c fs) => some (.exc c fs)
  | some (.exc0 c) => some (.exc0 c)
  | _ => none
def lcO (g : MG) (m : MirX) (ma : MA) (ρ : Rho) : List D → Option Out
  | [] => some (.ok (.new []))
  | d :: r => (g d ρ).bind fun ρ2 => match callX m ma ρ2 with
    | some (.ok (.dat y)) => consO y (lcO g m ma ρ r)
    | some (.exc c fs) => some (.exc c fs)
    | some (.exc0 c) => some (.exc0 c)
    | _ => none
def mLcO (mi : MI) (g : MG) (m : MirX) (ma : MA) (vs : List Nat) (ρ : Rho) : Option Out := (mi ρ).bind fun p => if szOk (p.1.length + 1) = true then lcO g m ma (wipeC (p.2.map dropX) vs) p.1 else none
def mRetTLX (mi : MI) (g : MG) (m : MirX) (ma : MA) (vs : List Nat) : MS := fun ρ => match mLcO mi g m ma vs ρ with
  | some (.ok (.new ys)) => some (.ret (.dat (.tup ys)))
  | some (.exc c fs) => some (.exc c fs ρ)
  | some (.exc0 c) => some (.exc0 c ρ)
  | _ => none
/-- what is done, then the rest -/
def preO : List D → Option Out → Option Out
  | [], o => o
  | y :: ys, o => consO y (preO ys o)
theorem preO_snoc : ∀ (l : List D) (y : D) (o : Option Out), preO (l ++ [y]) o = preO l (consO y o)
  | [], _, _ => rfl
  | x :: l, y, o => by
    show consO x (preO (l ++ [y]) o) = consO x (preO l (consO y o))
    rw [preO_snoc l y o]
theorem preO_new : ∀ (l ys : List D), preO l (some (.ok (.new ys))) = some (.ok (.new (l ++ ys)))
  | [], _ => rfl
  | x :: l, ys => by
    show consO x (preO l _) = _
    rw [preO_new l ys]
    rfl
theorem preO_exc : ∀ (l : List D) (c : Str) (fs : List (Str × D)), preO l (some (.exc c fs)) = some (.exc c fs)
  | [], _, _ => rfl
  | x :: l, c, fs => by
    show consO x (preO l _) = _
    rw [preO_exc l c fs]
    rfl
theorem preO_exc0 : ∀ (l : List D) (c : Str), preO l (some (.exc0 c)) = some (.exc0 c)
  | [], _ => rfl
  | x :: l, c => by
    show consO x (preO l _) = _
    rw [preO_exc0 l c]
    rfl
theorem preO_none : ∀ (l : List D), preO l none = none
  | [] => rfl
  | x :: l => by
    show consO x (preO l _) = _
    rw [preO_none l]
    rfl
section
variable {X : Cx} {W : WX} {tg it a : Expr} {es : List Expr} {ma : MA} {m : MirX} {mi : MI} {g : MG} {x : Str} {k : Nat}
theorem lcO_any {scope : Scope} {own : List (Str × Nat)} {js : List Nat} {wi : TI} {fpos p cp spos : Pos} (h : CalX X.prog X.w X.K X.mg X.base x k m) (hr : Room k X.A) (tk : L2N.Takes X W) (nd : X.N.Nodup) (hc : X.calm = true) (stk : X.stack = X.env :: X.outer) (fr : X.env.frame = some X.env.locals)
    (hi : JI X tg it mi) (ok : BlkOk X.N X.env.scope scope own) (hjs : ∀ k, k ∈ js → k ∈ own.map (·.2))
    (hg : ∀ (s : Shared) (H : Hp) (C : Addr) (cl : List (Str × Addr)) (fp : List Addr), JGw (bk X s H scope cl C fp) tg g js)
    (ha : ∀ (s : Shared) (H : Hp) (C : Addr) (cl : List (Str × Addr)) (fp : List Addr) (xe : Value → Shared → Prop), JA ((bk X s H scope cl C fp).wish xe) (a :: es) ma)
    (hgl : ∀ (s : Shared) (H : Hp) (C : Addr) (cl : List (Str × Addr)) (fp : List Addr) (xe : Value → Shared → Prop), Gl ((bk X s H scope cl C fp).wish xe) x) (hdb : (x == ("__debug__" : Str)) = false)
    (he : ∀ (s : Shared) (H : Hp) (C : Addr) (cl : List (Str × Addr)) (fp : List Addr), starEach (a :: es) (bk X s H scope cl C fp).env = (false, eval a (bk X s H scope cl C fp).env) :: starEach es (bk X s H scope cl C fp).env)
    (hpl : ∀ (s : Shared) (H : Hp) (C : Addr) (cl : List (Str × Addr)) (fp : List Addr), (backTo cp (starEach es (bk X s H scope cl C fp).env)).any (·.1) = false)
    (fold : ∀ x, foldedSetIterable it X.env x = pure x) :
    ∃ te, PE X (.ListComp (.Call (.Name x p) (a :: es) [] cp) [⟨tg, it, [], 0⟩] scope spos) te ∧ ∀ H0 σ H ρ o Q, Ok X H0 σ H ρ → mLcO mi g m ma (own.map (·.2)) ρ = some o → OutP X.K X.mg H Q (fun c d H' => W c d σ H') o → te σ H Q := by
  obtain ⟨f, fd, ps, F, hm, hk, hb⟩ := h
  obtain ⟨wi, pi, vi⟩ := hi
  let Y : Cx := X.tr [] X.xe
  let gC : TG := fun v σ H Q => ∃ H0 ρ d ρ', Ok Y H0 σ H ρ ∧ Den X.K H v d ∧ g d ρ = some ρ' ∧ ∀ σ', Ok Y H0 σ' H ρ' → σ'.length = σ.length → (∀ k, k ∉ js → σ'[k]? = σ[k]?) → Q σ' H
  let eC : L2.St → TE := fun σd σ H Q => ∃ H0 ρ rs o, Ok Y H0 σ H ρ ∧ ma ρ = some rs ∧ m (rs.map argN) = some o ∧ ∀ H2, Ex H H2 → OutP X.K X.mg H2 Q (fun c d H' => W c d σd H') o
  have pg : ∀ (s : Shared) (H : Hp) (C : Addr) (cl : List (Str × Addr)) (fp : List Addr), PG (bk X s H scope cl C fp) tg gC := fun s H C cl fp => by
    obtain ⟨t', p', v'⟩ := hg s H C cl fp
    refine ⟨fun pins s σ H v u Q I r h => ?_⟩
    obtain ⟨H0, ρ, d, ρ', ok', hd, hgd, q⟩ := h
    exact p'.run pins s σ H v u Q I r (v' H0 σ H ρ v d ρ' (ok'.cx rfl rfl rfl) hd hgd Q fun σ' ok2 l k => q σ' (ok2.cx rfl rfl rfl) l k)
  have pe : ∀ (s : Shared) (H : Hp) (C : Addr) (cl : List (Str × Addr)) (fp : List Addr) (xe : Value → Shared → Prop) (σd : L2.St), (∀ σb, PassesAt (L2N.CX X.prog X.w) ((bk X s H scope cl C fp).wish xe) σb (fun c d H' => W c d σd H')) → PE ((bk X s H scope cl C fp).wish xe) (.Call (.Name x p) (a :: es) [] cp) (eC σd) := fun s H C cl fp xe σd pass => by
    obtain ⟨ta, pa, va⟩ := ha s H C cl fp xe
    have pc := pe_callS (X := (bk X s H scope cl C fp).wish xe) (E := fun _ c d H' => W c d σd H') (p := p) F hr (hgl s H C cl fp xe) hm hk hb pass pa hdb (he s H C cl fp) (hpl s H C cl fp)
    refine ⟨fun pins s σ H Q I h => ?_⟩
    obtain ⟨H0, ρ, rs, o, ok', hrs, ho, q⟩ := h
    refine pc.run pins s σ H Q I (va _ _ _ _ _ (ok'.cx rfl rfl rfl) hrs H (Ex.refl H) _ fun vs H2 e2 g => ?_)
    exact ⟨rs.map argN, o, ⟨g.norm, ok'.tbs.ex e2⟩, ho, q H2 e2⟩
  refine ⟨_, pe_lcX hc nd stk fr tk pi ok pg pe fold, fun H0 σ H ρ o Q ok0 h qo => ?_⟩
  unfold mLcO at h
  obtain ⟨⟨ds, ρ'⟩, hm, h⟩ := Option.bind_eq_some_iff.mp h
  split at h
  · rename_i hz
    have htot : lcO g m ma (wipeC (ρ'.map dropX) (own.map (·.2))) ds = some o := h
    refine vi H0 σ H ρ ds ρ' ok0 hm _ fun J H2 H0' e0 ok1 e2 T => ?_
    intro D nD
    have okw : Ok Y H0' (L2.wipe σ (own.map (·.2))) H2 (wipeC (ρ'.map dropX) (own.map (·.2))) := Ok.wipe (Ok.drop (Y := Y) ok1 rfl) _
    have hz' : ds.length + 1 ≤ 100000 := okP_of hz
    refine ⟨fun i n H' => n = ds.length - i ∧ i ≤ ds.length ∧ Ex H2 H' ∧ ∃ acc done, H' D = some (.lst acc) ∧ DenL X.K H' acc done ∧ preO done (lcO g m ma (wipeC (ρ'.map dropX) (own.map (·.2))) (ds.drop i)) = some o ∧ done.length = i,
      ⟨ds.length, by simp, Nat.zero_le _, Ex.new nD, [], [], upd_same, .nil, by rw [List.drop_zero]; exact htot, rfl⟩, ?_⟩
    rintro i n H' ⟨rfl, hi, eH, acc, done, hacc, hden, hlc, hdl⟩
    by_cases hlt : i < ds.length
    · refine .inr ⟨T.go i H' (ok1.base.trans eH) hlt, fun H'' => i + 1 ≤ ds.length ∧ Ex H2 H'' ∧ ∃ acc done, H'' D = some (.lst acc) ∧ DenL X.K H'' acc done ∧ preO done (lcO g m ma (wipeC (ρ'.map dropX) (own.map (·.2))) (ds.drop (i + 1))) = some o ∧ done.length = i + 1,
        fun H'' hN => ⟨ds.length - (i + 1), by omega, rfl, hN⟩, fun x H'' y => ?_⟩
      obtain ⟨e3, d, hd, hdn⟩ := T.yld i H' x H'' (ok1.base.trans eH) hlt y
      have hdrop : ds.drop i = d :: ds.drop (i + 1) := by
        rw [List.drop_eq_getElem_cons hlt]
        congr 1
        rw [List.getElem?_eq_getElem hlt] at hd
        exact Option.some.inj hd
      rw [hdrop] at hlc
      unfold lcO at hlc
      cases hg2 : g d (wipeC (ρ'.map dropX) (own.map (·.2))) with
      | none => rw [hg2, Option.bind_none, preO_none] at hlc; cases hlc
      | some ρ2 =>
      rw [hg2, Option.bind_some] at hlc
      refine ⟨H0', _, d, ρ2, okw.ex (eH.trans e3), hdn, hg2, fun σ2 ok2 l2 k2 => ?_⟩
      refine ⟨wipe_eq (σ := L2.wipe σ (own.map (·.2))) l2 (fun z hz => k2 z fun hjz => hz (hjs z hjz)) |>.trans ?_, ?_⟩
      · apply List.ext_getElem?
        intro z
        by_cases hk : z ∈ own.map (·.2)
        · by_cases hk2 : z < σ.length
          · rw [wipe_get hk (by rw [wipe_length]; exact hk2), wipe_get hk hk2]
          · rw [List.getElem?_eq_none (by rw [wipe_length, wipe_length]; omega), List.getElem?_eq_none (by rw [wipe_length]; omega)]
        · rw [wipe_out hk]
      · show eC σ σ2 H'' _
        unfold callX at hlc
        cases hrs : ma ρ2 with
        | none => rw [hrs, Option.bind_none, preO_none] at hlc; cases hlc
        | some rs =>
        rw [hrs, Option.bind_some] at hlc
        cases ho : m (rs.map argN) with
        | none => rw [ho, preO_none] at hlc; cases hlc
        | some u =>
        rw [ho] at hlc
        have e02 : Ex H H'' := (e2.trans eH).trans e3
        refine ⟨H0', ρ2, rs, u, ok2, hrs, ho, fun H3 e4 => ?_⟩
        cases u with
        | exc c fs =>
          rw [preO_exc] at hlc
          cases hlc
          exact fun C dd H4 gs hC e5 hn hx hf => qo C dd H4 gs hC ((e02.trans e4).trans e5) (fresh_back (e02.trans e4) hn) hx hf
        | exc0 c =>
          rw [preO_exc0] at hlc
          cases hlc
          exact fun C H4 hC e5 => qo C H4 hC ((e02.trans e4).trans e5)
        | ok r =>
          cases r with
          | lst _ => rw [preO_none] at hlc; cases hlc
          | ro _ => rw [preO_none] at hlc; cases hlc
          | new _ => rw [preO_none] at hlc; cases hlc
          | dat yd =>
            intro v H4 e5 gv
            have ea : H4 D = some (.lst acc) := e5 _ _ (e4 _ _ (e3 _ _ hacc))
            have te : TEx X.K H4 (upd H4 D (.lst (acc ++ [v]))) := TEx.mut ea
            refine ⟨acc, ea, ?_, by omega, ?_, acc ++ [v], done ++ [yd], upd_same, ((((hden.ex e3).ex e4).ex e5).append (.cons gv .nil)).imp te, ?_, ?_⟩
            · rw [hden.length]
              exact sz_lt (by omega)
            · exact (((eH.trans e3).trans e4).trans e5).mut nD
            · rw [preO_snoc]
              exact hlc
            · rw [List.length_append, hdl]
              rfl
    · have e : i = ds.length := by omega
      subst e
      rw [List.drop_length] at hlc
      unfold lcO at hlc
      rw [preO_new] at hlc
      cases hlc
      rw [List.append_nil] at qo
      exact .inl ⟨T.stop _ H' (ok1.base.trans eH) (Nat.le_refl _), qo _ H' (e2.trans eH) ⟨D, acc, rfl, fresh_back e2 nD, hacc, hden⟩⟩
  · cases h
theorem s_retTLX {scope : Scope} {own : List (Str × Nat)} {js : List Nat} {p p2 cp lp tp spos : Pos} (h : CalX X.prog X.w X.K X.mg X.base x k m) (hr : Room k X.A) (tk : L2N.Takes X W) (hm : X.mg "tuple" = none) (nd : X.N.Nodup) (hi : JI X tg it mi) (ok : BlkOk X.N X.env.scope scope own) (hjs : ∀ k, k ∈ js → k ∈ own.map (·.2))
    (hg : ∀ (s : Shared) (H : Hp) (C : Addr) (cl : List (Str × Addr)) (fp : List Addr), JGw (bk X s H scope cl C fp) tg g js)
    (ha : ∀ (s : Shared) (H : Hp) (C : Addr) (cl : List (Str × Addr)) (fp : List Addr) (xe : Value → Shared → Prop), JA ((bk X s H scope cl C fp).wish xe) (a :: es) ma)
    (hc : X.calm = true := by rfl) (stk : X.stack = X.env :: X.outer := by rfl) (fr : X.env.frame = some X.env.locals := by rfl)
    (hgl : ∀ (s : Shared) (H : Hp) (C : Addr) (cl : List (Str × Addr)) (fp : List Addr) (xe : Value → Shared → Prop), Gl ((bk X s H scope cl C fp).wish xe) x := by intros; rfl) (hdb : (x == ("__debug__" : Str)) = false := by decide)
    (he : ∀ (s : Shared) (H : Hp) (C : Addr) (cl : List (Str × Addr)) (fp : List Addr), starEach (a :: es) (bk X s H scope cl C fp).env = (false, eval a (bk X s H scope cl C fp).env) :: starEach es (bk X s H scope cl C fp).env := by intros; rfl)
    (hpl : ∀ (s : Shared) (H : Hp) (C : Addr) (cl : List (Str × Addr)) (fp : List Addr), (backTo cp (starEach es (bk X s H scope cl C fp).env)).any (·.1) = false := by intros; rfl)
    (fold : ∀ x, foldedSetIterable it X.env x = pure x := by intro _; rfl) (hgt : Gl X "tuple" := by rfl)
    (hs : starEach [.ListComp (.Call (.Name x p) (a :: es) [] cp) [⟨tg, it, [], 0⟩] scope lp] X.env = (false, eval (.ListComp (.Call (.Name x p) (a :: es) [] cp) [⟨tg, it, [], 0⟩] scope lp) X.env) :: starEach [] X.env := by rfl) :
    JS X W (.Return (some (.Call (.Name "tuple" p2) [.ListComp (.Call (.Name x p) (a :: es) [] cp) [⟨tg, it, [], 0⟩] scope lp] [] tp)) spos) (mRetTLX mi g m ma (own.map (·.2))) := by
  obtain ⟨te, pe, ve⟩ := lcO_any (wi := fun _ _ _ => True) (fpos := p) (p := p) (cp := cp) (spos := lp) h hr tk nd hc stk fr hi ok hjs hg ha hgl hdb he hpl fold
  refine ⟨_, ps_ret (pe_callTy call_tuple_of hgt hm PyProof.Rows.boot_tuple (pa_cons pe pa_nil hs) (he := hs)), fun H0 D σ H ρ fl ok0 h q => ?_⟩
  unfold mRetTLX at h
  cases ho : mLcO mi g m ma (own.map (·.2)) ρ with
  | none => rw [ho] at h; cases h
  | some o =>
    rw [ho] at h
    refine ve H0 σ H ρ o _ ok0 ho ?_
    cases o with
    | ok r =>
      cases r with
      | dat _ => cases h
      | lst _ => cases h
      | ro _ => cases h
      | new ys =>
        cases h
        intro v H2 e2 ⟨pp, vs, hv, hn, hl, hdn⟩
        subst hv
        refine ⟨pp, vs, rfl, .inl ⟨sq_of hl, fun l nl => ?_⟩⟩
        exact q _ _ ((ok0.base.trans e2).trans (Ex.new nl)) (.tup (st_of upd_same) (hdn.ex (Ex.new nl)))
    | exc c fs =>
      cases h
      exact fun C d H' gs hc e' n hd hf => q C d σ H' gs hc (ok0.ex e') (fresh_back ok0.base n) hd hf
    | exc0 c =>
      cases h
      exact fun C H' hc e' => q C σ H' hc (ok0.ex e')
end
end
end Tl

namespace Tl
open PySem PySem.Spec PyProof.Rows L2 Evl
noncomputable section
/-! ### try whose handlers name one class or a pair of them -/
def wNy (K : PySem.W.Frag) (Wo : WX) (D : Ends) : List (List Value × Nat × SuT) → WX
  | [] => Wo
  | q :: r => fun cl dd σ H => ∃ yes, PySem.W.exmAny K cl q.1 = some yes ∧ (yes = true → ∀ a, H a = none → q.2.2 a cl dd (gone D q.2.1) (σ.set q.2.1 (some (.ref a))) H) ∧ (yes = false → wNy K Wo D r cl dd σ H)
inductive HdsNy (X : Cx) : List ExceptHandler → List (List Value × Nat × SuT) → Prop
  | nil : HdsNy X [] []
  | cons {x n : Str} {c : Value} {i : Nat} {ts : SuT} {s₀ : Stmt} {sts : List Stmt} {p1 p2 : Pos} {hds : List ExceptHandler} {l : List (List Value × Nat × SuT)} (nm : Names X x c) (ix : X.N[i]? = some n) (lo : X.env.kindOf n = some .local)
      (su : ∀ (a : Addr) (oe : Obj) (cl : Value) (dd : Option Addr) (pn : List (Addr × Obj)), L2N.Zn cl dd oe → (∃ vs, oe.data = .fields vs) → PSs (X.suite a ((a, oe) :: pn)) (s₀ :: sts) (ts a cl dd)) (r : HdsNy X hds l) :
      HdsNy X (.ExceptHandler (some (.Name x p1)) (some n) (s₀ :: sts) p2 :: hds) (([c], i, ts) :: l)
  | two {x y n : Str} {c d : Value} {i kt : Nat} {ts : SuT} {s₀ : Stmt} {sts : List Stmt} {p1 p2 p3 p4 : Pos} {hds : List ExceptHandler} {l : List (List Value × Nat × SuT)} (nm : Names X x c) (nm2 : Names X y d) (ix : X.N[i]? = some n) (lo : X.env.kindOf n = some .local)
      (h1 : starEach [.Name x p1, .Name y p3] X.env = (false, eval (.Name x p1) X.env) :: starEach [.Name y p3] X.env) (h2 : starEach [.Name y p3] X.env = (false, eval (.Name y p3) X.env) :: starEach [] X.env)
      (su : ∀ (a : Addr) (oe : Obj) (cl : Value) (dd : Option Addr) (pn : List (Addr × Obj)), L2N.Zn cl dd oe → (∃ vs, oe.data = .fields vs) → PSs (X.suite a ((a, oe) :: pn)) (s₀ :: sts) (ts a cl dd)) (r : HdsNy X hds l) :
      HdsNy X (.ExceptHandler (some (.Tuple [.Name x p1, .Name y p3] kt p4)) (some n) (s₀ :: sts) p2 :: hds) (([c, d], i, ts) :: l)
theorem fly_push {B g : Heap} {l : List Env} {e : Addr} {Z : Obj → Prop} (f : HandSPX.FlyingZ B l e Z g) (o : Obj) : HandSPX.FlyingZ B l e Z (g.push o) := by
  obtain ⟨f1, f2, f3, oe, vs, T, oT, ts, he, hz, hd, h1, hnT, hTe, hT, hdT, h3⟩ := f
  exact ⟨fun b u e => Heap.get?_push_of_some _ (f1 b u e), f2, frames_move f3 (fun b u _ e => Heap.get?_push_of_some _ e) (fun _ e => e), oe, vs, T, oT, ts, Heap.get?_push_of_some _ he, hz, hd, h1, hnT, hTe, Heap.get?_push_of_some _ hT, hdT, h3⟩
section
variable {X : Cx} {body : List Stmt} {hd0 : ExceptHandler} {hds : List ExceptHandler} {l : List (List Value × Nat × SuT)} {pos : Pos} {tb : WX → TS} {Wo : WX}
theorem ps_tryNy (st : X.stack = X.env :: X.outer) (fr : X.env.frame = some X.env.locals) (nd : X.N.Nodup) (tk : L2N.Takes X Wo)
    (bd : ∀ (W : WX) (pn : List (Addr × Obj)) (xe : Value → Shared → Prop), L2N.Takes (X.tr pn xe) W → PassesOwn (model X.prog X.w) X.A X.env xe → PSs (X.tr pn xe) body (tb W))
    (hs : HdsNy X (hd0 :: hds) l) : PS X (.Try body (hd0 :: hds) [] [] pos) (fun D σ H => tb (wNy X.K Wo D l) D σ H) := by
  constructor
  intro pins s σ H D I ht
  have k0 := I.ok
  have frs0 : X.A.frames = some (X.env :: X.outer) := by rw [k0.frames, st]
  refine wpAny_Try_except (wpAny_mono ((bd (wNy X.K Wo D l) (X.pn ++ pins) (fun e z => wpAny (model X.prog X.w) X.A (noteFrame e X.env) (fun _ z2 => wpAny (model X.prog X.w) X.A (setFlight e none)
    (fun _ z3 => wpAny (model X.prog X.w) X.A (handleBy e X.env (hd0 :: hds)) (SP X pins D) X.xe z3) X.xe z2) X.xe z) ?caught PassesOwn.looking).run [] s σ H D (I.toTry _) ht) ?calm fun _ _ z => z)
  case calm =>
    intro fl z hz
    match fl, hz with
    | .next, ⟨σ1, H1, J, q⟩ => exact wpAny_execs_nil ⟨σ1, H1, J.ofTry k0, q⟩
    | .brk, ⟨σ1, H1, J, q⟩ => exact ⟨σ1, H1, J.ofTry k0, q⟩
    | .cont, ⟨σ1, H1, J, q⟩ => exact ⟨σ1, H1, J.ofTry k0, q⟩
    | .ret u, ⟨v, σ1, H1, J, r, q⟩ => exact ⟨v, σ1, H1, J.ofTry k0, r, q⟩
  case caught =>
    rintro _ z ⟨ea, B, sI, pins1, σ1, H1, cl, dd, rfl, J0, nbr, upto, sky, hna, hos, hag, hw⟩
    have J : Inv X pins σ1 H1 sI := J0.ofTry k0
    have sky1 : Sky B (X.env :: X.outer) ea (L2N.Zn cl dd) X.env.locals z.heap := st ▸ sky
    show wpAny (model X.prog X.w) X.A (noteFrame (.ref ea) X.env) _ _ _
    refine L2N.Sky.land L2N.Zn.steady frs0 fr sky1 fun g fly upg => ?_
    obtain ⟨og0, vg0, hog0, hzg0, hdg0⟩ := fly.there
    have notin : ea ∉ frs (X.env :: X.outer) := fun hm => by
      obtain ⟨_, o2, e2, n2⟩ := Heap.FunFrames.mem fly.2.2.1 hm
      rw [hog0] at e2
      cases e2
      exact n2 _ hdg0
    have neL : ea ≠ X.env.locals := fun e => notin (List.mem_filterMap.mpr ⟨X.env, List.mem_cons_self, by rw [fr, e]⟩)
    have neF : ea ∉ X.fs := fun hm => by
      obtain ⟨en, h1, h2⟩ := List.mem_filterMap.mp hm
      exact notin (List.mem_filterMap.mpr ⟨en, List.mem_cons_of_mem _ h1, h2⟩)
    -- one handler behind the other
    have walk : ∀ {hl : List ExceptHandler} {ql : List (List Value × Nat × SuT)}, HdsNy X hl ql → ∀ (g : Heap), HandSPX.FlyingZ B (X.env :: X.outer) ea (L2N.Zn cl dd) g → z.heap.UpToSlots g → wNy X.K Wo D ql cl dd σ1 H1 → wpAny (model X.prog X.w) X.A (handleBy (.ref ea) X.env hl) (SP X pins D) X.xe { z with heap := g } := by
      intro hl ql hk
      induction hk with
      | nil =>
        intro g fly upg wo
        obtain ⟨_, _, _, o3, v3, T3, _, _, ho3, _, hd3, h13, _⟩ := id fly
        refine wpAny_handleBy_nil ?_
        unfold PySem.passOn
        refine wpAny_bind (wpAny_field ho3 hd3 h13 ?_)
        rw [if_neg (show ¬ ((Value.ref T3 == Value.none) = true) from by simp)]
        have out : wpAny (model X.prog X.w) X.A (setFlight (.ref ea) X.env.frame) (fun _ z4 => wpAny (model X.prog X.w) X.A (throw (.ref ea) : Sem Flow) (SP X pins D) X.xe z4) X.xe { z with heap := g } := by
          rw [fr]
          exact HandSPX.setFlight_upZ fly fun g4 held up4 => wpAny_throw (tk _ _ ⟨ea, B, sI, pins, σ1, H1, cl, dd, rfl, J, nbr, (upto.trans upg).trans up4, .inr (.inr (st ▸ held)), hna, hos, hag, wo⟩)
        first
          | exact wpAny_bind (wpAny_pure (wpAny_bind out))
          | exact wpAny_bind out
      | @cons x n c i ts s₀ sts p1 p2 hds2 l2 nm ix lo su r ih =>
        intro g fly upg
        rintro ⟨yes, hm, hy, hn⟩
        have Jg : Inv X pins σ1 H1 { z with heap := g } := J.landed nbr fly.1 (upto.trans upg) hos hag
        obtain ⟨og, vg, hog, hzg, hdg⟩ := fly.there
        have Sg := Jg.suite hog hdg hna neL neF
        refine wpAny_handleBy_cons (codeAny_handlers_test ?_) (by intro q; cases q)
        have look : PySem.W.Looks (model X.prog X.w) g (typeOf (.ref ea)) cl := fun A Q E s2 k q => wpAny_typeOf_ref (k _ _ hog) (by rw [hzg.1]; exact q)
        obtain ⟨b1, d1, x1, y1, z1⟩ := PySem.W.exmAny_cons hm
        have w1 : some false = some d1 := y1
        cases w1
        rw [Bool.or_false] at z1
        subst z1
        have lm := PySem.W.exm_one (M := model X.prog X.w) Jg.kIn look x1
        have nmd : ∀ {Q : Value → Shared → Prop} {E : Value → Shared → Prop}, Q c { z with heap := g } → wpAny (model X.prog X.w) (X.A.mark (some (.ref ea))) (eval (.Name x p1) X.env) Q E { z with heap := g } := fun {Q E} q => by
          obtain ⟨g1, g2, g3 | ⟨g3, g4, g5⟩⟩ := nm
          · exact ld_glob (X := X.suite ea ((ea, og) :: (X.pn ++ pins))) Sg g1 g3 q g2
          · exact ld_blt (X := X.suite ea ((ea, og) :: (X.pn ++ pins))) Sg g1 g3 g4 q g5 g2
        refine nmd (lm.here ?_)
        cases yes with
        | false => exact ih g fly upg (hn rfl)
        | true =>
          refine codeAny_handlers_suite_as (HandSPX.lands_againZ fly fun g4 fly4 up4 => ?_)
          have J4 : Inv X pins σ1 H1 { z with heap := g4 } := J.landed nbr fly4.1 ((upto.trans upg).trans up4) hos hag
          obtain ⟨o4, v4, ho4, hz4, hd4⟩ := fly4.there
          have S4 := J4.suite ho4 hd4 hna neL neF
          refine store_ok (X := X.suite ea ((ea, o4) :: (X.pn ++ pins))) (v := .ref ea) S4 nd ix (.inl lo) rfl (fun z5 S5 => ?_) (.inr lo)
          refine wpAny_mono ((su ea o4 cl dd (X.pn ++ pins) hz4 ⟨_, hd4⟩).run [] z5 _ H1 _ S5 (hy rfl ea hna)) (fun fl z6 hz6 => ?_) fun _ _ f => f.elim
          have off : ∀ {σ6 : L2.St} {H6 : Hp} {Q : Shared → Prop}, Inv (X.suite ea ((ea, o4) :: (X.pn ++ pins))) [] σ6 H6 z6 → (∀ z7, Inv X pins (σ6.set i none) H6 z7 → Q z7) →
              wpAny (model X.prog X.w) X.A (do bindName X.env n .none; unbindBehindTheSuite X.env n p2) (fun _ z7 => Q z7) X.xe z6 := fun {_ _ _} S6 hq => gone_ok (S6.unsuite k0) nd ix lo hq
          match fl, hz6 with
          | .next, ⟨_, _, S6, q6⟩ => exact off S6 fun _ J7 => ⟨_, _, J7, q6⟩
          | .brk, ⟨_, _, S6, q6⟩ => exact off S6 fun _ J7 => ⟨_, _, J7, q6⟩
          | .cont, ⟨_, _, S6, q6⟩ => exact off S6 fun _ J7 => ⟨_, _, J7, q6⟩
          | .ret u, ⟨_, _, _, S6, r6, q6⟩ => exact off S6 fun _ J7 => ⟨_, _, _, J7, r6, q6⟩
      | @two x y n c d i kt ts s₀ sts p1 p2 p3 p4 hds2 l2 nm nm2 ix lo h1 h2 su r ih =>
        intro g fly upg
        rintro ⟨yes, hm, hy, hn⟩
        have Jg : Inv X pins σ1 H1 { z with heap := g } := J.landed nbr fly.1 (upto.trans upg) hos hag
        obtain ⟨og, vg, hog, hzg, hdg⟩ := fly.there
        have Sg := Jg.suite hog hdg hna neL neF
        refine wpAny_handleBy_cons (codeAny_handlers_test ?_) (by intro q; cases q)
        have nmd : ∀ {v : Str} {cv : Value} {pp : Pos} (nv : Names X v cv) {Q : Value → Shared → Prop} {E : Value → Shared → Prop}, Q cv { z with heap := g } → wpAny (model X.prog X.w) (X.A.mark (some (.ref ea))) (eval (.Name v pp) X.env) Q E { z with heap := g } := fun {v cv pp} nv {Q E} q => by
          obtain ⟨g1, g2, g3 | ⟨g3, g4, g5⟩⟩ := nv
          · exact ld_glob (X := X.suite ea ((ea, og) :: (X.pn ++ pins))) Sg g1 g3 q g2
          · exact ld_blt (X := X.suite ea ((ea, og) :: (X.pn ++ pins))) Sg g1 g3 g4 q g5 g2
        refine wpAny_Tuple_spliced ?_
        rw [h1]
        show wpAny _ _ (spliced ((false, eval (.Name x p1) X.env) :: backTo p4 (starEach [.Name y p3] X.env))) _ _ _
        rw [h2]
        refine Calls.spliced_cons (nmd nm ?_)
        show wpAny _ _ (spliced ((false, eval (.Name y p3) X.env) :: backTo p4 (starEach [] X.env))) _ _ _
        refine Calls.spliced_cons (nmd nm2 (Calls.spliced_nil ⟨(show 2 ≤ sizeLine by decide), ?_⟩))
        have hogp : (g.push { cls := .type "tuple", data := .seq [c, d].toArray }).get? ea = some og := Heap.get?_push_of_some _ hog
        have look : PySem.W.Looks (model X.prog X.w) (g.push { cls := .type "tuple", data := .seq [c, d].toArray }) (typeOf (.ref ea)) cl := fun A Q E s2 k q => wpAny_typeOf_ref (k _ _ hogp) (by rw [hzg.1]; exact q)
        have fly := fly_push fly { cls := .type "tuple", data := .seq [c, d].toArray }
        have upg : z.heap.UpToSlots (g.push { cls := .type "tuple", data := .seq [c, d].toArray }) := upg.trans (Heap.UpToSlots.of_keeps fun b o e => Heap.get?_push_of_some _ e)
        have Jp : Inv X pins σ1 H1 { z with heap := g.push { cls := .type "tuple", data := .seq [c, d].toArray } } := J.landed nbr fly.1 (upto.trans upg) hos hag
        have lm := PySem.W.exm_tup2 (M := model X.prog X.w) (tp := g.objs.size) Jp.kIn look (Heap.get?_push_size _ rfl) hm
        refine lm.here ?_
        cases yes with
        | false => exact ih _ fly upg (hn rfl)
        | true =>
          refine codeAny_handlers_suite_as (HandSPX.lands_againZ fly fun g4 fly4 up4 => ?_)
          have J4 : Inv X pins σ1 H1 { z with heap := g4 } := J.landed nbr fly4.1 ((upto.trans upg).trans up4) hos hag
          obtain ⟨o4, v4, ho4, hz4, hd4⟩ := fly4.there
          have S4 := J4.suite ho4 hd4 hna neL neF
          refine store_ok (X := X.suite ea ((ea, o4) :: (X.pn ++ pins))) (v := .ref ea) S4 nd ix (.inl lo) rfl (fun z5 S5 => ?_) (.inr lo)
          refine wpAny_mono ((su ea o4 cl dd (X.pn ++ pins) hz4 ⟨_, hd4⟩).run [] z5 _ H1 _ S5 (hy rfl ea hna)) (fun fl z6 hz6 => ?_) fun _ _ f => f.elim
          have off : ∀ {σ6 : L2.St} {H6 : Hp} {Q : Shared → Prop}, Inv (X.suite ea ((ea, o4) :: (X.pn ++ pins))) [] σ6 H6 z6 → (∀ z7, Inv X pins (σ6.set i none) H6 z7 → Q z7) →
              wpAny (model X.prog X.w) X.A (do bindName X.env n .none; unbindBehindTheSuite X.env n p2) (fun _ z7 => Q z7) X.xe z6 := fun {_ _ _} S6 hq => gone_ok (S6.unsuite k0) nd ix lo hq
          match fl, hz6 with
          | .next, ⟨_, _, S6, q6⟩ => exact off S6 fun _ J7 => ⟨_, _, J7, q6⟩
          | .brk, ⟨_, _, S6, q6⟩ => exact off S6 fun _ J7 => ⟨_, _, J7, q6⟩
          | .cont, ⟨_, _, S6, q6⟩ => exact off S6 fun _ J7 => ⟨_, _, J7, q6⟩
          | .ret u, ⟨_, _, _, S6, r6, q6⟩ => exact off S6 fun _ J7 => ⟨_, _, _, J7, r6, q6⟩
    exact walk hs g fly upg hw
end
/-- what is known of the handlers -/
structure HdY (X : Cx) (W : WX) (hl : HdM) (l : List (List Value × Nat × SuT)) : Prop where
  e0 : ∀ H0 D c C pn xe ρ' σ' H' fl, X.mg c = some (.ref C) → Ok (X.tr pn xe) H0 σ' H' ρ' → hdN hl c [] (.exc0 c (ρ'.map dropX)) (ρ'.map dropX) = some fl → Post X H0 D W fl → wNy X.K W D l (.ref C) none σ' H'
  e1 : ∀ H0 D c C d fs gs pn xe ρ' σ' H' fl, X.mg c = some (.ref C) → Ok (X.tr pn xe) H0 σ' H' ρ' → H0 d = none → H' d = some (.xd gs) → FldL X.K H' gs fs → hdN hl c fs (.exc c fs (ρ'.map dropX)) (ρ'.map dropX) = some fl → Post X H0 D W fl → wNy X.K W D l (.ref C) (some d) σ' H'
def JHy (X : Cx) (W : WX) (hds : List ExceptHandler) (hl : HdM) : Prop := ∃ l, HdsNy X hds l ∧ HdY X W hl l
section
variable {X : Cx} {W : WX} {pos pos' np : Pos} {body suite : List Stmt} {s₀ : Stmt} {mb ms : MS} {n x : Str} {Ch : Addr} {hds : List ExceptHandler} {hl : HdM}
theorem hy_nil : JHy X W [] [] := ⟨[], .nil, fun H0 D c C pn xe ρ' σ' H' fl hg ok h q => by cases h; exact q C σ' H' hg (Ok.drop (Y := X) ok rfl),
  fun H0 D c C d fs gs pn xe ρ' σ' H' fl hg ok nd hd hf h q => by cases h; exact q C d σ' H' gs hg (Ok.drop (Y := X) ok rfl) nd hd hf⟩
theorem hy_cons (i : Nat) (mt : Str → Option Bool) (nm : Names X x (.ref Ch)) (hmt : ∀ c b C, mt c = some b → X.mg c = some (.ref C) → PySem.W.exmAny X.K (.ref C) [.ref Ch] = some b)
    (hsu : ∀ (a : Addr) (oe : Obj) (cl : Value) (dd : Option Addr) (pn : List (Addr × Obj)), L2N.Zn cl dd oe → (∃ vs, oe.data = .fields vs) → JB (X.suite a ((a, oe) :: pn)) W0 (s₀ :: suite) ms) (hr : JHy X W hds hl)
    (ix : X.N[i]? = some n := by rfl) (lo : X.env.kindOf n = some .local := by rfl) : JHy X W (.ExceptHandler (some (.Name x np)) (some n) (s₀ :: suite) pos' :: hds) ((i, mt, ms) :: hl) := by
  obtain ⟨l, hk, P⟩ := hr
  refine ⟨([.ref Ch], i, suT X ms) :: l, .cons nm ix lo (fun a oe cl dd pn hz hd => ?_) hk, ?_, ?_⟩
  · obtain ⟨ts, p, v⟩ := hsu a oe cl dd pn hz hd
    constructor
    intro pins s σ H D I h
    obtain ⟨G, ρ, fl, ok, hm, q⟩ := h oe pn hz hd
    exact p.run pins s σ H D I (v G D σ H ρ fl ok hm q)
  · intro H0 D c C pn0 xe ρ' σ' H' fl hg ok h q
    have h : (match mt c with | some true => endT i (ms ((ρ'.map dropX).set i (.exc c []))) | some false => hdN hl c [] (.exc0 c (ρ'.map dropX)) (ρ'.map dropX) | none => none) = some fl := h
    cases hm : mt c with
    | none => rw [hm] at h; cases h
    | some yes =>
      rw [hm] at h
      refine ⟨yes, hmt c yes C hm hg, fun ey a na => ?_, fun en => ?_⟩
      · subst ey
        intro oe pn hz hdd
        have okS : Ok (X.suite a ((a, oe) :: pn)) H0 σ' H' (ρ'.map dropX) := Ok.drop (Y := X.suite a ((a, oe) :: pn)) ok rfl
        obtain ⟨B, okB⟩ := okS
        obtain ⟨B2, okP⟩ := okB.pin
        have okE := okP.setX (i := i) (a := a) (C := C) (oe := oe) (c := c) (fs := []) ⟨pn, rfl⟩ hz.1 hg hdd (.inr ⟨hz.2.1, rfl⟩)
        cases hms : ms ((ρ'.map dropX).set i (.exc c [])) with
        | none => rw [hms] at h; cases h
        | some fl2 => exact ⟨_, _, fl2, ⟨B2, okE⟩, hms, su_end (okB.e0.trans okB.hid) hms h q (Post.up (X := X) (W := W) (okB.e0.trans okB.hid))⟩
      · subst en
        exact P.e0 H0 D c C pn0 xe ρ' σ' H' fl hg ok h q
  · intro H0 D c C d fs gs pn0 xe ρ' σ' H' fl hg ok nd hd hf h q
    have h : (match mt c with | some true => endT i (ms ((ρ'.map dropX).set i (.exc c fs))) | some false => hdN hl c fs (.exc c fs (ρ'.map dropX)) (ρ'.map dropX) | none => none) = some fl := h
    cases hm : mt c with
    | none => rw [hm] at h; cases h
    | some yes =>
      rw [hm] at h
      refine ⟨yes, hmt c yes C hm hg, fun ey a na => ?_, fun en => ?_⟩
      · subst ey
        intro oe pn hz hdd
        have okS : Ok (X.suite a ((a, oe) :: pn)) H0 σ' H' (ρ'.map dropX) := Ok.drop (Y := X.suite a ((a, oe) :: pn)) ok rfl
        obtain ⟨B, okB⟩ := okS
        have nown : ¬ Owned σ' (ρ'.map dropX) d := fun z => by
          obtain ⟨_, vs, z2⟩ := okB.owned z
          rw [z2] at hd
          cases hd
        obtain ⟨B2, okP⟩ := okB.pin
        have hdB : B2 d = some (.xd gs) := okP.e0.ex _ _ (by rw [hidO_no nown]; exact hd)
        have okE := okP.setX (i := i) (a := a) (C := C) (oe := oe) (c := c) (fs := fs) ⟨pn, rfl⟩ hz.1 hg hdd (.inl ⟨d, gs, hz.2.1, hdB, hf⟩)
        cases hms : ms ((ρ'.map dropX).set i (.exc c fs)) with
        | none => rw [hms] at h; cases h
        | some fl2 => exact ⟨_, _, fl2, ⟨B2, okE⟩, hms, su_end (okB.e0.trans okB.hid) hms h q (Post.up (X := X) (W := W) (okB.e0.trans okB.hid))⟩
      · subst en
        exact P.e1 H0 D c C d fs gs pn0 xe ρ' σ' H' fl hg ok nd hd hf h q
theorem hy_two {y : Str} {Dh : Addr} {kt : Nat} {p3 p4 : Pos} (i : Nat) (mt : Str → Option Bool) (nm : Names X x (.ref Ch)) (nm2 : Names X y (.ref Dh)) (hmt : ∀ c b C, mt c = some b → X.mg c = some (.ref C) → PySem.W.exmAny X.K (.ref C) [.ref Ch, .ref Dh] = some b)
    (hsu : ∀ (a : Addr) (oe : Obj) (cl : Value) (dd : Option Addr) (pn : List (Addr × Obj)), L2N.Zn cl dd oe → (∃ vs, oe.data = .fields vs) → JB (X.suite a ((a, oe) :: pn)) W0 (s₀ :: suite) ms) (hr : JHy X W hds hl)
    (ix : X.N[i]? = some n := by rfl) (lo : X.env.kindOf n = some .local := by rfl)
    (h1 : starEach [.Name x np, .Name y p3] X.env = (false, eval (.Name x np) X.env) :: starEach [.Name y p3] X.env := by rfl) (h2 : starEach [.Name y p3] X.env = (false, eval (.Name y p3) X.env) :: starEach [] X.env := by rfl) : JHy X W (.ExceptHandler (some (.Tuple [.Name x np, .Name y p3] kt p4)) (some n) (s₀ :: suite) pos' :: hds) ((i, mt, ms) :: hl) := by
  obtain ⟨l, hk, P⟩ := hr
  refine ⟨([.ref Ch, .ref Dh], i, suT X ms) :: l, .two nm nm2 ix lo h1 h2 (fun a oe cl dd pn hz hd => ?_) hk, ?_, ?_⟩
  · obtain ⟨ts, p, v⟩ := hsu a oe cl dd pn hz hd
    constructor
    intro pins s σ H D I h
    obtain ⟨G, ρ, fl, ok, hm, q⟩ := h oe pn hz hd
    exact p.run pins s σ H D I (v G D σ H ρ fl ok hm q)
  · intro H0 D c C pn0 xe ρ' σ' H' fl hg ok h q
    have h : (match mt c with | some true => endT i (ms ((ρ'.map dropX).set i (.exc c []))) | some false => hdN hl c [] (.exc0 c (ρ'.map dropX)) (ρ'.map dropX) | none => none) = some fl := h
    cases hm : mt c with
    | none => rw [hm] at h; cases h
    | some yes =>
      rw [hm] at h
      refine ⟨yes, hmt c yes C hm hg, fun ey a na => ?_, fun en => ?_⟩
      · subst ey
        intro oe pn hz hdd
        have okS : Ok (X.suite a ((a, oe) :: pn)) H0 σ' H' (ρ'.map dropX) := Ok.drop (Y := X.suite a ((a, oe) :: pn)) ok rfl
        obtain ⟨B, okB⟩ := okS
        obtain ⟨B2, okP⟩ := okB.pin
        have okE := okP.setX (i := i) (a := a) (C := C) (oe := oe) (c := c) (fs := []) ⟨pn, rfl⟩ hz.1 hg hdd (.inr ⟨hz.2.1, rfl⟩)
        cases hms : ms ((ρ'.map dropX).set i (.exc c [])) with
        | none => rw [hms] at h; cases h
        | some fl2 => exact ⟨_, _, fl2, ⟨B2, okE⟩, hms, su_end (okB.e0.trans okB.hid) hms h q (Post.up (X := X) (W := W) (okB.e0.trans okB.hid))⟩
      · subst en
        exact P.e0 H0 D c C pn0 xe ρ' σ' H' fl hg ok h q
  · intro H0 D c C d fs gs pn0 xe ρ' σ' H' fl hg ok nd hd hf h q
    have h : (match mt c with | some true => endT i (ms ((ρ'.map dropX).set i (.exc c fs))) | some false => hdN hl c fs (.exc c fs (ρ'.map dropX)) (ρ'.map dropX) | none => none) = some fl := h
    cases hm : mt c with
    | none => rw [hm] at h; cases h
    | some yes =>
      rw [hm] at h
      refine ⟨yes, hmt c yes C hm hg, fun ey a na => ?_, fun en => ?_⟩
      · subst ey
        intro oe pn hz hdd
        have okS : Ok (X.suite a ((a, oe) :: pn)) H0 σ' H' (ρ'.map dropX) := Ok.drop (Y := X.suite a ((a, oe) :: pn)) ok rfl
        obtain ⟨B, okB⟩ := okS
        have nown : ¬ Owned σ' (ρ'.map dropX) d := fun z => by
          obtain ⟨_, vs, z2⟩ := okB.owned z
          rw [z2] at hd
          cases hd
        obtain ⟨B2, okP⟩ := okB.pin
        have hdB : B2 d = some (.xd gs) := okP.e0.ex _ _ (by rw [hidO_no nown]; exact hd)
        have okE := okP.setX (i := i) (a := a) (C := C) (oe := oe) (c := c) (fs := fs) ⟨pn, rfl⟩ hz.1 hg hdd (.inl ⟨d, gs, hz.2.1, hdB, hf⟩)
        cases hms : ms ((ρ'.map dropX).set i (.exc c fs)) with
        | none => rw [hms] at h; cases h
        | some fl2 => exact ⟨_, _, fl2, ⟨B2, okE⟩, hms, su_end (okB.e0.trans okB.hid) hms h q (Post.up (X := X) (W := W) (okB.e0.trans okB.hid))⟩
      · subst en
        exact P.e1 H0 D c C d fs gs pn0 xe ρ' σ' H' fl hg ok nd hd hf h q
theorem s_tryY {hd0 : ExceptHandler} {ends : HdM} (hN : X.N.Nodup) (tk : L2N.Takes X W)
    (hb : ∀ (W' : WX) (pn : List (Addr × Obj)) (xe : Value → Shared → Prop), L2N.Takes (X.tr pn xe) W' → PassesOwn (model X.prog X.w) X.A X.env xe → JB (X.tr pn xe) W' body mb)
    (hh : JHy X W (hd0 :: hds) ends) (st : X.stack = X.env :: X.outer := by rfl) (fr : X.env.frame = some X.env.locals := by rfl) : JS X W (.Try body (hd0 :: hds) [] [] pos) (mTryN ends mb) := by
  obtain ⟨l, hk, P⟩ := hh
  refine ⟨_, ps_tryNy (tb := fun W' D σ H => ∃ G ρ fl, (∀ pn xe, Ok (X.tr pn xe) G σ H ρ) ∧ mb ρ = some fl ∧ ∀ pn xe, Post (X.tr pn xe) G D W' fl) st fr hN tk (fun W' pn xe t po => ?_) hk, fun H0 D σ H ρ fl ok h q => ?_⟩
  · obtain ⟨ts, p, v⟩ := hb W' pn xe t po
    constructor
    intro pins s σ H D I h
    obtain ⟨G, ρ, fl, ok, hm, q⟩ := h
    exact p.run pins s σ H D I (v G D σ H ρ fl (ok pn xe) hm (q pn xe))
  · unfold mTryN at h
    cases hbd : mb (ρ.map dropX) with
    | none => rw [hbd] at h; cases h
    | some fl1 =>
      rw [hbd] at h
      refine ⟨H0, ρ.map dropX, fl1, fun pn xe => ok.drop rfl, hbd, fun pn xe => ?_⟩
      cases fl1 with
      | nx ρ' => cases h; exact fun σ' H' ok' => q σ' H' (Ok.drop (Y := X) ok' rfl)
      | brk ρ' => cases h; exact fun σ' H' ok' => q σ' H' (Ok.drop (Y := X) ok' rfl)
      | cnt ρ' => cases h; exact fun σ' H' ok' => q σ' H' (Ok.drop (Y := X) ok' rfl)
      | ret r => cases h; exact q
      | exc0 c ρ' => exact fun C σ' H' hgc ok' => P.e0 H0 D c C pn xe ρ' σ' H' fl hgc ok' h q
      | exc c fs ρ' => exact fun C d σ' H' gs hgc ok' nd hd hfl => P.e1 H0 D c C d fs gs pn xe ρ' σ' H' fl hgc ok' nd hd hfl h q
end
end
end Tl

namespace Tl
open PySem PySem.Spec PyProof.Rows L2 Evl
noncomputable section
/-! ### a written dict of defs: word -> name of a def -/
/-- the dict named x, word for word: which def it tells -/
def Fdic (K : PySem.W.Frag) (w : World) (mg : Str → Option Value) (x : Str) (tb : List (Str × Str)) : Prop := ∃ a es n, mg x = some (.ref a) ∧ KDict K w a es n ∧ ∀ z, ∃ r, PySem.W.nsIn K a z = some r ∧ r.isSome = (tb.lookup z).isSome ∧ ∀ fn, tb.lookup z = some fn → ∃ f, r = some (.ref f) ∧ mg fn = some (.ref f)
theorem look_no {ks : List Str} {z : Str} (hz : z ∉ ks) : ∀ {l : List DictEntry}, (∀ e ∈ l, ∃ x ∈ ks, keyS e.key = some x) → l.find? (·.key.isStr z) = none ∧ l.any (·.refKey) = false
  | [], _ => ⟨rfl, rfl⟩
  | e :: l, h => by
    obtain ⟨x, hx, hk⟩ := h e (by simp)
    obtain ⟨i1, i2⟩ := look_no hz (l := l) fun e he => h e (by simp [he])
    have both : e.key.isStr z = false ∧ e.refKey = false := by
      unfold keyS at hk
      split at hk
      · rename_i y t hy
        cases hk
        refine ⟨?_, by unfold DictEntry.refKey; rw [hy]⟩
        rw [hy]
        show (x == z) = false
        cases q : (x == z) with
        | false => rfl
        | true => exact absurd (beq_iff_eq.mp q ▸ hx) hz
      · cases hk
    refine ⟨?_, by rw [List.any_cons, both.2, i2]; rfl⟩
    rw [List.find?_cons, both.1]
    exact i1
theorem key_no {tb : List (Str × Str)} {k : Str} (h : tb.lookup k = none) : k ∉ tb.map (·.1) := by
  induction tb with
  | nil => simp
  | cons p tb ih =>
    rw [List.lookup_cons] at h
    cases q : (k == p.1) with
    | true => rw [q] at h; cases h
    | false =>
      rw [q] at h
      rw [List.map_cons, List.mem_cons, not_or]
      exact ⟨fun e => by rw [e] at q; simp at q, ih h⟩
def Fent (K : PySem.W.Frag) (mg : Str → Option Value) (a : Addr) (tb : List (Str × Str)) : Prop := ∀ k fn, tb.lookup k = some fn → ∃ f, PySem.W.nsIn K a k = some (some (.ref f)) ∧ mg fn = some (.ref f)
theorem fe_nil {K : PySem.W.Frag} {mg : Str → Option Value} {a : Addr} : Fent K mg a [] := fun _ _ h => by cases h
theorem fe_cons {K : PySem.W.Frag} {mg : Str → Option Value} {a f : Addr} {k fn : Str} {tb : List (Str × Str)} (h : PySem.W.nsIn K a k = some (some (.ref f))) (g : mg fn = some (.ref f)) (r : Fent K mg a tb) : Fent K mg a ((k, fn) :: tb) := fun k' fn' q => by
  rw [List.lookup_cons] at q
  cases z : (k' == k) with
  | true =>
    rw [z] at q
    cases q
    have e := beq_iff_eq.mp z
    subst e
    exact ⟨f, h, g⟩
  | false =>
    rw [z] at q
    exact r k' fn' q
theorem fdic_mk {K : PySem.W.Frag} {w : World} {mg : Str → Option Value} {x : Str} {a : Addr} {es : Array DictEntry} {n : Nat} {tb : List (Str × Str)} (hx : mg x = some (.ref a)) (D : KDict K w a es n) (ky : es.toList.map (fun e => keyS e.key) = (tb.map (·.1)).map some) (ent : Fent K mg a tb) : Fdic K w mg x tb := by
  refine ⟨a, es, n, hx, D, fun z => ?_⟩
  cases hl : tb.lookup z with
  | some fn =>
    obtain ⟨f, h1, h2⟩ := ent z fn hl
    exact ⟨_, h1, rfl, fun fn' q => by cases q; exact ⟨f, rfl, h2⟩⟩
  | none =>
    obtain ⟨h1, h2⟩ := look_no (key_no hl) (l := es.toList) fun e he => by
      have h1 : keyS e.key ∈ es.toList.map (fun e => keyS e.key) := List.mem_map_of_mem he
      rw [ky] at h1
      obtain ⟨x, hx, hx2⟩ := List.mem_map.mp h1
      exact ⟨x, hx, hx2.symm⟩
    refine ⟨none, ?_, rfl, fun fn q => by cases q⟩
    unfold PySem.W.nsIn
    rw [D.at_]
    simp only
    rw [h1, h2]
    rfl
def mNiF (tb : List (Str × Str)) (f : ME) : ME := fun ρ => (asStr (f ρ)).map fun z => .dat (.bl (!(tb.lookup z).isSome))
def mSetF (i : Nat) (tb : List (Str × Str)) (f : ME) : MS := fun ρ => (asStr (f ρ)).bind fun z => (tb.lookup z).map fun fn => .nx (ρ.set i (.fn fn))
def mCallF (i : Nat) (ms : List (Str × Mir)) (ma : MA) : ME := fun ρ => match ρ[i]? with
  | some (.fn x) => (ms.lookup x).bind fun m => (ma ρ).bind fun rs => m (rs.map argN)
  | _ => none
theorem Ok.setF {X : Cx} {H0 H : Hp} {σ : L2.St} {ρ : Rho} {i : Nat} {f : Addr} {x : Str} (h : Ok X H0 σ H ρ) (hm : X.mg x = some (.ref f)) : Ok X H0 (σ.set i (some (.ref f))) H (ρ.set i (.fn x)) := by
  obtain ⟨B, h⟩ := h
  refine ⟨B, h.e0, h.e1, by rw [List.length_set, List.length_set]; exact h.len, fun j c hj => ?_, fun j k xs ys a hj hk sj sk => ?_⟩
  · by_cases e : i = j
    · subst e
      have hl := lt_of_get hj
      rw [List.length_set] at hl
      rw [get_set_eq hj]
      exact ⟨f, by rw [List.getElem?_set_self (by rw [← h.len]; exact hl)], hm⟩
    · rw [List.getElem?_set_ne e] at hj
      rw [List.getElem?_set_ne e]
      exact h.slot j c hj
  · have nj : i ≠ j := fun e => by subst e; exact absurd (get_set_eq hj) (by intro z; cases z)
    have nk : i ≠ k := fun e => by subst e; exact absurd (get_set_eq hk) (by intro z; cases z)
    rw [List.getElem?_set_ne nj] at hj sj
    rw [List.getElem?_set_ne nk] at hk sk
    exact h.inj j k xs ys a hj hk sj sk
section
variable {X : Cx} {W : WX} {a b c e : Expr} {pos p : Pos} {f1 f2 : ME} {es : List Expr} {ma : MA} {x : Str} {k : Nat} {tb : List (Str × Str)}
/-- z not in D -/
theorem t_niF (h : Fdic X.K X.w X.mg x tb) (ha : JE X a f1) (hg : Gl X x := by rfl) (hdb : (x == ("__debug__" : Str)) = false := by decide) (hm : behindInMarks .NotIn (.Name x p) = false := by rfl) : JT X (.Compare a [.NotIn] [.Name x p] pos) (mT (mNiF tb f1)) := by
  obtain ⟨d, es, n, hx, D, F⟩ := h
  obtain ⟨ta, pa, va⟩ := ha
  refine ⟨_, pt_cmpR (op_notIn_kd D) pa (pe_glob (v := .ref d) hg hx rfl hdb) hm, fun H0 σ H ρ r ok h => ev_test (X := X) h fun r hr => ?_⟩
  unfold mNiF at hr
  obtain ⟨z, hz, hr⟩ := Option.map_eq_some_iff.mp hr
  subst hr
  intro H1 e1 Q q
  refine (va _ _ _ _ _ ok (asStr_some hz)).str H1 e1 _ fun H2 e2 => ?_
  obtain ⟨u, n1, n2, _⟩ := F z
  exact ⟨z, u, rfl, rfl, n1, q _ H2 e2 (by rw [n2]; exact .bl _)⟩
/-- y = D[z] -/
theorem s_setF (i : Nat) {y : Str} {pos' ps : Pos} (h : Fdic X.K X.w X.mg x tb) (hN : X.N.Nodup) (hb : JE X b f1) (hg : Gl X x := by rfl) (hdb : (x == ("__debug__" : Str)) = false := by decide) (hs : PlainIx b := by exact fun _ _ => rfl)
    (hi : X.N[i]? = some y := by rfl) (hx : Loc X.env.scope y := by first | exact Or.inl rfl | exact Or.inr rfl) (hsw : swapsWith (.Subscript (.Name x p) b ps) (some (.Name y pos')) pos.line X.env = pure false := by rfl)
    (hf : X.fn y = true ∨ X.env.scope.names.lookup y = some .local := by first | exact .inl rfl | exact .inr rfl | assumption) : JS X W (.Assign [.Name y pos'] (.Subscript (.Name x p) b ps) pos) (mSetF i tb f1) := by
  obtain ⟨d, es, n, hd, D, F⟩ := h
  obtain ⟨tb', pb, vb⟩ := hb
  refine ⟨_, ps_set hN hi hx (pe_ix ix_kdict (pe_glob (v := .ref d) hg hd rfl hdb) pb hs) hsw hf, fun H0 D' σ H ρ fl ok h q => ?_⟩
  unfold mSetF at h
  obtain ⟨z, hz, h⟩ := Option.bind_eq_some_iff.mp h
  obtain ⟨fn, hl, h⟩ := Option.map_eq_some_iff.mp h
  subst h
  refine (vb _ _ _ _ _ ok (asStr_some hz)).str H (Ex.refl H) _ fun H2 e2 => ?_
  obtain ⟨u, n1, n2, n3⟩ := F z
  obtain ⟨f, hu, hfn⟩ := n3 fn hl
  subst hu
  exact ⟨d, z, .ref f, rfl, rfl, ⟨es, n, .ref f, D.at_, D.lit, n1, rfl⟩, q _ _ ((ok.ex e2).setF hfn)⟩
/-- a call of the def that the slot holds -/
theorem x_callF (i : Nat) {ms : List (Str × Mir)} (A : ∀ fn m, ms.lookup fn = some m → ∃ k, Room k X.A ∧ Cal X.prog X.w X.K X.mg X.base fn k m) (ha : JA X (a :: es) ma) (hN : X.N[i]? = some x := by rfl)
    (hv : Vis X.env.scope x := by first | exact Or.inl rfl | exact Or.inr (Or.inl rfl) | exact Or.inr (Or.inr rfl)) (hdb : (x == ("__debug__" : Str)) = false := by decide) (hcd : (x == ("__classdict__" : Str)) = false := by decide)
    (he : starEach (a :: es) X.env = (false, eval a X.env) :: starEach es X.env := by rfl) (hpl : (backTo pos (starEach es X.env)).any (·.1) = false := by rfl) : JE X (.Call (.Name x p) (a :: es) [] pos) (mCallF i ms ma) := by
  obtain ⟨ta, pa, va⟩ := ha
  refine ⟨fun σ H Q => ∃ fn m f, ms.lookup fn = some m ∧ X.mg fn = some (.ref f) ∧ tCallL i f (spM X.K X.mg m) [] E0 ta σ H Q, ⟨fun pins s σ H Q I h => ?_⟩, fun H0 σ H ρ r ok h => ?_⟩
  · obtain ⟨fn, m, f, hl, hm, ht⟩ := h
    obtain ⟨k, hr, f', fd, ps, F, hm', hk, hb⟩ := A fn m hl
    rw [hm] at hm'
    cases hm'
    exact (pe_callL (i := i) (f := f) (sp := spM X.K X.mg m) (dvs := []) (E := E0) F hr hN hv hk hb .nil pass0 pa hdb hcd he hpl).run pins s σ H Q I ht
  · unfold mCallF at h
    split at h
    · rename_i fn hi
      obtain ⟨m, hl, h⟩ := Option.bind_eq_some_iff.mp h
      obtain ⟨rs, hrs, h⟩ := Option.bind_eq_some_iff.mp h
      obtain ⟨B, okB⟩ := id ok
      obtain ⟨f, hs, hm⟩ := okB.slot i _ hi
      intro H1 e1 Q q
      refine ⟨fn, m, f, hl, hm, hs, ?_⟩
      refine va _ _ _ _ _ ok hrs H1 e1 _ fun vs H2 e2 g => ?_
      rw [List.append_nil]
      exact ⟨rs.map argN, r, ⟨g.norm, ok.tbs.ex (e1.trans e2)⟩, h, fun v H' e' gv => q v H' (e2.trans e') (gv.back e2)⟩
    · cases h
theorem fc_nil : ∀ (fn : Str) (m : Mir), ([] : List (Str × Mir)).lookup fn = some m → ∃ k, Room k X.A ∧ Cal X.prog X.w X.K X.mg X.base fn k m := fun _ _ h => by cases h
theorem fc_cons {fn : Str} {m : Mir} {ms : List (Str × Mir)} (h : Cal X.prog X.w X.K X.mg X.base fn k m) (hr : Room k X.A) (r : ∀ (fn : Str) (m : Mir), ms.lookup fn = some m → ∃ k, Room k X.A ∧ Cal X.prog X.w X.K X.mg X.base fn k m) :
    ∀ (fn' : Str) (m' : Mir), ((fn, m) :: ms).lookup fn' = some m' → ∃ k, Room k X.A ∧ Cal X.prog X.w X.K X.mg X.base fn' k m' := fun fn' m' q => by
  rw [List.lookup_cons] at q
  cases z : (fn' == fn) with
  | true =>
    rw [z] at q
    cases q
    have e := beq_iff_eq.mp z
    subst e
    exact ⟨k, hr, h⟩
  | false =>
    rw [z] at q
    exact r fn' m' q
/-! ### (x, y) = f(..), f a def that may refuse -/
def mAsgX (g : MG) (m : MirX) (ma : MA) : MS := fun ρ => match callX m ma ρ with
  | some (.ok (.dat d)) => (g d ρ).map .nx
  | some (.exc c fs) => some (.exc c fs ρ)
  | some (.exc0 c) => some (.exc0 c ρ)
  | _ => none
theorem s_asgX {tg : Expr} {g : MG} {m : MirX} {cp : Pos} (h : CalX X.prog X.w X.K X.mg X.base x k m) (hr : Room k X.A) (tk : L2N.Takes X W) (ha : JA X (a :: es) ma) (hg : JG X tg g) (hgl : Gl X x := by rfl) (hdb : (x == ("__debug__" : Str)) = false := by decide)
    (he : starEach (a :: es) X.env = (false, eval a X.env) :: starEach es X.env := by rfl) (hpl : (backTo cp (starEach es X.env)).any (·.1) = false := by rfl)
    (h1 : List.map (fun x => x.snd) (assignEach [tg] X.env) = [assign tg X.env] := by rfl) (hs : swapsWithSole [tg] (.Call (.Name x p) (a :: es) [] cp) pos.line X.env = pure false := by rfl) (hw : swappedStores [tg] (.Call (.Name x p) (a :: es) [] cp) X.env = pure none := by rfl) : JS X W (.Assign [tg] (.Call (.Name x p) (a :: es) [] cp) pos) (mAsgX g m ma) := by
  obtain ⟨f, fd, ps, F, hm, hk, hb⟩ := h
  obtain ⟨ta, pa, va⟩ := ha
  obtain ⟨t, pg, vg⟩ := hg
  refine ⟨_, ps_asg (pe_callS F hr hgl hm hk hb (fun σ => L2N.passAt tk σ) pa hdb he hpl) pg hs hw h1, fun H0 D σ H ρ fl ok h q => ?_⟩
  unfold mAsgX callX at h
  cases hrs : ma ρ with
  | none => rw [hrs] at h; cases h
  | some rs =>
    rw [hrs, Option.bind_some] at h
    refine va _ _ _ _ _ ok hrs H (Ex.refl H) _ fun vs H2 e2 g => ?_
    cases ho : m (rs.map argN) with
    | none => rw [ho] at h; cases h
    | some o =>
      rw [ho] at h
      refine ⟨rs.map argN, o, ⟨g.norm, ok.tbs.ex e2⟩, ho, outp_of ok e2 q (fun r z => ?_) (fun c fs z => ?_) (fun c z => ?_)⟩
      · subst z
        cases r with
        | dat d =>
          obtain ⟨ρ', h1, h2⟩ := Option.map_eq_some_iff.mp h
          subst h2
          exact fun v H' e' gv => vg _ _ _ _ _ _ _ (ok.ex (e2.trans e')) gv h1 _ fun σ' ok' => q σ' H' ok'
        | new _ => cases h
        | lst _ => cases h
        | ro _ => cases h
      · subst z
        cases h
        rfl
      · subst z
        cases h
        rfl
/-! ### which handler: one class, a pair -/
def mtOr (m1 m2 : Str → Option Bool) : Str → Option Bool := fun c => (m1 c).bind fun u => (m2 c).map fun v => u || v
theorem mt_any1 {mt : Str → Option Bool} {Ch : Addr} (h : ∀ c b C, mt c = some b → X.mg c = some (.ref C) → PySem.W.exmOne X.K (.ref C) (.ref Ch) = some b) : ∀ c b C, mt c = some b → X.mg c = some (.ref C) → PySem.W.exmAny X.K (.ref C) [.ref Ch] = some b := fun c b C e g => by
  have z := h c b C e g
  simp only [PySem.W.exmAny, z, Bool.or_false]
theorem mt_any2 {m1 m2 : Str → Option Bool} {Ch Dh : Addr} (h1 : ∀ c b C, m1 c = some b → X.mg c = some (.ref C) → PySem.W.exmOne X.K (.ref C) (.ref Ch) = some b) (h2 : ∀ c b C, m2 c = some b → X.mg c = some (.ref C) → PySem.W.exmOne X.K (.ref C) (.ref Dh) = some b) :
    ∀ c b C, mtOr m1 m2 c = some b → X.mg c = some (.ref C) → PySem.W.exmAny X.K (.ref C) [.ref Ch, .ref Dh] = some b := fun c b C e g => by
  unfold mtOr at e
  obtain ⟨u, hu, e⟩ := Option.bind_eq_some_iff.mp e
  obtain ⟨v, hv, e⟩ := Option.map_eq_some_iff.mp e
  subst e
  have z1 := h1 c u C hu g
  have z2 := h2 c v C hv g
  simp only [PySem.W.exmAny, z1, z2, Bool.or_false]
end
end
end Tl

namespace Tl
open PySem PySem.Spec PyProof.Rows L2 Evl
noncomputable section
/-! ### x is True, x is False, x a truth value -/
def tIsB (c : Bool) (ta : TE) : TE := fun σ H Q => ta σ H fun x H1 => ∃ b, x = .bl b ∧ Q (.bl (b == c)) H1
def mIsB (c : Bool) (f : ME) : ME := fun ρ => (asBl (f ρ)).map fun b => .dat (.bl (b == c))
section
variable {X : Cx} {a : Expr} {pos : Pos} {f1 : ME} {ta : TE} {c : Bool}
theorem pc_isB {j pos'} (ha : PE X a ta) : PC X .Is a (.Constant (.bool c) j pos') (tIsB c ta) := by
  refine ⟨fun pins s σ H Q I h => ?_⟩
  refine thn (ha.run pins s σ H _ I h) fun v s1 ⟨x, H1, I1, r1, b, hx, q1⟩ => ?_
  subst hx
  cases r1
  refine wpAny_Constant_bool (wpAny_is_plain rfl ⟨.bl _, H1, I1, ?_, q1⟩)
  show Value.bool _ = Value.bool _
  cases b <;> cases c <;> rfl
theorem t_isB {j pos'} (ha : JE X a f1) : JT X (.Compare a [.Is] [.Constant (.bool c) j pos'] pos) (mT (mIsB c f1)) := by
  obtain ⟨ta, pa, va⟩ := ha
  refine ⟨_, pt_cmp (pc_isB pa), fun H0 σ H ρ k ok h => ?_⟩
  have h := asBl_some h
  unfold mIsB at h
  obtain ⟨b, hb, h⟩ := Option.map_eq_some_iff.mp h
  cases h
  exact et_B fun H1 e1 Q q => va _ _ _ _ _ ok (asBl_some hb) H1 e1 _ fun v H2 e2 gv => by
    have gv : Den X.K H2 v (.bl b) := gv
    cases gv
    exact ⟨b, rfl, q H2 e2⟩
theorem x_isB {j pos'} (ha : JE X a f1) : JE X (.Compare a [.Is] [.Constant (.bool c) j pos'] pos) (mIsB c f1) := by
  obtain ⟨ta, pa, va⟩ := ha
  refine ⟨_, pe_cmp (pc_isB pa), fun H0 σ H ρ k ok h => ?_⟩
  unfold mIsB at h
  obtain ⟨b, hb, h⟩ := Option.map_eq_some_iff.mp h
  cases h
  exact fun H1 e1 Q q => va _ _ _ _ _ ok (asBl_some hb) H1 e1 _ fun v H2 e2 gv => by
    have gv : Den X.K H2 v (.bl b) := gv
    cases gv
    exact ⟨b, rfl, q _ H2 e2 (.bl _)⟩
end
end
end Tl

namespace Tl
open PySem PySem.Spec PyProof.Rows L2 Evl
noncomputable section
/-! ### all(e for t in xs): the generator's own frame as a frame of the layer, so that e may be anything -/
abbrev gnCx (X : Cx) (A' : Around) (N : List Str) (ce : Env) (s4 : Shared) (H4 : Hp) (fp : List Addr) : Cx :=
  { prog := X.prog, w := X.w, K := X.K, mg := X.mg, base := X.base, A := A', N := N, s_0 := s4, H_0 := H4, env := ce, outer := X.stack, stack := ce :: X.stack, ex := fp, fn := fun _ => true, calm := true, pn := [], xe := fun _ _ => False }
section
variable {X : Cx} {pins : List (Addr × Obj)} {σ : L2.St} {H4 : Hp} {s4 : Shared} {A' : Around} {N : List Str} {scope : Scope} {code : Value} {fp : List Addr}
theorem frs_there (I : Inv X pins σ H4 s4) {b : Addr} (hb : b ∈ frs X.stack) : b < s4.heap.objs.size := by
  obtain ⟨_, o, ho, _⟩ := I.stack.mem hb
  exact Heap.lt_size ho
theorem fp_there (I : Inv X pins σ H4 s4) (ho : ∀ b ∈ fp, ∃ o, s4.heap.get? b = some o ∧ ∀ v, o.data ≠ .cell v) {b : Addr} (hb : b ∈ fp) : b < s4.heap.objs.size := by
  obtain ⟨o, h, _⟩ := ho b hb
  exact Heap.lt_size h
theorem fp_frs (I : Inv X pins σ H4 s4) (hf : ∀ b ∈ fp, FpOk X pins H4 b) {b : Addr} (hb : b ∈ fp) : b ∉ frs X.stack := fun z => by
  obtain ⟨_, h2, h3, _⟩ := hf b hb
  rcases List.mem_cons.mp (I.stkSub b z) with q | q
  · exact h2 q
  · exact h3 q
theorem gn_ok (I : Inv X pins σ H4 s4) (hk : scope.kind = .function) (hnc : ∀ x, scope.names.lookup x ≠ some .cell ∧ scope.names.lookup x ≠ some .free) (hf : ∀ b ∈ fp, FpOk X pins H4 b)
    (ho : ∀ b ∈ fp, ∃ o, s4.heap.get? b = some o ∧ ∀ v, o.data ≠ .cell v) (hA : A'.handled = none) (hfr : A'.frames = some (genEnv scope [] s4.heap.objs.size code builtinsNs X.env :: X.stack)) :
    (gnCx X A' N (genEnv scope [] s4.heap.objs.size code builtinsNs X.env) s4 H4 fp).Ok where
  mod := I.ok.mod
  kind := hk
  glob := I.ok.glob
  blt := rfl
  above := Nat.le_refl _
  inj := fun x y c h _ => by cases h
  has := fun x h => by
    rcases h with h | h
    · exact absurd h (hnc x).1
    · exact absurd h (hnc x).2
  cab := fun x c _ h => by cases h
  hd := fun _ => hA
  frames := hfr
  stk := .inr ⟨rfl, rfl⟩
  exf := fun b hb => ⟨Nat.ne_of_lt (fp_there I ho hb), fun x c h => by cases h⟩
  bs := I.bs
  bsz := Nat.le_trans I.ok.bsz I.sz
  noex := fun b o e hb => by
    obtain ⟨_, _, _, h4, _⟩ := hf b hb
    rcases h4 with q | q
    · exact I.ok.noex b o e q
    · exact absurd (Nat.lt_of_lt_of_le (Heap.lt_size e) I.ok.bsz) (Nat.not_lt.mpr q)
  exfs := fun b hb => fp_frs I hf hb
  funs := I.stack
  frf := I.stkFree
theorem gn_inv (I : Inv X pins σ H4 s4) (ok : (gnCx X A' N (genEnv scope [] s4.heap.objs.size code builtinsNs X.env) s4 H4 fp).Ok) {h5 : Heap} {gs : GenState} {tk : Nat} {a : Addr} {ob : Obj} {m : Str → Option Value} (hb : gs.bare = true)
    (k : ∀ b o, s4.heap.get? b = some o → h5.get? b = some o) (hn : h5.Ns s4.heap.objs.size m) (ha : h5.get? a = some ob) (hlt : s4.heap.objs.size < a) (hc : ∀ v, ob.data ≠ .cell v) :
    Inv (gnCx X A' N (genEnv scope [] s4.heap.objs.size code builtinsNs X.env) s4 H4 fp) [(a, ob)] (List.replicate N.length none) H4 { s4 with gens := s4.gens.push gs, toks := tk, heap := h5 } where
  ok := ok
  os := rfl
  bare := I.bare.push hb
  base := Un.kept k
  loc := ⟨m, hn, fun i x v _ h => by
    rw [List.getElem?_replicate] at h
    split at h <;> cases h⟩
  cell := fun x c h => by cases h
  free := I.hok.fresh (Nat.le_refl _)
  freeC := fun x c h => by cases h
  pin := fun p hp => by
    rw [List.nil_append, List.mem_singleton] at hp
    subst hp
    exact ⟨ha, I.hok.fresh (Nat.le_of_lt hlt), (Nat.ne_of_lt hlt).symm, fun z => absurd (frs_there I z) (Nat.not_lt.mpr (Nat.le_of_lt hlt)), hc⟩
  hok := I.hok.kept k
  len := List.length_replicate
/-- back in the caller's frame -/
theorem gn_back (I : Inv X pins σ H4 s4) (hf : ∀ b ∈ fp, FpOk X pins H4 b) {ce : Env} {pins' : List (Addr × Obj)} {σ' : L2.St} {H' : Hp} {s' : Shared} (J : Inv (gnCx X A' N ce s4 H4 fp) pins' σ' H' s') : Inv X pins σ H' s' := by
  have os := J.os
  have bare := J.bare
  have un := J.base
  have hok := J.hok
  obtain ⟨hh, g, d, t, os'⟩ := s'
  obtain rfl : os' = s4.os := os
  exact I.call (h' := hh) (g' := g) (d' := d) (t' := t) (ch := fp) un hok bare fun b hb => by
    obtain ⟨_, h2, _, h4, h5, h6⟩ := hf b hb
    exact ⟨h4, h2, h5, h6⟩
end
end
end Tl

namespace Tl
open PySem PySem.Spec PyProof.Rows L2 Evl
noncomputable section
/-- whether all elements are true, as far as they are asked -/
def allM (g : MG) (f : ME) : List D → Rho → Option Bool
  | [], _ => some true
  | d :: ds, ρ => (g d ρ).bind fun ρ1 => (asBl (f ρ1)).bind fun b => if b = true then allM g f ds ρ1 else some false
/-- ahead of turn i in the generator's frame Y -/
def GnP (Y : Cx) (H4 : Hp) (pin : Addr × Obj) (fp : List Addr) (tn : Nat → Heap → Prop) (g : MG) (f : ME) (ds : List D) (res : Bool) (i : Nat) (s : Shared) : Prop :=
  ∃ ρ σ' H', Inv Y [pin] σ' H' s ∧ Ok Y H4 σ' H' ρ ∧ tn i s.heap ∧ (∀ b ∈ fp, H' b = none) ∧ allM g f (ds.drop i) ρ = some res
/-- behind it -/
def GnE (Y : Cx) (H4 : Hp) (pin : Addr × Obj) (s : Shared) : Prop := ∃ ρ σ' H', Inv Y [pin] σ' H' s ∧ Ok Y H4 σ' H' ρ
def gnY (Y : Cx) (H4 : Hp) (pin : Addr × Obj) (fp : List Addr) (tn : Nat → Heap → Prop) (g : MG) (f : ME) (ds : List D) (res : Bool) : Protocol := fun m _ v s kap =>
  ∃ i b, i + m + 1 = ds.length ∧ v = .bool b ∧ GnE Y H4 pin s ∧ (b = false → res = false) ∧ (b = true → GnP Y H4 pin fp tn g f ds res (i + 1) s ∧ ∀ s'', GnP Y H4 pin fp tn g f ds res (i + 1) s'' → kap (.send .none) s'')
def gnR (Y : Cx) (H4 : Hp) (pin : Addr × Obj) (res : Bool) : GenEnd := fun _ _ r s => r = .ok .next ∧ (res = true ∧ GnE Y H4 pin s)
section
variable {Y : Cx} {H4 H0' : Hp} {pin : Addr × Obj} {fp : List Addr} {it : Addr} {tn : Nat → Heap → Prop} {J : It} {g : MG} {f : ME} {ds : List D} {res : Bool} {tg elt iter : Expr} {scope : Scope} {pos : Pos} {B : Around} {tgt : TG} {te : TE}
theorem gn_seg (hh : B.handled = none) (T : Turn Y.prog Y.w Y.K tg J fp it tn) (D : ItD Y.K H0' J ds) (e0 : Ex H0' H4)
    (hc : Y.calm = true) (hx : Y.xe = fun _ _ => False) (hco : Y.env.scope.isCoroutine = false)
    (hf : ∀ b ∈ fp, FpOk Y [pin] Y.H_0 b)
    (hA : Y.A = B.over (.compLoop (.GeneratorExp elt [⟨tg, iter, [], 0⟩] scope pos) 0 (.ref it) .none Y.env) [])
    (pg : PG Y tg tgt) (vg : ∀ H0 σ H ρ v d ρ', Ok Y H0 σ H ρ → Den Y.K H v d → g d ρ = some ρ' → ∀ Q : L2.St → Hp → Prop, (∀ σ', Ok Y H0 σ' H ρ' → Q σ' H) → tgt v σ H Q)
    (pe : PE Y elt te) (ve : ∀ H0 σ H ρ r, Ok Y H0 σ H ρ → f ρ = some r → EvR Y.K te σ H r) :
    ∀ (k i : Nat) (s₀ s : Shared), ds.length - i = k → i ≤ ds.length → GnP Y H4 pin fp tn g f ds res i s →
      Seg (model Y.prog Y.w) B (gnR Y H4 pin res) (gnY Y H4 pin fp tn g f ds res) k s₀ (.compLoop (.GeneratorExp elt [⟨tg, iter, [], 0⟩] scope pos) 0 (.ref it) .none Y.env)
        ((model Y.prog Y.w).den (.compLoop (.GeneratorExp elt [⟨tg, iter, [], 0⟩] scope pos) 0 (.ref it) .none Y.env)) [] s := by
  have stat : ∀ {H' : Hp}, (∀ b ∈ fp, H' b = none) → ∀ b ∈ fp, FpOk Y [pin] H' b := fun hn b hb => ⟨hn b hb, (hf b hb).2⟩
  intro k
  induction k with
  | zero =>
    rintro i s₀ s hk hi ⟨ρ, σ', H', I, ok, st, fr, hm⟩
    have e : i = ds.length := by omega
    subst e
    rw [List.drop_length] at hm
    cases hm
    show Seg _ B _ _ _ s₀ _ ((compTurn (.GeneratorExp elt [⟨tg, iter, [], 0⟩] scope pos) 0 (.ref it) .none Y.env).onRaise (leaving Y.env)) [] s
    rw [compTurn_gen, Sem.onRaise_eq_wrap]
    refine seg_bind_wrap (wpAny_standAt ?_)
    refine seg_bind_wrap ?_
    rw [← hA]
    refine wpAny_mono (T.done Y rfl rfl rfl hc _ _ s σ' H' (fun _ _ => False) I (stat fr) st (D.stop _ H' (e0.trans ok.base) (Nat.le_refl _))) (fun r s1 q => ?_) fun _ _ z => z.elim
    obtain ⟨rfl, I1⟩ := q
    exact seg_end (.ok .next) ⟨rfl, rfl, ρ, σ', H', I1, ok⟩
  | succ k ih =>
    rintro i s₀ s hk hi ⟨ρ, σ', H', I, ok, st, fr, hm⟩
    have hlt : i < ds.length := by omega
    show Seg _ B _ _ _ s₀ _ ((compTurn (.GeneratorExp elt [⟨tg, iter, [], 0⟩] scope pos) 0 (.ref it) .none Y.env).onRaise (leaving Y.env)) [] s
    rw [compTurn_gen, Sem.onRaise_eq_wrap]
    refine seg_bind_wrap (wpAny_standAt ?_)
    refine seg_bind_wrap ?_
    rw [← hA]
    refine wpAny_mono (T.item Y rfl rfl rfl hc i _ s σ' H' (fun _ _ => False) I (stat fr) st (D.go i H' (e0.trans ok.base) hlt)) (fun r s1 q => ?_) fun _ _ z => z.elim
    obtain ⟨u, rfl, q⟩ := q
    refine seg_bind_wrap ?_
    rw [← hA]
    refine wpAny_mono q (fun _ s2 q => ?_) fun _ _ z => z.elim
    obtain ⟨x, H2, I2, r2, y2, st2, fr2⟩ := q
    obtain ⟨e2, d, hd, hdn⟩ := D.yld i H' x H2 (e0.trans ok.base) hlt y2
    have hdrop : ds.drop i = d :: ds.drop (i + 1) := by
      rw [List.drop_eq_getElem_cons hlt]
      congr 1
      rw [List.getElem?_eq_getElem hlt] at hd
      exact Option.some.inj hd
    rw [hdrop] at hm
    unfold allM at hm
    obtain ⟨ρ1, hg1, hm⟩ := Option.bind_eq_some_iff.mp hm
    obtain ⟨b, hb, hm⟩ := Option.bind_eq_some_iff.mp hm
    have I3 := I2.pinned (stat fr2) (T.obj _ _ st2)
    refine seg_bind_wrap ?_
    rw [← hA]
    refine wpAny_mono (pg.run _ s2 σ' H2 x u _ I3 r2 (vg _ _ _ _ _ _ _ (ok.ex e2) hdn hg1 (fun σ3 H3 => H3 = H2 ∧ Ok Y H4 σ3 H3 ρ1) fun σ3 ok3 => ⟨rfl, ok3⟩)) (fun _ s3 q => ?_) fun _ _ z => by rw [hx] at z; exact z.elim
    obtain ⟨σ3, H3, I4, rfl, ok3⟩ := q
    refine seg_bind_wrap ?_
    refine wpAny_pure ?_
    simp only [if_true]
    have hy : ∀ v, yieldOut Y.env v = yieldValue v := fun v => by simp only [yieldOut, hco, Bool.false_eq_true, if_false]
    simp only [hy]
    rw [Sem.bind_eq_wrap', Sem.bind_eq_wrap', Sem.wrap_wrap, Sem.wrap_wrap]
    refine seg_wrap ?_
    rw [← hA]
    have bl := asBl_some hb
    refine wpAny_mono (pe.run _ s3 σ3 H3 (fun v H5 => v = .bl b ∧ Ex H3 H5) I4 (ve _ _ _ _ _ ok3 bl H3 (Ex.refl H3) _ fun v H5 e5 gv => ⟨by
      have gv : Den Y.K H5 v (.bl b) := gv
      cases gv
      rfl, e5⟩)) (fun y s4 q => ?_) fun _ _ z => by rw [hx] at z; exact z.elim
    obtain ⟨v, H5, I5, rv, hv, e5⟩ := q
    subst hv
    obtain rfl : y = Value.bool b := rv
    have ok5 := ok3.ex e5
    have I6 := I5.unpinned
    refine seg_at (seg_yield rfl rfl rfl ⟨i, b, by omega, rfl, ⟨ρ1, σ3, H5, I6, ok5⟩, fun z => ?_, fun z => ?_⟩)
    · subst z
      cases hm
      rfl
    · subst z
      have hm : allM g f (ds.drop (i + 1)) ρ1 = some res := hm
      refine ⟨⟨ρ1, σ3, H5, I6, ok5, T.keep _ _ _ st2 fun b hb o e => (I5.pin (b, o) (List.mem_append_right _ (List.mem_append_right _ (mem_pinsAt hb e)))).1, fun b hb => ?_, hm⟩, fun s'' P => ?_⟩
      · obtain ⟨o, e, d⟩ := T.obj _ _ st2 b hb
        exact (I5.pin (b, o) (List.mem_append_right _ (List.mem_append_right _ (mem_pinsAt hb e)))).2.1
      · exact seg_again rfl (ih (i + 1) s'' s'' (by omega) hlt P)
end
end
end Tl

namespace Tl
open PySem PySem.Spec PyProof.Rows L2 Evl
noncomputable section
section
variable {Y : Cx} {H4 H0' : Hp} {pin : Addr × Obj} {fp : List Addr} {it : Addr} {tn : Nat → Heap → Prop} {J : It} {g : MG} {f : ME} {ds : List D} {res : Bool} {tg elt iter : Expr} {scope : Scope} {pos : Pos} {B : Around} {tgt : TG} {te : TE}
theorem inv_gens {X : Cx} {pins : List (Addr × Obj)} {σ : L2.St} {H : Hp} {s : Shared} (I : Inv X pins σ H s) {gs : Array GenState} (hb : AllBare gs) : Inv X pins σ H { s with gens := gs } := ⟨I.ok, I.os, hb, I.base, I.loc, I.cell, I.free, I.freeC, I.pin, I.hok, I.len⟩
theorem bare_set {a : Array GenState} {i : Nat} {x : GenState} (h : AllBare a) (hx : x.bare = true) : AllBare (a.setIfInBounds i x) := fun y hy => by
  rcases Array.mem_or_eq_of_mem_setIfInBounds hy with q | q
  · exact h y q
  · rw [q]; exact hx
theorem GnP.gen {i : Nat} {s : Shared} {n : Nat} {x : GenState} (P : GnP Y H4 pin fp tn g f ds res i s) (hx : x.bare = true) : GnP Y H4 pin fp tn g f ds res i (s.setGen n x) := by
  obtain ⟨ρ, σ', H', I, r⟩ := P
  exact ⟨ρ, σ', H', inv_gens I (bare_set I.bare hx), r⟩
theorem GnE.gen {s : Shared} {n : Nat} {x : GenState} (P : GnE Y H4 pin s) (hx : x.bare = true) : GnE Y H4 pin (s.setGen n x) := by
  obtain ⟨ρ, σ', H', I, r⟩ := P
  exact ⟨ρ, σ', H', inv_gens I (bare_set I.bare hx), r⟩
theorem gn_start (hh : B.handled = none) (T : Turn Y.prog Y.w Y.K tg J fp it tn) {k : Nat} {s₀ s : Shared} (st : tn 0 s.heap)
    (loop : Seg (model Y.prog Y.w) B (gnR Y H4 pin res) (gnY Y H4 pin fp tn g f ds res) k s₀ (.compLoop (.GeneratorExp elt [⟨tg, iter, [], 0⟩] scope pos) 0 (.ref it) .none Y.env)
        ((model Y.prog Y.w).den (.compLoop (.GeneratorExp elt [⟨tg, iter, [], 0⟩] scope pos) 0 (.ref it) .none Y.env)) [] s) :
    Seg (model Y.prog Y.w) B (gnR Y H4 pin res) (gnY Y H4 pin fp tn g f ds res) k s₀ (.compStart (.GeneratorExp elt [⟨tg, iter, [], 0⟩] scope pos) 0 (.ref it) .none Y.env)
        ((model Y.prog Y.w).den (.compStart (.GeneratorExp elt [⟨tg, iter, [], 0⟩] scope pos) 0 (.ref it) .none Y.env)) [] s := by
  show Seg _ B _ _ _ s₀ _ ((compStart (.GeneratorExp elt [⟨tg, iter, [], 0⟩] scope pos) 0 (.ref it) .none Y.env).onRaise (leaving Y.env)) [] s
  unfold compStart
  rw [Sem.onRaise_eq_wrap]
  show Seg _ B _ _ _ s₀ _ ((ask >>= _).wrap _ _ _ _) [] s
  refine seg_bind_wrap (wpAny_askSetting ?_)
  split
  · exact seg_again rfl loop
  · first
      | exact seg_bind_wrap (wpAny_rule (seg_bind_wrap (wpAny_standAt (seg_bind_wrap (T.self _ 0 s _ _ st (seg_again rfl loop))))))
      | (refine seg_bind_wrap (wpAny_rule ?_); show Seg _ B _ _ _ s₀ _ ((standAt iter.pos >>= _).wrap _ _ _ _) [] s; exact seg_bind_wrap (wpAny_standAt (seg_bind_wrap (T.self _ 0 s _ _ st (seg_again rfl loop)))))
/-- the generator at turn i, its state at number n -/
structure GnAt (Y : Cx) (B : Around) (H4 : Hp) (a : Addr) (ob : Obj) (n : Nat) (fp : List Addr) (tn : Nat → Heap → Prop) (g : MG) (f : ME) (ds : List D) (res : Bool) (i : Nat) (s : Shared) : Prop where
  le : i ≤ ds.length
  P : GnP Y H4 (a, ob) fp tn g f ds res i s
  go : ∃ gs, s.gens[n]? = some gs ∧ ∀ s'', GnP Y H4 (a, ob) fp tn g f ds res i s'' → gs.Goes (model Y.prog Y.w) B (gnR Y H4 (a, ob) res) (gnY Y H4 (a, ob) fp tn g f ds res) (ds.length - i) (.send .none) s''
variable {a : Addr} {ob : Obj} {n : Nat} {A1 : Around}
theorem gn_next {i : Nat} {s : Shared} (hh : A1.handled = none) (hroom : A1.depth < recursionLimit) (hg : ∀ s : Shared, s.heap.get? a = some ob → s.heap.IsGen a n) (At : GnAt Y A1.in1 H4 a ob n fp tn g f ds res i s) {Q : Option Value → Shared → Prop} {E : Value → Shared → Prop}
    (q0 : ∀ s', GnE Y H4 (a, ob) s' → res = true → Q none s')
    (q1 : ∀ b s', GnE Y H4 (a, ob) s' → (b = false → res = false) → (b = true → i < ds.length ∧ GnAt Y A1.in1 H4 a ob n fp tn g f ds res (i + 1) s') → Q (some (.bool b)) s') :
    wpAny (model Y.prog Y.w) A1 (pyNext (.ref a)) Q E s := by
  obtain ⟨hle, P, gs, hgs, hgo⟩ := At
  have ob_at : s.heap.get? a = some ob := by
    obtain ⟨_, _, _, I, _⟩ := P
    exact (I.pin (a, ob) (List.mem_append_right _ (List.mem_singleton.mpr rfl))).1
  have hl : s.heap.NoLimit := by
    obtain ⟨_, _, _, I, _⟩ := P
    exact I.nolimit
  have hn : n + 1 ≤ s.gens.size := by
    rcases Nat.lt_or_ge n s.gens.size with h | h
    · exact h
    · rw [Array.getElem?_eq_none h] at hgs; cases hgs
  refine GenW.wpAny_gsz hn ?_
  refine wpAny_pyNext_genexpQ (P := fun _ _ s₁ => res = true ∧ GnE Y H4 (a, ob) s₁) hh hl hroom (hg s ob_at) hgs (hgo _ (P.gen rfl)) (fun v s₁ gs' hb hv => ?_) fun s₁ hp h' hk => ?_
  · intro hsz
    obtain ⟨i', b, hi, rfl, hE, hbf, hbt⟩ := hv
    refine q1 b _ (hE.gen hb) hbf fun z => ?_
    obtain ⟨hP1, hkap⟩ := hbt z
    by_cases hlt : i < ds.length
    · obtain rfl : i' = i := by omega
      refine ⟨hlt, hlt, hP1.gen hb, gs', ?_, fun s'' P2 => ?_⟩
      · rw [GenW.setGen_size] at hsz
        show (s₁.gens.setIfInBounds n gs')[n]? = _
        rw [Array.getElem?_setIfInBounds_self_of_lt (by omega)]
      · have w := hkap s'' P2
        obtain ⟨m, hm⟩ : ∃ m, ds.length - i' = m + 1 := ⟨ds.length - i' - 1, by omega⟩
        rw [hm] at w
        rw [show ds.length - (i' + 1) = m by omega]
        exact w
    · have w := hkap _ hP1
      rw [show ds.length - i = 0 by omega] at w
      exact w.elim
  · intro _
    obtain ⟨hr, ρ, σ', H', I, ok⟩ := hp
    exact q0 _ ⟨ρ, σ', H', inv_gens (I.kept (t' := s₁.toks) hk) (bare_set I.bare rfl), ok⟩ hr
theorem gn_all (hh : A1.handled = none) (hroom : A1.depth < recursionLimit) (hg : ∀ s : Shared, s.heap.get? a = some ob → s.heap.IsGen a n) {R : Result → Shared → Prop} (hR : ∀ s', GnE Y H4 (a, ob) s' → R (.ok (.ret (.bool res))) s') :
    ∀ (k i : Nat) (s : Shared), ds.length - i = k → GnAt Y A1.in1.in1 H4 a ob n fp tn g f ds res i s → codeAny (model Y.prog Y.w) A1 (.builtin "all.loop" ⟨[.ref a], []⟩) R s := by
  intro k
  induction k with
  | zero =>
    intro i s hk At
    refine codeAny_builtin F.entry_all_loop ?_
    rw [Around.under_plainId F.plain_all_loop _]
    show wpAny _ A1.in1 (pyNext (.ref a) >>= _) _ _ s
    refine wpAny_bind (gn_next (A1 := A1.in1) hh hroom hg At (fun s' hE hr => ?_) fun b s' hE hf ht => ?_)
    · subst hr
      exact wpAny_bind (wpAny_rule (wpAny_pure (hR s' hE)))
    · refine wpAny_bind (wpAny_holding (wpAny_truthy_bool ?_))
      refine wpAny_bind (wpAny_letGo ?_)
      cases b with
      | true => exact absurd (ht rfl).1 (by omega)
      | false =>
        have e := hf rfl
        subst e
        simp only [Bool.false_eq_true, if_false]
        exact wpAny_bind (wpAny_rule (wpAny_pure (hR s' hE)))
  | succ k ih =>
    intro i s hk At
    refine codeAny_builtin F.entry_all_loop ?_
    rw [Around.under_plainId F.plain_all_loop _]
    show wpAny _ A1.in1 (pyNext (.ref a) >>= _) _ _ s
    refine wpAny_bind (gn_next (A1 := A1.in1) hh hroom hg At (fun s' hE hr => ?_) fun b s' hE hf ht => ?_)
    · subst hr
      exact wpAny_bind (wpAny_rule (wpAny_pure (hR s' hE)))
    · refine wpAny_bind (wpAny_holding (wpAny_truthy_bool ?_))
      refine wpAny_bind (wpAny_letGo ?_)
      cases b with
      | true =>
        simp only [if_true]
        exact wpAny_pure ⟨plainId_quiet F.plain_all_loop _, ih (i + 1) s' (by omega) (ht rfl).2⟩
      | false =>
        have e := hf rfl
        subst e
        simp only [Bool.false_eq_true, if_false]
        exact wpAny_bind (wpAny_rule (wpAny_pure (hR s' hE)))
end
end
end Tl

namespace Tl
open PySem PySem.Spec PyProof.Rows L2 Evl
noncomputable section
/-- the scope of a generator expression without free names -/
structure GnS (env : Env) (scope : Scope) : Prop where
  kind : scope.kind = .function
  co : scope.isCoroutine = false
  nc : ∀ y ∈ scope.names, y.2 ≠ .cell ∧ y.2 ≠ .free
  dot : scope.names.lookup (".0" : Str) = some NameKind.local
  clo : closureFor scope env = pure []
theorem lookup_in {α : Type} {x : Str} {v : α} : ∀ {l : List (Str × α)}, l.lookup x = some v → ∃ y ∈ l, y.2 = v
  | [], h => by cases h
  | (k, u) :: l, h => by
    rw [List.lookup_cons] at h
    split at h
    · cases h; exact ⟨_, List.mem_cons_self, rfl⟩
    · obtain ⟨y, h1, h2⟩ := lookup_in h
      exact ⟨y, List.mem_cons_of_mem _ h1, h2⟩
theorem GnS.lk {env : Env} {scope : Scope} (S : GnS env scope) (x : Str) : scope.names.lookup x ≠ some .cell ∧ scope.names.lookup x ≠ some .free :=
  ⟨fun h => by obtain ⟨y, h1, h2⟩ := lookup_in h; exact (S.nc y h1).1 h2, fun h => by obtain ⟨y, h1, h2⟩ := lookup_in h; exact (S.nc y h1).2 h2⟩
/-- what is asked of the element and the target, whatever the generator's frame is -/
def GnEl (X : Cx) (k : Nat) (N : List Str) (scope : Scope) (tg elt : Expr) (g : MG) (f : ME) : Prop :=
  ∀ (A' : Around) (code : Value) (C : Addr) (s4 : Shared) (H4 : Hp) (fp : List Addr), Room k A' → JG (gnCx X A' N (genEnv scope [] C code builtinsNs X.env) s4 H4 fp) tg g ∧ JE (gnCx X A' N (genEnv scope [] C code builtinsNs X.env) s4 H4 fp) elt f
def tAllE (X : Cx) (P : Addr) (wi : TI) (g : MG) (f : ME) (n : Nat) : TE := fun σ H Q => wi σ H fun J H1 => ∃ H0' ds res, ItD X.K H0' J ds ∧ Ex H0' H1 ∧ GxR.TabG H1 P ∧ Tbs X.K X.mg H1 ∧ allM g f ds (List.replicate n .un) = some res ∧ ∀ H2, Ex H1 H2 → Q (.bl res) H2
section
variable {X : Cx} {pins : List (Addr × Obj)} {σ : L2.St} {H : Hp} {s : Shared}
theorem pe_allE {c P : Addr} {elt iter tg : Expr} {p pos gpos : Pos} {scope : Scope} {g : MG} {f : ME} {wi : TI} {k : Nat} {N : List Str} (hr : Room (k + 1) X.A) (hg : Gl X "all") (hm : X.mg "all" = none) (TB : GxR.TabB X.base X.mg c P) (hcode : X.env.code = .ref c)
    (S : GnS X.env scope) (hi : PI X tg iter wi) (hel : GnEl X k N scope tg elt g f) (hs : ∀ v, genFold iter X.env v = pure v)
    (he : starEach [.GeneratorExp elt [⟨tg, iter, [], 0⟩] scope gpos] X.env = (false, eval (.GeneratorExp elt [⟨tg, iter, [], 0⟩] scope gpos) X.env) :: starEach [] X.env := by rfl) :
    PE X (.Call (.Name "all" p) [.GeneratorExp elt [⟨tg, iter, [], 0⟩] scope gpos] [] pos) (tAllE X P wi g f N.length) := by
  constructor
  intro pins s σ H Q I h
  refine wpAny_Call_Name_kw (ld_blt I hg hm (show bootBuiltins "all" = some (.builtin "all") by decide +kernel) (PyProof.Rows.callWith_builtin1 ?_ he (by rfl)))
  rw [he]
  refine Calls.spliced_cons (rest := backTo pos (starEach [] X.env)) ?_
  refine wpAny_GeneratorExp_make S.co S.clo (fun y hy => (S.nc y hy).1) S.dot S.kind (by have := hr.dp; omega) ?_ hs
  refine thn (hi.run pins s σ H _ I h) fun xv sa h1 => thn h1 fun itv s2 h2 => ?_
  obtain ⟨it, fp, tn, J, H1, rfl, I2, T, st2, f2, H0', ds, res, D, e0, ⟨qs, tP, tk⟩, tbs, hall, hQ⟩ := h2
  have gP : s2.heap.get? P = some { cls := .none, data := .fields qs } := I2.hok P _ tP
  have cd : PySem.W.CodeHd s2.heap c P := TB.code.keeps fun b u e => I2.bk b u e
  refine ⟨I2.nolimit, ?_⟩
  have made : wpAny (model X.prog X.w) X.A (genexprCode X.env gpos (X.env.qual ++ "<genexpr>") scope) (fun _ z => ∃ hc tk' more, z = { s2 with heap := hc, toks := tk' } ∧ Heap.ExtBut P s2.heap hc ∧ s2.heap.objs.size ≤ hc.objs.size ∧
      hc.get? P = some { cls := .none, data := .fields (qs ++ more) } ∧ TriplesOk (qs ++ more).toList) X.xe s2 := by
    cases hf : codeAmong gpos qs.toList with
    | some cv => exact wpAny_genexprCode_hit hcode (cd.code gP tk) hf ⟨_, s2.toks, #[], rfl, Heap.ExtBut.refl _ _, Nat.le_refl _, by simpa using gP, by simpa using tk⟩
    | none =>
      refine wpAny_genexprCodeX hcode (cd.code gP tk) (cd.tab gP) hf fun c' hc tk' hx l1 l2 isC _ isT _ => ?_
      obtain ⟨_, _, _, _, _, _, _, _, _, _, _, _, _, _, _, _, _, _, _, htr, _⟩ := isC
      exact ⟨_, _, _, rfl, hx, Nat.le_trans l1 (Nat.le_of_lt l2), isT.2, htr⟩
  refine thn made fun code z hz => ?_
  obtain ⟨hc, tk', more, rfl, hx, hle, gP3, ht3⟩ := hz
  obtain ⟨bm, ob0, e1, e2, e3, e4, e5, e6, e7, e8⟩ := TB.bm
  have keep : ∀ b u, b ≠ P → s2.heap.get? b = some u → hc.get? b = some u := fun b u hb e => hx b u hb e
  have I3 := GxR.inv_tab (more := more) (h' := hc) (g' := s2.gens) (d' := s2.drawn) (t' := tk') I2 tP keep gP3 I2.bare
  have gns : s2.heap.Ns mainGlobals X.mg := I2.mod.glob.keeps I2.bk
  refine wpAny_builtinsFor (m := X.mg) (by rw [I2.ok.glob]; exact gns.extBut hx TB.gP) e1 e2 (keep _ _ e4 (I2.bk _ _ e5)) e6 e7 e8 ?_
  have fr3 : ∀ b ∈ fp, b ≠ P := fun b hb z => by
    have := (f2 b hb).1
    rw [z, tP] at this
    cases this
  have f3 : ∀ b ∈ fp, FpOk X pins (upd H1 P (.tbl (qs ++ more))) b := fun b hb => ⟨(upd_ne (fr3 b hb)).trans (f2 b hb).1, (f2 b hb).2⟩
  have E14 : Ex H1 (upd H1 P (.tbl (qs ++ more))) := .tabbed ⟨⟨_, upd_same, ht3⟩, fun b hb => upd_ne hb⟩ ⟨qs, tP, tk⟩
  have st3 : tn 0 hc := T.keep _ _ _ st2 fun b hb o e => keep b o (fr3 b hb) e
  have obj3 : ∀ b ∈ fp, ∃ o, hc.get? b = some o ∧ ∀ v, o.data ≠ .cell v := T.obj _ _ st3
  generalize hH4 : upd H1 P (.tbl (qs ++ more)) = H4 at *
  generalize hs4 : ({ s2 with heap := hc, gens := s2.gens, drawn := s2.drawn, toks := tk' } : Shared) = s4 at *
  have s4h : s4.heap = hc := by rw [← hs4]
  intro h' hn' hs'
  have up : ∀ b o, s4.heap.get? b = some o → h'.get? b = some o := fun b o e => hs'.extBut b o (Nat.ne_of_lt (Heap.lt_size e)) (Heap.get?_push_of_some _ e)
  have szp : h'.objs.size = s4.heap.objs.size + 1 := by rw [hs'.1, Heap.size_push]
  rw [← s4h] at st3 obj3
  generalize hob : ({ cls := .type "generator", data := .fields #[.int s4.gens.size 0, .str "<genexpr>" (s4.toks + 1), .str (X.env.qual ++ "<genexpr>") (s4.toks + 1 + 1)] } : Obj) = ob at *
  have isg : ∀ s : Shared, s.heap.get? h'.objs.size = some ob → s.heap.IsGen h'.objs.size s4.gens.size := fun s e => ⟨ob, _, _, e, by rw [← hob], by rw [← hob], by rw [← hob]⟩
  have obc : ∀ v, ob.data ≠ .cell v := fun v => by rw [← hob]; intro z; cases z
  have hA : ((X.A.in1.in1).over (.compLoop (.GeneratorExp elt [⟨tg, iter, [], 0⟩] scope gpos) 0 (.ref it) .none (genEnv scope [] s4.heap.objs.size code builtinsNs X.env)) []).frames = some (genEnv scope [] s4.heap.objs.size code builtinsNs X.env :: X.stack) := by
    show pushEnvs [genEnv scope [] s4.heap.objs.size code builtinsNs X.env] (pushEnvs (envsOf ([].map Frame.where_)) X.A.frames) = _
    rw [I2.ok.frames]
    rfl
  have rm : Room k ((X.A.in1.in1).over (.compLoop (.GeneratorExp elt [⟨tg, iter, [], 0⟩] scope gpos) 0 (.ref it) .none (genEnv scope [] s4.heap.objs.size code builtinsNs X.env)) []) := by
    refine ⟨hr.hd, ?_, ?_⟩
    · have := hr.dp
      show X.A.depth + 0 + 1 + 3 * k + 5 < _
      omega
    · have := hr.un
      show X.A.units + 1 + 1 + 0 + 3 + 16 * k + 200 < _
      omega
  obtain ⟨⟨tgt, pg, vg⟩, ⟨te, pe, ve⟩⟩ := hel _ code s4.heap.objs.size s4 H4 fp rm
  have ok := gn_ok (N := N) (code := code) I3 S.kind S.lk f3 obj3 (by exact hr.hd) hA
  generalize hYA : (X.A.in1.in1).over (.compLoop (.GeneratorExp elt [⟨tg, iter, [], 0⟩] scope gpos) 0 (.ref it) .none (genEnv scope [] s4.heap.objs.size code builtinsNs X.env)) [] = A' at *
  have hh : X.A.handled = none := hr.hd
  have at5 : (h'.push ob).get? h'.objs.size = some ob := Heap.get?_push_size _ (by rw [← hob]; rfl)
  have up5 : ∀ b o, s4.heap.get? b = some o → (h'.push ob).get? b = some o := fun b o e => Heap.get?_push_of_some _ (up b o e)
  have I5 := gn_inv (tk := s4.toks + 1 + 1 + 1) I3 ok (gs := .fresh (.compStart (.GeneratorExp elt [⟨tg, iter, [], 0⟩] scope gpos) 0 (.ref it) .none (genEnv scope [] s4.heap.objs.size code builtinsNs X.env))) rfl up5 (hn'.push _) at5 (by omega) obc
  have okY : Ok (gnCx X A' N (genEnv scope [] s4.heap.objs.size code builtinsNs X.env) s4 H4 fp) H4 (List.replicate N.length none) H4 (List.replicate N.length .un) := by
    refine ⟨H4, ⟨Ex.refl _, tbs.ex E14⟩, Ex.refl _, by rw [List.length_replicate, List.length_replicate], fun i c hc => ?_, fun i j xs ys a h1 => ?_⟩
    · rw [List.getElem?_replicate] at hc
      split at hc
      · cases hc; trivial
      · cases hc
    · rw [List.getElem?_replicate] at h1
      split at h1 <;> cases h1
  have fY : ∀ b ∈ fp, FpOk (gnCx X A' N (genEnv scope [] s4.heap.objs.size code builtinsNs X.env) s4 H4 fp) [(h'.objs.size, ob)] H4 b := fun b hb => by
    have lt := fp_there I3 obj3 hb
    refine ⟨(f3 b hb).1, Nat.ne_of_lt lt, fp_frs I3 f3 hb, .inl hb, fun x c z => (by cases z), fun p hp => ?_⟩
    rw [List.nil_append, List.mem_singleton] at hp
    subst hp
    exact (Nat.ne_of_lt (Nat.lt_trans lt (by rw [szp]; exact Nat.lt_succ_self _))).symm
  have P0 : GnP (gnCx X A' N (genEnv scope [] s4.heap.objs.size code builtinsNs X.env) s4 H4 fp) H4 (h'.objs.size, ob) fp tn g f ds res 0 _ := ⟨_, _, _, I5, okY, T.keep _ _ _ st3 fun b _ o e => up5 b o e, fun b hb => (f3 b hb).1, by rw [List.drop_zero]; exact hall⟩
  have seg : ∀ s'', GnP (gnCx X A' N (genEnv scope [] s4.heap.objs.size code builtinsNs X.env) s4 H4 fp) H4 (h'.objs.size, ob) fp tn g f ds res 0 s'' → Seg (model X.prog X.w) X.A.in1.in1 (gnR (gnCx X A' N (genEnv scope [] s4.heap.objs.size code builtinsNs X.env) s4 H4 fp) H4 (h'.objs.size, ob) res) (gnY (gnCx X A' N (genEnv scope [] s4.heap.objs.size code builtinsNs X.env) s4 H4 fp) H4 (h'.objs.size, ob) fp tn g f ds res) (ds.length - 0) s''
      (.compStart (.GeneratorExp elt [⟨tg, iter, [], 0⟩] scope gpos) 0 (.ref it) .none (genEnv scope [] s4.heap.objs.size code builtinsNs X.env)) ((model X.prog X.w).den (.compStart (.GeneratorExp elt [⟨tg, iter, [], 0⟩] scope gpos) 0 (.ref it) .none (genEnv scope [] s4.heap.objs.size code builtinsNs X.env))) [] s'' := fun s'' P => by
    have st0 : tn 0 s''.heap := by
      obtain ⟨_, _, _, _, _, st, _⟩ := P
      exact st
    exact gn_start (Y := gnCx X A' N (genEnv scope [] s4.heap.objs.size code builtinsNs X.env) s4 H4 fp) (B := X.A.in1.in1) hh T st0
      (gn_seg (Y := gnCx X A' N (genEnv scope [] s4.heap.objs.size code builtinsNs X.env) s4 H4 fp) (B := X.A.in1.in1) hh T D (e0.trans E14) rfl rfl S.co fY hYA.symm pg vg pe ve _ 0 s'' s'' rfl (Nat.zero_le _) P)
  refine Calls.spliced_nil (call_function_tree F.kind_all F.plain_all F.entry_all (F.args_all1 _) ?_)
  unfold Builtin.«all»
  refine wpAny_bind (m := oneArg "all" _) (wpAny_pure ?_)
  refine wpAny_bind (wpAny_pyIter_gen (isg _ at5) ?_)
  refine wpAny_pure ⟨plainId_quiet F.plain_all_loop _, gn_all (Y := gnCx X A' N (genEnv scope [] s4.heap.objs.size code builtinsNs X.env) s4 H4 fp) (n := s4.gens.size) hh (by have := hr.dp; omega) isg (fun s' hE => ?_) _ 0 _ rfl ⟨Nat.zero_le _, P0, _, Array.getElem?_push_size .., fun s'' P => ⟨rfl, seg s'' P⟩⟩⟩
  obtain ⟨ρ, σ', H', J', okE⟩ := hE
  exact ⟨.bl res, H', gn_back I3 f3 J', rfl, hQ H' (E14.trans okE.base)⟩
end
end
end Tl

namespace Tl
open PySem PySem.Spec PyProof.Rows L2 Evl
noncomputable section
def gnSok (scope : Scope) : Bool := decide (scope.kind = .function) && !scope.isCoroutine && scope.names.all (fun y => decide (y.2 ≠ .cell) && decide (y.2 ≠ .free)) && decide (scope.names.lookup (".0" : Str) = some NameKind.local)
theorem gnS_of {env : Env} {scope : Scope} (h : gnSok scope = true) (hc : closureFor scope env = pure []) : GnS env scope := by
  unfold gnSok at h
  simp only [Bool.and_eq_true, decide_eq_true_eq, Bool.not_eq_true', List.all_eq_true] at h
  obtain ⟨⟨⟨h1, h2⟩, h3⟩, h4⟩ := h
  exact ⟨h1, h2, fun y hy => h3 y hy, h4, hc⟩
def mAllE (mi : MI) (g : MG) (f : ME) (n : Nat) : ME := fun ρ => (mi ρ).bind fun p => (allM g f p.1 (List.replicate n .un)).map fun b => .dat (.bl b)
theorem x_allE {X : Cx} {c P : Addr} {fn : Str} {elt iter tg : Expr} {p pos gpos : Pos} {scope : Scope} {mi : MI} {g : MG} {f : ME} (k : Nat) {N : List Str} (hr : Room (k + 1) X.A) (hm : X.mg "all" = none) (tp : TabP X.K X.mg fn c P) (TB : GxR.TabB X.base X.mg c P) (hcode : X.env.code = .ref c)
    (hi : JI X tg iter mi) (hel : GnEl X k N scope tg elt g f) (ok : gnSok scope = true := by decide +kernel) (hclo : closureFor scope X.env = pure [] := by rfl) (hg : Gl X "all" := by rfl) (hs : ∀ v, genFold iter X.env v = pure v := by exact fun _ => rfl)
    (he : starEach [.GeneratorExp elt [⟨tg, iter, [], 0⟩] scope gpos] X.env = (false, eval (.GeneratorExp elt [⟨tg, iter, [], 0⟩] scope gpos) X.env) :: starEach [] X.env := by rfl) :
    JE X (.Call (.Name "all" p) [.GeneratorExp elt [⟨tg, iter, [], 0⟩] scope gpos] [] pos) (mAllE mi g f N.length) := by
  obtain ⟨wi, pi, vi⟩ := hi
  refine ⟨_, pe_allE hr hg hm TB hcode (gnS_of ok hclo) pi hel hs he, fun H0 σ H ρ r ok h => ?_⟩
  unfold mAllE at h
  obtain ⟨⟨ds, ρ'⟩, hmi, h⟩ := Option.bind_eq_some_iff.mp h
  obtain ⟨res, hall, h⟩ := Option.map_eq_some_iff.mp h
  subst h
  intro H1 e1 Q q
  refine vi H0 σ H1 ρ ds ρ' (ok.ex e1) hmi _ fun J H2 H0' e0 ok2 e2 D => ⟨H0', ds, res, D, ok2.base, ok2.tbs fn c P tp, ok2.tbs, hall, fun H3 e3 => q _ H3 (e2.trans e3) (.bl _)⟩
end
end Tl

namespace Tl
open PySem PySem.Spec PyProof.Rows L2 Evl
noncomputable section
/-! ### tuple * k, k nought or below: a new empty tuple -/
theorem mulNone (l : Addr) (items : Array Value) (n : Nat) (dd : Option Addr) (sl : Array (Option Value)) (x : Int) (u : Tok) (c0 : (decide (x < -(2 ^ 63)) || decide (x ≥ 2 ^ 63)) = false) (c1 : (items.isEmpty || x == 1) = false) (c2 : (decide (x ≤ 0) || items.isEmpty) = true) :
    Meets (Builtin.«tuple.__mul__» ⟨[.ref l, .int x u], []⟩) (fun _ R s => s.heap.get? l = some { cls := .type "tuple", dict := dd, data := .seq items n, slots := sl } ∧
      R (.ok (.ret (Value.ref s.heap.objs.size))) { s with heap := s.heap.push { cls := Value.type "tuple", data := Data.seq #[] }, toks := s.toks }) :=
  .of_wp fun prog w A R s ⟨gl, gr⟩ => by
    obtain ⟨hp, g, d, tk, os⟩ := s; have f1 := AutoSeq1.idx_int; wp_walk using wpAny_loadPart' gl
    repeat (first | (refine wpAny_ite_false (decide_eq_false (by rw [c0]; exact Bool.false_ne_true)) ?_; wp_walk using wpAny_loadPart' gl) | (refine wpAny_ite_false (decide_eq_false (by rw [c1]; exact Bool.false_ne_true)) ?_; wp_walk using wpAny_loadPart' gl) | (refine wpAny_ite_true (decide_eq_true (by rw [c2])) ?_; wp_walk using wpAny_loadPart' gl))
    exact ⟨_, rfl, gr⟩
section
variable {X : Cx} {a b : Expr} {pos : Pos} {f1 f2 : ME}
def rNone (K : PySem.W.Frag) : R2 := fun x y H Q => ∃ l k xs, x = .ref l ∧ y = .int k ∧ SqT K H l xs ∧ xs ≠ [] ∧ k ≤ 0 ∧ -(2 ^ 63) ≤ k ∧ ∀ p, H p = none → Q (.ref p) (upd H p (.tup []))
theorem op_none : OpR X (binaryOp .Mult) (rNone X.K) := by
  intro pins s σ H x y v u Q I rx ry h
  obtain ⟨l, k, xs, rfl, rfl, hT, hne, hk, hb, q⟩ := h
  cases rx
  obtain ⟨t, rfl⟩ := ry
  obtain ⟨its, r, ⟨⟨cls, dd, data, sl⟩, ho, hc, n, hd⟩, hs⟩ := I.tuple hT
  simp only at hc hd
  subst hc hd
  have hi : its.toArray.isEmpty = false := by
    cases its with
    | nil => cases r; exact absurd rfl hne
    | cons a b => rfl
  have c0 : (decide (k < -(2 ^ 63)) || decide (k ≥ 2 ^ 63)) = false := by
    rw [Bool.or_eq_false_iff]; exact ⟨decide_eq_false (by omega), decide_eq_false (by omega)⟩
  have c1 : (its.toArray.isEmpty || k == 1) = false := by
    rw [hi, Bool.false_or]
    exact beq_eq_false_iff_ne.mpr (by omega)
  have c2 : (decide (k ≤ 0) || its.toArray.isEmpty) = true := by rw [decide_eq_true hk, Bool.true_or]
  refine wpAny_binaryOp_repeat_ref (T := "tuple") (U := "int") (by decide) ⟨_, ho, rfl⟩ (fun s' => typeIs_int s' k t) noFill_tuple_mul F.fills_int_mul F.slot_int_rmul repeat_tuple F.slot_int_index.lookup
    (call_meets F.slot_int_rmul (typeIs_int s k t) F.entry_int_rmul (F.args_int_rmul_2 _ _) (int_rmul_tuple k t l its.toArray n dd sl) ⟨ho, rfl, ⟨_, ho, rfl⟩, ?_⟩)
  exact call_meets F.slot_tuple_mul ⟨_, ho, rfl⟩ F.entry_tuple_mul (F.args_tuple_mul_2 _ _) (mulNone l its.toArray n dd sl k t c0 c1 c2) ⟨ho, .ref s.heap.objs.size, _, I.laid (t' := s.toks) (o := .tup []) (fun b ob q => Heap.get?_push_of_some _ q) (Nat.le_refl _) ⟨Nat.zero_le _, [], .nil, IsTup.new _ _⟩, rfl, q _ (I.hok.fresh (Nat.le_refl _))⟩
theorem op_rep3 : OpR X (binaryOp .Mult) (fun x y H Q => (rRepT X.K x y H Q ∨ rSame X.K x y H Q) ∨ rNone X.K x y H Q) := fun pins s σ H x y v u Q I rx ry h => h.elim (fun z => op_rep2 pins s σ H x y v u Q I rx ry z) fun z => op_none pins s σ H x y v u Q I rx ry z
def mRepT3 (f g : ME) : ME := fun ρ => (asTup (f ρ)).bind fun xs => (asInt (g ρ)).bind fun k => if okP (xs.length ≤ 1000 ∧ -1000 ≤ k ∧ k ≤ 1000) = true then some (.dat (.tup (List.replicate k.toNat xs).flatten)) else none
theorem x_repT3 (ha : JE X a f1) (hb : JE X b f2) : JE X (.BinOp a .Mult b pos) (mRepT3 f1 f2) := by
  obtain ⟨ta, pa, va⟩ := ha
  obtain ⟨tb, pb, vb⟩ := hb
  refine ⟨_, pe_op op_rep3 pa pb, fun H0 σ H ρ r ok h => ?_⟩
  unfold mRepT3 at h
  obtain ⟨xs, hx, h⟩ := Option.bind_eq_some_iff.mp h
  obtain ⟨k, hk, h⟩ := Option.bind_eq_some_iff.mp h
  split at h
  · rename_i hz
    have hz := okP_of hz
    cases h
    intro H1 e1 Q q
    refine (va _ _ _ _ _ ok (asTup_some hx)).tup H1 e1 _ fun p vs H2 e2 l1 g1 => ?_
    refine (vb _ _ _ _ _ ok (asInt_some hk)).int H2 (e1.trans e2) _ fun H3 e3 => ?_
    have l3 := ex_t e3 l1
    have g3 := g1.ex e3
    have hlen := g1.length
    by_cases h1 : vs = [] ∨ k = 1
    · refine .inl (.inr ⟨p, k, vs, rfl, rfl, l3, h1, by omega, q _ H3 (e2.trans e3) ?_⟩)
      rcases h1 with e | e
      · subst e
        cases g3
        rw [flat_nil]
        exact .tup l3 .nil
      · subst e
        have : (List.replicate (1 : Int).toNat xs).flatten = xs := by simp
        rw [this]
        exact .tup l3 g3
    · have nv : vs ≠ [] := fun z => h1 (.inl z)
      by_cases h2 : k ≤ 0
      · refine .inr ⟨p, k, vs, rfl, rfl, l3, nv, h2, by omega, fun z nz => q _ _ (e2.trans (e3.trans (Ex.new nz))) ?_⟩
        rw [show k.toNat = 0 by omega]
        exact .tup (.inl (.inl upd_same)) .nil
      · refine .inl (.inl ⟨p, k, vs, rfl, rfl, l3, nv, by have : k ≠ 1 := fun z => h1 (.inr z); omega, hz.2.2, by rw [hlen]; exact hz.1, fun z nz => q _ _ (e2.trans (e3.trans (Ex.new nz))) ?_⟩)
        exact .tup (.inl (.inl upd_same)) ((g3.ex (Ex.new nz)).rep k.toNat)
  · cases h
end
end
end Tl

namespace Tl
open PySem PySem.Spec PyProof.Rows L2 Evl
noncomputable section
/-! ### t[::-1] of a tuple -/
section
variable {prog : Program} {w : World} {A : Around} {E : Value → Shared → Prop} {s : Shared}
theorem part_is {v : Value} {o : Option Int} {Q : Option Int → Shared → Prop} (p : IsPart v o) (h : Q o s) : wpAny (model prog w) A (Builtin.Slice.slicePartIndex v) Q E s := HT.slicePart_ p h
theorem applied_back {sl : Addr} {vl vu vs : Value} {n : Nat} {Q : Int × Int × Nat → Shared → Prop} (hs : s.heap.IsSliceOf sl vl vu vs) (pl : IsPart vl none) (pu : IsPart vu none) (ps : IsPart vs (some (-1)))
    (h : Q ((n : Int) - 1, -1, n) s) : wpAny (model prog w) A (Builtin.Slice.sliceApplied (.ref sl) (pure (n : Int))) Q E s := by
  obtain ⟨os, hos, hcs, hds⟩ := id hs
  unfold Builtin.Slice.sliceApplied Builtin.Slice.sliceFields
  refine wpAny_bind (wpAny_bind (wpAny_field hos hds (x := vl) rfl (wpAny_bind (wpAny_field hos hds (x := vu) rfl (wpAny_bind (wpAny_field hos hds (x := vs) rfl (wpAny_pure ?_)))))))
  refine wpAny_bind (part_is ps ?_)
  show wpAny _ _ (if ((-1 : Int) == 0) = true then _ else _) _ _ s
  rw [if_neg (by decide)]
  refine wpAny_bind (part_is pl (wpAny_bind (part_is pu (wpAny_bind (wpAny_pure ?_)))))
  show wpAny _ _ (match Builtin.Slice.sliceAdjust none none (-1) (n : Int) with | (lo, hi) => pure (lo, (-1 : Int), Builtin.Slice.slicePlaces lo hi (-1))) _ _ s
  have e1 : Builtin.Slice.sliceAdjust none none (-1) (n : Int) = ((n : Int) - 1, -1) := rfl
  have e2 : Builtin.Slice.slicePlaces ((n : Int) - 1) (-1) (-1) = n := by
    unfold Builtin.Slice.slicePlaces
    rw [if_neg (by decide)]
    by_cases h : (n : Int) - 1 > -1
    · rw [if_pos h]
      have : ((n : Int) - 1 - -1 - 1) / (- -1) + 1 = (n : Int) := by
        rw [show (- -1 : Int) = 1 by decide, Int.ediv_one]
        omega
      rw [this, Int.toNat_natCast]
    · rw [if_neg h]
      show 0 = n
      omega
  rw [e1]
  show wpAny _ _ (pure ((n : Int) - 1, (-1 : Int), Builtin.Slice.slicePlaces ((n : Int) - 1) (-1) (-1))) _ _ s
  rw [e2]
  exact wpAny_pure h
theorem fm_cong {α β : Type} {f g : α → Option β} : ∀ l : List α, (∀ x ∈ l, f x = g x) → l.filterMap f = l.filterMap g
  | [], _ => rfl
  | x :: l, h => by
    rw [List.filterMap_cons, List.filterMap_cons, h x (by simp), fm_cong l fun y hy => h y (List.mem_cons_of_mem _ hy)]
theorem fm_get {α : Type} : ∀ ys : List α, (List.range ys.length).filterMap (fun k => ys[k]?) = ys
  | [] => rfl
  | y :: ys => by
    rw [List.length_cons, List.range_succ_eq_map, List.filterMap_cons]
    simp only [List.getElem?_cons_zero, List.filterMap_map]
    congr 1
    exact (fm_cong _ fun k _ => by simp).trans (fm_get ys)
theorem pick_back (xs : Array Value) : ((List.range xs.size).filterMap fun (k : Nat) => xs[(((xs.size : Nat) : Int) - 1 + (k : Int) * -1).toNat]?).toArray = xs.toList.reverse.toArray := by
  congr 1
  have e : ∀ k ∈ List.range xs.size, xs[(((xs.size : Nat) : Int) - 1 + (k : Int) * -1).toNat]? = xs.toList.reverse[k]? := fun k hk => by
    have := List.mem_range.mp hk
    rw [List.getElem?_reverse (by simpa using this)]
    simp only [Array.length_toList, Array.getElem?_toList]
    congr 1
    omega
  rw [fm_cong _ e]
  have l : xs.size = xs.toList.reverse.length := by simp
  rw [l]
  exact fm_get _
theorem item_back {t sl : Addr} {items : Array Value} {vl vu vs : Value} {Q : Value → Shared → Prop} (ht : IsTup s.heap t items) (hs : s.heap.IsSliceOf sl vl vu vs) (pl : IsPart vl none) (pu : IsPart vu none) (ps : IsPart vs (some (-1)))
    (h : Q (.ref s.heap.objs.size) { s with heap := s.heap.push { cls := .type "tuple", data := .seq items.toList.reverse.toArray } }) (hsz : items.size ≤ sizeLine) : wpAny (model prog w) A (getItem (.ref t) (.ref sl)) Q E s := by
  have hz : sizeOk (.seq items.toList.reverse.toArray) := by
    show items.toList.reverse.toArray.size ≤ sizeLine
    rw [List.size_toArray, List.length_reverse, Array.length_toList]
    exact hsz
  obtain ⟨os, hos, hcs, hds⟩ := id hs
  have hTs : s.TypeIs (.ref sl) "slice" := ⟨os, hos, hcs⟩
  unfold getItem
  try with_reducible refine wpAny_holding ?_
  first | refine wpAny_bind (wpAny_pure ?_) | skip
  refine wpAny_bind (wpAny_sequenceKey ht.typeIs (by decide) ?_)
  refine wpAny_bind (wpAny_callSpecial?_slot (name := Str.ofString "__getitem__") ht.typeIs PyProof.Rows.slot_tuple_getitem
    (wpAny_call_entry PyProof.Rows.slot_tuple_getitem ht.typeIs entry_tuple_getitem ?_ (args_tuple_getitem _ _)))
  show wpAny _ _ (Builtin.Tuple.tupleItemsOf (.ref t) >>= _) _ _ s
  refine wpAny_bind (tupleItemsOf_ ht ?_)
  refine wpAny_bind (wpAny_typeOf hTs ?_)
  rw [if_pos (by decide)]
  refine wpAny_bind (applied_back hs pl pu ps ?_)
  show wpAny _ _ (if (((items.size : Nat) : Int) - 1 == 0 && (-1 : Int) == 1 && items.size == items.size) = true then _ else _) _ _ s
  rw [if_neg (by rw [show ((-1 : Int) == 1) = false by decide, Bool.and_false, Bool.false_and]; exact Bool.false_ne_true), pick_back]
  first
    | exact wpAny_bind (m := Builtin.Tuple.tupleExact _) (wpAny_newObj_type (wpAny_pure ⟨_, rfl, wpAny_pure h⟩) hz)
    | exact wpAny_bind (m := Builtin.Tuple.tupleExact _) (wpAny_newObj_type (wpAny_bind (wpAny_pure (wpAny_pure ⟨_, rfl, wpAny_pure h⟩))) hz)
    | exact wpAny_bind (wpAny_bind (m := Builtin.Tuple.tupleExact _) (wpAny_newObj_type (wpAny_pure (wpAny_pure ⟨_, rfl, wpAny_pure h⟩)) hz))
    | exact wpAny_bind (wpAny_bind (m := Builtin.Tuple.tupleExact _) (wpAny_newObj_type (wpAny_pure ⟨_, rfl, wpAny_pure h⟩) hz))
end
section
variable {X : Cx} {a : Expr} {f1 : ME}
def tRevT (K : PySem.W.Frag) (te : TE) : TE := fun σ H Q => te σ H fun x H1 => ∃ a xs, x = .ref a ∧ SqT K H1 a xs ∧ ∀ p, H1 p = none → Q (.ref p) (upd H1 p (.tup xs.reverse))
theorem pe_revT {e : Expr} {te : TE} {k : Nat} {p1 p2 p3 pos : Pos} (he : PE X e te) : PE X (.Subscript e (.Slice none none (some (.UnaryOp .USub (.Constant (.int 1) k p1) p2)) p3) pos) (tRevT X.K te) := by
  refine ⟨fun pins s σ H Q I h => ?_⟩
  refine Subscript_ (thn (he.run pins s σ H _ I h) fun v s1 ⟨x, H1, I1, r1, a, xs, ex, hx, q⟩ => ?_)
  subst ex
  cases r1
  have hst : PO X (some (.UnaryOp .USub (.Constant (.int 1) k p1) p2)) (tPart (tUn (rU fun i => .int (-i)) (tC (.int 1)))) := po_some (pe_un un_neg pe_int)
  refine wpAny_Slice (thn (po_none.run pins s1 σ H1 (fun o H2 => o = none ∧ H2 = H1) I1 ⟨rfl, rfl⟩) fun vl s2 ⟨l, H2, I2, pl, el, e2⟩ => ?_)
  subst el e2
  refine thn (po_none.run pins s2 σ H2 (fun o H3 => o = none ∧ H3 = H2) I2 ⟨rfl, rfl⟩) fun vu s3 ⟨u, H3, I3, pu, eu, e3⟩ => ?_
  subst eu e3
  refine thn (hst.run pins s3 σ H3 (fun o H4 => o = some (-1) ∧ H4 = H3) I3 ⟨1, rfl, -1, rfl, rfl, rfl⟩) fun vs s4 ⟨o, H4, I4, ps, eo, e4⟩ => ?_
  subst eo e4
  have I5 : Inv X pins σ H4 { s4 with heap := s4.heap.push { cls := .type "slice", data := .fields #[vl, vu, vs] } } := I4.kept (t' := s4.toks) fun b ob q => Heap.get?_push_of_some _ q
  obtain ⟨its, r, ht, hz⟩ := I5.tuple hx
  have hlen := r.length
  show wpAny (model X.prog X.w) X.A (subscriptTail e (.Slice none none (some (.UnaryOp .USub (.Constant (.int 1) k p1) p2)) p3) (.ref a) (.ref s4.heap.objs.size)) (EP X pins σ Q) X.xe { s4 with heap := s4.heap.push { cls := .type "slice", data := .fields #[vl, vu, vs] } }
  refine tail_any (ops := [.ref a, .ref s4.heap.objs.size]) ht.typeIs PyProof.Rows.slot_tuple_getitem.lookup ?_ (by with_unfolding_all rfl)
  refine item_back ht (Heap.IsSliceOf.new _ vl vu vs) pl pu ps ?_ (by rw [List.size_toArray]; omega)
  refine ⟨.ref _, _, I5.laid (t' := s4.toks) (o := .tup xs.reverse) (fun b ob q => Heap.get?_push_of_some _ q) (Nat.le_refl _) ?_, rfl, q _ (I5.hok.fresh (Nat.le_refl _))⟩
  exact ⟨by rw [List.length_reverse]; exact hz, _, r.reverse, IsTup.new _ _⟩
def mRevT (f : ME) : ME := fun ρ => (asTup (f ρ)).map fun xs => .dat (.tup xs.reverse)
theorem x_revT {k : Nat} {p1 p2 p3 pos : Pos} (ha : JE X a f1) : JE X (.Subscript a (.Slice none none (some (.UnaryOp .USub (.Constant (.int 1) k p1) p2)) p3) pos) (mRevT f1) := by
  obtain ⟨ta, pa, va⟩ := ha
  refine ⟨_, pe_revT pa, fun H0 σ H ρ r ok h => ?_⟩
  unfold mRevT at h
  obtain ⟨xs, hx, h⟩ := Option.map_eq_some_iff.mp h
  subst h
  intro H1 e1 Q q
  refine (va _ _ _ _ _ ok (asTup_some hx)).tup H1 e1 _ fun p vs H2 e2 l1 g1 => ?_
  exact ⟨p, vs, rfl, l1, fun z nz => q _ _ (e2.trans (Ex.new nz)) (.tup (.inl (.inl upd_same)) (g1.ex (Ex.new nz)).reverse)⟩
/-! ### str of a number, a text, a truth, None -/
def gStrB : List R → Option R
  | [.dat (.int i)] => if okP (i.natAbs.log2 < 1920) = true then some (.dat (.str (Str.ofString (toString i)))) else none
  | [.dat (.str z)] => some (.dat (.str z))
  | [.dat (.bl b)] => some (.dat (.str (if b then "True" else "False")))
  | _ => none
def mStrB (f : ME) : ME := fun ρ => (aCons f aNil ρ).bind gStrB
theorem call_str_bl : CallR X (.type "str") (fun xs H Q => ∃ b : Bool, xs = [.bl b] ∧ Q (.str (if b then "True" else "False")) H) := by
  intro pins s σ H xs us Q I r h
  obtain ⟨b, rfl, q⟩ := h
  obtain ⟨u, rfl, r1⟩ := vals1 r
  cases r1
  exact PySem.P.str_of_bool ⟨.str _, H, I.tok _, ⟨_, rfl⟩, q⟩
theorem x_strB {p pos : Pos} (hm : X.mg "str" = none) (ha : JE X a f1) (hg : Gl X "str" := by rfl) (hs : starEach (a :: []) X.env = (false, eval a X.env) :: starEach [] X.env := by rfl) : JE X (.Call (.Name "str" p) [a] [] pos) (mStrB f1) := by
  refine x_bltT (id := "str") (r := fun xs H Q => (∃ i, xs = [.int i] ∧ i.natAbs.log2 < 1920 ∧ Q (.str (toString i)) H) ∨ (∃ z, xs = [.str z] ∧ Q (.str z) H) ∨ ∃ b : Bool, xs = [.bl b] ∧ Q (.str (if b then "True" else "False")) H) ?_ hg hm (by decide +kernel) (g := gStrB) (fun rs vs H q Q h g k => ?_) (a_cons ha a_nil hs) (he := hs)
  · intro pins s σ H us vs Q I r h
    rcases h with h | h | h
    · exact call_str_int pins s σ H us vs Q I r h
    · exact SkE.call_str_str pins s σ H us vs Q I r h
    · exact call_str_bl pins s σ H us vs Q I r h
  · unfold gStrB at h
    split at h
    · rename_i i
      have h : (if okP (i.natAbs.log2 < 1920) = true then some (R.dat (.str (Str.ofString (toString i)))) else none) = some q := h
      split at h
      · rename_i hz
        cases h
        cases g with
        | cons g1 g2 =>
          cases g2
          have g1 : Den X.K H _ (.int i) := g1
          cases g1
          exact .inl ⟨i, rfl, okP_of hz, k _ H (Ex.refl H) (.str _)⟩
      · cases h
    · rename_i z
      cases h
      cases g with
      | cons g1 g2 =>
        cases g2
        have g1 : Den X.K H _ (.str z) := g1
        cases g1
        exact .inr (.inl ⟨z, rfl, k _ H (Ex.refl H) (.str _)⟩)
    · rename_i b
      cases h
      cases g with
      | cons g1 g2 =>
        cases g2
        have g1 : Den X.K H _ (.bl b) := g1
        cases g1
        exact .inr (.inr ⟨b, rfl, k _ H (Ex.refl H) (.str _)⟩)
    · cases h
end
end
end Tl

namespace Lw
open PySem PySem.Spec PyProof.Rows L2 Evl Tl
def topS (i : Nat) : Stmt := PySem.Challenge.pw_tensloft_k80_tries_looked_at.main.body.getD i (.Pass ⟨0, 0, 0, 0⟩)
abbrev s_same : Stmt := topS 1
theorem sc_same : FnScope ["due", "thing"] ["due", "thing"] (defScope s_same) := ⟨rfl, rfl, rfl, by decide +kernel, rfl, by decide +kernel, by decide +kernel⟩
noncomputable def b_same (mr : Mir) : MS := (mSeq (mIf (mT (mIsi "tuple" (mVar 0))) (mRet (mAndV (mIsi "tuple" (mVar 1)) (mAndV (mEqS (mLen (mVar 1)) (mLen (mVar 0))) (mAllE (iZT (mVar 0) (mVar 1)) (gTp (gCons' (gNm 0) (gCons' (gNm 1) gNil'))) (mCall mr (aCons (mVar 0) (aCons (mVar 1) aNil))) 2)))) mSkip)
    (mRet (mAndV (mEqS (mIsi "bool" (mVar 1)) (mIsi "bool" (mVar 0))) (mEqD (mVar 1) (mVar 0)))))
noncomputable def m_same : Nat → Mir
  | 0 => fun _ => none
  | k + 1 => mDef 2 2 (b_same (m_same k))
abbrev s_ten_to : Stmt := topS 7
theorem sc_ten_to : FnScope ["many", "power", "step"] ["many"] (defScope s_ten_to) := ⟨rfl, rfl, rfl, by decide +kernel, rfl, by decide +kernel, by decide +kernel⟩
noncomputable def f_ten_to_1 : MS := (mAug cMul (fun a b => a * b) 1 (mC (.int 10)))
noncomputable def b_ten_to : MS := (mSeq (mSet 1 (mC (.int 1)))
    (mSeq (mFor (iR1 (mVar 0)) (gNm 2) f_ten_to_1)
    (mRetV 1)))
noncomputable def m_ten_to : Mir := mDef 3 1 b_ten_to
abbrev s_refuse_beyond : Stmt := topS 11
theorem sc_refuse_beyond : FnScope ["number", "least", "most"] ["number", "least", "most"] (defScope s_refuse_beyond) := ⟨rfl, rfl, rfl, by decide +kernel, rfl, by decide +kernel, by decide +kernel⟩
noncomputable def b_refuse_beyond : MS := (mIf (tNotM (mT (mChain (fun i j => i ≤ j) (fun i j => i ≤ j) (mVar 1) (mVar 0) (mVar 2)))) (mRaise1 "NoFit" "number" (mVar 0)) mSkip)
noncomputable def m_refuse_beyond : MirX := mDefX 3 3 b_refuse_beyond
abbrev s_line_of_tries : Stmt := topS 13
theorem sc_line_of_tries : FnScope ["ahead", "other", "four", "figure", "left", "times", "worth", "taken"] ["ahead", "other"] (defScope s_line_of_tries) := ⟨rfl, rfl, rfl, by decide +kernel, rfl, by decide +kernel, by decide +kernel⟩
noncomputable def f_line_of_tries_1 : MS := (mSeq (mSet 6 (mMul (mVar 5) (mVar 1)))
    (mSeq (mSet 7 (mLe (mVar 6) (mVar 4)))
    (mSeq (mApp 2 (mTup (aCons (mVar 5) (aCons (mVar 6) (aCons (mVar 7) aNil)))))
    (mIf (mT (mVar 7)) (mSeq (mAug cT (fun a b => a + b) 3 (mVar 5))
    (mAug cT (fun a b => a - b) 4 (mVar 6))) mSkip))))
noncomputable def b_line_of_tries : MS := (mSeq (mSet 2 (mLst aNil))
    (mSeq (mSet 3 (mC (.int 0)))
    (mSeq (mSet 4 (mVar 0))
    (mSeq (mFor (iT (mC (.tup [(.int (8)), (.int (4)), (.int (2)), (.int (1))]))) (gNm 5) f_line_of_tries_1)
    (mRet (mTup (aCons (mVar 0) (aCons (mTupOf (mVar 2)) (aCons (mVar 3) (aCons (mVar 4) aNil))))))))))
noncomputable def m_line_of_tries : Mir := mDef 8 2 b_line_of_tries
abbrev s_tries : Stmt := topS 12
theorem sc_tries : FnScope ["one", "other", "most", "lines", "left", "figure", "line"] ["one", "other"] (defScope s_tries) := ⟨rfl, rfl, rfl, by decide +kernel, rfl, by decide +kernel, by decide +kernel⟩
noncomputable def f_tries_1 : MS := (mSeq (mSet 6 (mCall m_line_of_tries (aCons (mAdd (mMul (mC (.int 10)) (mVar 4)) (mIntS (mVar 5))) (aCons (mVar 1) aNil))))
    (mSeq (mApp 3 (mVar 6))
    (mSet 4 (mIxT (mVar 6) (mNeg (mC (.int 1)))))))
noncomputable def b_tries : MS := (mSeq (mIf (mT (mEqS (mVar 1) (mC (.int 0)))) (mRaise0 "Nought" (mC (.str "by nought"))) mSkip)
    (mSeq (mSet 2 (mSub (mCall m_ten_to (aCons (mC (.int (12))) aNil)) (mC (.int 1))))
    (mSeq (mExprX m_refuse_beyond (aCons (mVar 0) (aCons (mC (.int 0)) (aCons (mVar 2) aNil))))
    (mSeq (mExprX m_refuse_beyond (aCons (mVar 1) (aCons (mC (.int 1)) (aCons (mVar 2) aNil))))
    (mSeq (mSet 3 (mLst aNil))
    (mSeq (mSet 4 (mC (.int 0)))
    (mSeq (mFor (iS (mStr (mVar 0))) (gNm 5) f_tries_1)
    (mRet (mTupOf (mVar 3))))))))))
noncomputable def m_tries : MirX := mDefX 7 2 b_tries
abbrev s_tries_hold : Stmt := topS 15
theorem sc_tries_hold : FnScope ["one", "other", "paper"] ["one", "other", "paper"] (defScope s_tries_hold) := ⟨rfl, rfl, rfl, by decide +kernel, rfl, by decide +kernel, by decide +kernel⟩
noncomputable def b_tries_hold : MS := (mRet (mCall (m_same 6) (aCons (mCall (okX m_tries) (aCons (mVar 0) (aCons (mVar 1) aNil))) (aCons (mVar 2) aNil))))
noncomputable def m_tries_hold : Mir := mDef 3 3 b_tries_hold
abbrev s__law_cell : Stmt := topS 17
theorem sc__law_cell : FnScope ["_law_script", "_law_k"] ["_law_script", "_law_k"] (defScope s__law_cell) := ⟨rfl, rfl, rfl, by decide +kernel, rfl, by decide +kernel, by decide +kernel⟩
noncomputable def b__law_cell : MS := (mSeq (mIf (mT (mLt (mVar 1) (mLen (mVar 0)))) (mRet (mIxL (mVar 0) (mVar 1))) mSkip)
    (mSeq (mIf (mT (mEqS (mLen (mVar 0)) (mC (.int 0)))) (mRet (mMul (mC (.int 7919)) (mAdd (mVar 1) (mC (.int 1))))) mSkip)
    (mRet (mAdd (mIxL (mVar 0) (mMod (mVar 1) (mLen (mVar 0)))) (mMul (mC (.int 104729)) (mVar 1))))))
noncomputable def m__law_cell : Mir := mDef 2 2 b__law_cell
abbrev s__law_mixed : Stmt := topS 18
theorem sc__law_mixed : FnScope ["_law_cell_here", "_law_k", "_law_salt", "_law_primes", "_law_one", "_law_two"] ["_law_cell_here", "_law_k", "_law_salt"] (defScope s__law_mixed) := ⟨rfl, rfl, rfl, by decide +kernel, rfl, by decide +kernel, by decide +kernel⟩
noncomputable def b__law_mixed : MS := (mSeq (mSet 3 (mLst (aCons (mC (.int 2147483629)) (aCons (mC (.int 2147483587)) (aCons (mC (.int 2147483579)) (aCons (mC (.int 2147483563)) (aCons (mC (.int 2147483549)) (aCons (mC (.int 2147483543)) (aCons (mC (.int 2147483497)) (aCons (mC (.int 2147483489)) aNil))))))))))
    (mSeq (mSet 4 (mMod (mAdd (mAdd (mAdd (mVar 0) (mMul (mC (.int 7919)) (mVar 2))) (mMul (mC (.int 104729)) (mVar 1))) (mC (.int 13))) (mC (.int 2147483647))))
    (mSeq (mSet 4 (mMod (mPow (mVar 4) (mC (.int 5))) (mIxL (mVar 3) (mMod (mVar 1) (mC (.int 8))))))
    (mSeq (mSet 5 (mMod (mAdd (mAdd (mVar 4) (mMul (mC (.int 40692)) (mVar 2))) (mVar 1)) (mC (.int 2147483647))))
    (mRet (mAdd (mMul (mMod (mPow (mVar 5) (mC (.int 5))) (mC (.int 2147483647))) (mC (.int 1000000007))) (mVar 4)))))))
noncomputable def m__law_mixed : Mir := mDef 6 3 b__law_mixed
abbrev s__law_draws : Stmt := topS 19
theorem sc__law_draws : FnScope ["_law_cell_here", "_law_salt", "_law_widths", "_law_found", "_law_left", "_law_k"] ["_law_cell_here", "_law_salt", "_law_widths"] (defScope s__law_draws) := ⟨rfl, rfl, rfl, by decide +kernel, rfl, by decide +kernel, by decide +kernel⟩
noncomputable def f__law_draws_1 : MS := (mIf (mT (mGt (mVar 4) (mC (.int 0)))) (mSeq (mApp 3 (mMod (mVar 4) (mIxL (mVar 2) (mVar 5))))
    (mSet 4 (mDiv (mVar 4) (mIxL (mVar 2) (mVar 5))))) (mApp 3 (mMod (mCall m__law_mixed (aCons (mVar 0) (aCons (mVar 5) (aCons (mVar 1) aNil)))) (mIxL (mVar 2) (mVar 5)))))
noncomputable def b__law_draws : MS := (mSeq (mSet 3 (mLst aNil))
    (mSeq (mSet 4 (mC (.int 0)))
    (mSeq (mIf (mT (mGe (mAbs' (mVar 0)) (mPow (mC (.int 10)) (mC (.int 18))))) (mSet 4 (mAbs' (mVar 0))) mSkip)
    (mSeq (mFor (iR1 (mLen (mVar 2))) (gNm 5) f__law_draws_1)
    (mRetV 3)))))
noncomputable def m__law_draws : Mir := mDef 6 3 b__law_draws
abbrev s__law_power : Stmt := topS 20
theorem sc__law_power : FnScope ["_law_base", "_law_many", "_law_found", "_law_k"] ["_law_base", "_law_many"] (defScope s__law_power) := ⟨rfl, rfl, rfl, by decide +kernel, rfl, by decide +kernel, by decide +kernel⟩
noncomputable def f__law_power_1 : MS := (mSet 2 (mMul (mVar 2) (mVar 0)))
noncomputable def b__law_power : MS := (mSeq (mSet 2 (mC (.int 1)))
    (mSeq (mFor (iR1 (mVar 1)) (gNm 3) f__law_power_1)
    (mRetV 2)))
noncomputable def m__law_power : Mir := mDef 4 2 b__law_power
abbrev s__law_just : Stmt := topS 21
theorem sc__law_just : FnScope ["_law_found", "_law_due", "_law_part", "_law_wanted"] ["_law_found", "_law_due"] (defScope s__law_just) := ⟨rfl, rfl, rfl, by decide +kernel, rfl, by decide +kernel, by decide +kernel⟩
noncomputable def b__law_just (mr : Mir) : MS := (mSeq (mIf (mT (mIsi "tuple" (mVar 1))) (mSeq (mIf (tOrM (tNotM (mT (mIsi "tuple" (mVar 0)))) (mT (mNeS (mLen (mVar 0)) (mLen (mVar 1))))) (mRet (mC (.bl false))) mSkip)
    (mRet (mAll (mLc (iZT (mVar 0) (mVar 1)) (gTp (gCons' (gNm 2) (gCons' (gNm 3) gNil'))) tYesM (mCall mr (aCons (mVar 2) (aCons (mVar 3) aNil))) [2, 3])))) mSkip)
    (mSeq (mIf (tOrM (mT (mIsi "str" (mVar 1))) (mT (mIsN (mVar 1)))) (mRet (mAndV (mEqS (mIsi "str" (mVar 0)) (mIsi "str" (mVar 1))) (mEqD (mVar 0) (mVar 1)))) mSkip)
    (mSeq (mIf (tOrM (tNotM (mT (mIsi "int" (mVar 0)))) (mT (mNeS (mIsi "bool" (mVar 0)) (mIsi "bool" (mVar 1))))) (mRet (mC (.bl false))) mSkip)
    (mRet (mEqD (mVar 0) (mVar 1))))))
noncomputable def m__law_just : Nat → Mir
  | 0 => fun _ => none
  | k + 1 => mDef 4 2 (b__law_just (m__law_just k))
abbrev s__law_paper_cells : Stmt := topS 22
theorem sc__law_paper_cells : FnScope ["_law_thing", "_law_path", "_law_found", "_law_at", "_law_part"] ["_law_thing", "_law_path"] (defScope s__law_paper_cells) := ⟨rfl, rfl, rfl, by decide +kernel, rfl, by decide +kernel, by decide +kernel⟩
noncomputable def f__law_paper_cells_1 (mr : Mir) : MS := (mExt 2 (mCall mr (aCons (mVar 4) (aCons (mCatT (mVar 1) (mTup (aCons (mVar 3) aNil))) aNil))))
noncomputable def b__law_paper_cells (mr : Mir) : MS := (mSeq (mIf (tNotM (mT (mIsi "tuple" (mVar 0)))) (mRet (mLst (aCons (mVar 1) aNil))) mSkip)
    (mSeq (mSet 2 (mLst aNil))
    (mSeq (mFor (iEnT (mVar 0)) (gTp (gCons' (gNm 3) (gCons' (gNm 4) gNil'))) (f__law_paper_cells_1 mr))
    (mRetV 2))))
noncomputable def m__law_paper_cells : Nat → Mir
  | 0 => fun _ => none
  | k + 1 => mDef 5 2 (b__law_paper_cells (m__law_paper_cells k))
abbrev s__law_paper_tuples : Stmt := topS 23
theorem sc__law_paper_tuples : FnScope ["_law_thing", "_law_path", "_law_found", "_law_at", "_law_part"] ["_law_thing", "_law_path"] (defScope s__law_paper_tuples) := ⟨rfl, rfl, rfl, by decide +kernel, rfl, by decide +kernel, by decide +kernel⟩
noncomputable def f__law_paper_tuples_1 (mr : Mir) : MS := (mExt 2 (mCall mr (aCons (mVar 4) (aCons (mCatT (mVar 1) (mTup (aCons (mVar 3) aNil))) aNil))))
noncomputable def b__law_paper_tuples (mr : Mir) : MS := (mSeq (mSet 2 (mLst aNil))
    (mSeq (mIf (tAndM (mT (mIsi "tuple" (mVar 0))) (mT (mGt (mLen (mVar 0)) (mC (.int 0))))) (mSeq (mApp 2 (mVar 1))
    (mFor (iEnT (mVar 0)) (gTp (gCons' (gNm 3) (gCons' (gNm 4) gNil'))) (f__law_paper_tuples_1 mr))) mSkip)
    (mRetV 2)))
noncomputable def m__law_paper_tuples : Nat → Mir
  | 0 => fun _ => none
  | k + 1 => mDef 5 2 (b__law_paper_tuples (m__law_paper_tuples k))
abbrev s__law_put_in : Stmt := topS 24
theorem sc__law_put_in : FnScope ["_law_thing", "_law_path", "_law_part", "_law_at"] ["_law_thing", "_law_path", "_law_part"] (defScope s__law_put_in) := ⟨rfl, rfl, rfl, by decide +kernel, rfl, by decide +kernel, by decide +kernel⟩
noncomputable def b__law_put_in (mr : Mir) : MS := (mSeq (mIf (mT (mEqS (mLen (mVar 1)) (mC (.int 0)))) (mRetV 2) mSkip)
    (mSeq (mSet 3 (mIxT (mVar 1) (mC (.int 0))))
    (mRet (mCatT (mCatT (mSlT (mVar 0) oNone (oSome (mVar 3))) (mTup (aCons (mCall mr (aCons (mIxT (mVar 0) (mVar 3)) (aCons (mSlT (mVar 1) (oSome (mC (.int 1))) oNone) (aCons (mVar 2) aNil)))) aNil))) (mSlT (mVar 0) (oSome (mAdd (mVar 3) (mC (.int 1)))) oNone)))))
noncomputable def m__law_put_in : Nat → Mir
  | 0 => fun _ => none
  | k + 1 => mDef 4 3 (b__law_put_in (m__law_put_in k))
abbrev s__law_part_at : Stmt := topS 25
theorem sc__law_part_at : FnScope ["_law_thing", "_law_path", "_law_at"] ["_law_thing", "_law_path"] (defScope s__law_part_at) := ⟨rfl, rfl, rfl, by decide +kernel, rfl, by decide +kernel, by decide +kernel⟩
noncomputable def f__law_part_at_1 : MS := (mSet 0 (mIxT (mVar 0) (mVar 2)))
noncomputable def b__law_part_at : MS := (mSeq (mFor (iT (mVar 1)) (gNm 2) f__law_part_at_1)
    (mRetV 0))
noncomputable def m__law_part_at : Mir := mDef 3 2 b__law_part_at
abbrev s__law_changed : Stmt := topS 26
theorem sc__law_changed : FnScope ["_law_part", "_law_way", "_law_number", "_law_some"] ["_law_part", "_law_way", "_law_number"] (defScope s__law_changed) := ⟨rfl, rfl, rfl, by decide +kernel, rfl, by decide +kernel, by decide +kernel⟩
noncomputable def b__law_changed : MS := (mSeq (mSet 3 (mLst (aCons (mC .non) (aCons (mC (.bl true)) (aCons (mC (.bl false)) (aCons (mC (.str "none")) (aCons (mC (.str "nine")) (aCons (mC (.str "carry")) (aCons (mTup aNil) (aCons (mTup (aCons (mVar 0) aNil)) (aCons (mNeg (mC (.int 1))) (aCons (mC (.int 0)) (aCons (mC (.int 1)) (aCons (mStrB (mVar 0)) aNil))))))))))))))
    (mSeq (mIf (tOrM (mT (mGt (mVar 1) (mC (.int 3)))) (tNotM (mT (mIsi "int" (mVar 0))))) (mRet (mIxL (mVar 3) (mMod (mVar 2) (mC (.int 12))))) mSkip)
    (mSeq (mIf (mT (mIsi "bool" (mVar 0))) (mRet (mIxL (mLst (aCons (mNotV (mVar 0)) (aCons (mIntOf (mVar 0)) (aCons (mNotV (mVar 0)) (aCons (mIntOf (mNotV (mVar 0))) aNil))))) (mVar 1))) mSkip)
    (mRet (mAdd (mVar 0) (mIxL (mLst (aCons (mC (.int 1)) (aCons (mNeg (mC (.int 1))) (aCons (mAdd (mC (.int 1)) (mVar 2)) (aCons (mC (.int 10)) aNil))))) (mVar 1)))))))
noncomputable def m__law_changed : Mir := mDef 4 3 b__law_changed
abbrev s__law_paper_spoilt : Stmt := topS 27
theorem sc__law_paper_spoilt : FnScope ["_law_paper", "_law_way", "_law_at", "_law_to", "_law_number", "_law_lines", "_law_rows", "_law_fresh", "_law_paths", "_law_path", "_law_part"] ["_law_paper", "_law_way", "_law_at", "_law_to", "_law_number", "_law_lines"] (defScope s__law_paper_spoilt) := ⟨rfl, rfl, rfl, by decide +kernel, rfl, by decide +kernel, by decide +kernel⟩
noncomputable def b__law_paper_spoilt : MS := (mSeq (mIf (mT (mLt (mVar 1) (mC (.int 6)))) (mSeq (mSet 8 (mCall (m__law_paper_cells 6) (aCons (mVar 0) (aCons (mTup aNil) aNil))))
    (mSeq (mSet 9 (mIxL (mVar 8) (mMod (mVar 2) (mLen (mVar 8)))))
    (mRet (mCall (m__law_put_in 6) (aCons (mVar 0) (aCons (mVar 9) (aCons (mCall m__law_changed (aCons (mCall m__law_part_at (aCons (mVar 0) (aCons (mVar 9) aNil))) (aCons (mVar 1) (aCons (mVar 4) aNil)))) aNil))))))) mSkip)
    (mSeq (mIf (tOrM (mT (mEqS (mVar 1) (mC (.int 6)))) (mT (mEqS (mVar 1) (mC (.int 7))))) (mSeq (mSet 8 (mCall (m__law_paper_tuples 6) (aCons (mVar 0) (aCons (mTup aNil) aNil))))
    (mSeq (mSet 9 (mIxL (mVar 8) (mMod (mVar 3) (mLen (mVar 8)))))
    (mSeq (mSet 10 (mCall m__law_part_at (aCons (mVar 0) (aCons (mVar 9) aNil))))
    (mSeq (mSet 2 (mMod (mVar 2) (mLen (mVar 10))))
    (mRet (mCall (m__law_put_in 6) (aCons (mVar 0) (aCons (mVar 9) (aCons (mCatT (mCatT (mSlT (mVar 10) oNone (oSome (mVar 2))) (mRepT3 (mTup (aCons (mIxT (mVar 10) (mVar 2)) aNil)) (mSub (mMul (mC (.int 2)) (mVar 1)) (mC (.int 12))))) (mSlT (mVar 10) (oSome (mAdd (mVar 2) (mC (.int 1)))) oNone)) aNil))))))))) mSkip)
    (mSeq (mIf (tOrM (mT (mEqS (mVar 1) (mC (.int 8)))) (mT (mIsN (mVar 5)))) (mRet (mIxL (mLst (aCons (mC .non) (aCons (mTup aNil) (aCons (mC (.str "paper")) (aCons (mC (.int 7)) (aCons (mTup (aCons (mVar 0) aNil)) (aCons (mRevT (mVar 0)) (aCons (mC (.bl true)) (aCons (mRepT3 (mTup (aCons (mC .non) aNil)) (mLen (mVar 0))) aNil))))))))) (mMod (mVar 4) (mC (.int 8))))) mSkip)
    (mSeq (mSet 6 (mCall m__law_part_at (aCons (mVar 0) (aCons (mVar 5) aNil))))
    (mSeq (mSet 2 (mMod (mVar 2) (mLen (mVar 6))))
    (mSeq (mSet 7 (mCatT (mSlT (mVar 6) oNone (oSome (mVar 2))) (mSlT (mVar 6) (oSome (mAdd (mVar 2) (mC (.int 1)))) oNone)))
    (mSeq (mIf (mT (mEqS (mVar 1) (mC (.int 10)))) (mSeq (mSet 3 (mMod (mVar 3) (mAdd (mLen (mVar 6)) (mC (.int 1)))))
    (mSet 7 (mCatT (mCatT (mSlT (mVar 6) oNone (oSome (mVar 3))) (mTup (aCons (mIxT (mVar 6) (mVar 2)) aNil))) (mSlT (mVar 6) (oSome (mVar 3)) oNone)))) mSkip)
    (mSeq (mIf (mT (mEqS (mVar 1) (mC (.int 11)))) (mSeq (mSet 3 (mMod (mVar 3) (mLen (mVar 6))))
    (mSet 7 (mCatT (mCatT (mSlT (mVar 7) oNone (oSome (mVar 3))) (mTup (aCons (mIxT (mVar 6) (mVar 2)) aNil))) (mSlT (mVar 7) (oSome (mVar 3)) oNone)))) mSkip)
    (mRet (mCall (m__law_put_in 6) (aCons (mVar 0) (aCons (mVar 5) (aCons (mVar 7) aNil)))))))))))))
noncomputable def m__law_paper_spoilt : Mir := mDef 11 6 b__law_paper_spoilt
abbrev s__law_tries : Stmt := topS 28
theorem sc__law_tries : FnScope ["_law_one", "_law_other", "_law_lines", "_law_behind", "_law_sign", "_law_ahead", "_law_figure", "_law_four", "_law_times", "_law_taken_now"] ["_law_one", "_law_other"] (defScope s__law_tries) := ⟨rfl, rfl, rfl, by decide +kernel, rfl, by decide +kernel, by decide +kernel⟩
noncomputable def f__law_tries_1 : MS := (mSeq (mSet 9 (mLe (mMul (mVar 8) (mVar 1)) (mVar 3)))
    (mSeq (mApp 7 (mTup (aCons (mVar 8) (aCons (mMul (mVar 8) (mVar 1)) (aCons (mVar 9) aNil)))))
    (mIf (mT (mVar 9)) (mSeq (mSet 3 (mSub (mVar 3) (mMul (mVar 8) (mVar 1))))
    (mSet 6 (mAdd (mVar 6) (mVar 8)))) mSkip)))
noncomputable def f__law_tries_2 : MS := (mSeq (mSet 5 (mAdd (mMul (mC (.int 10)) (mVar 3)) (mIntS (mVar 4))))
    (mSeq (mSet 3 (mVar 5))
    (mSeq (mSet 6 (mC (.int 0)))
    (mSeq (mSet 7 (mLst aNil))
    (mSeq (mFor (iT (mTup (aCons (mC (.int 8)) (aCons (mC (.int 4)) (aCons (mC (.int 2)) (aCons (mC (.int 1)) aNil)))))) (gNm 8) f__law_tries_1)
    (mApp 2 (mTup (aCons (mVar 5) (aCons (mTupOf (mVar 7)) (aCons (mVar 6) (aCons (mVar 3) aNil)))))))))))
noncomputable def b__law_tries : MS := (mSeq (mSet 2 (mLst aNil))
    (mSeq (mSet 3 (mC (.int 0)))
    (mSeq (mFor (iS (mStr (mVar 0))) (gNm 4) f__law_tries_2)
    (mRet (mTupOf (mVar 2))))))
noncomputable def m__law_tries : Mir := mDef 10 2 b__law_tries
abbrev s__law_some_whole : Stmt := topS 29
theorem sc__law_some_whole : FnScope ["_law_way", "_law_far", "_law_many", "_law_whole", "_law_part", "_law_some"] ["_law_way", "_law_far", "_law_many"] (defScope s__law_some_whole) := ⟨rfl, rfl, rfl, by decide +kernel, rfl, by decide +kernel, by decide +kernel⟩
noncomputable def b__law_some_whole : MS := (mSeq (mSet 3 (mCall m__law_power (aCons (mC (.int 10)) (aCons (mVar 2) aNil))))
    (mSeq (mSet 4 (mCall m__law_power (aCons (mC (.int 10)) (aCons (mMod (mVar 1) (mVar 2)) aNil))))
    (mSeq (mSet 5 (mLst (aCons (mC (.int 0)) (aCons (mSub (mVar 3) (mC (.int 1))) (aCons (mMul (mC (.int 5)) (mVar 4)) (aCons (mVar 4) (aCons (mSub (mVar 4) (mC (.int 1))) (aCons (mSub (mVar 3) (mVar 4)) (aCons (mDiv (mVar 3) (mC (.int 2))) (aCons (mAdd (mMul (mC (.int 9)) (mVar 4)) (mC (.int 1))) aNil))))))))))
    (mSeq (mIf (mT (mLt (mVar 0) (mC (.int 8)))) (mRet (mMod (mIxL (mVar 5) (mVar 0)) (mVar 3))) mSkip)
    (mRet (mMod (mVar 1) (mVar 3)))))))
noncomputable def m__law_some_whole : Mir := mDef 6 3 b__law_some_whole
abbrev s_law : Stmt := topS 30
theorem sc_law : FnScope ["_law_script", "_law_far", "_law_one", "_law_other", "_law_due", "_law_paper", "_law_found", "_law_spoil", "_law_way", "_law_many", "_law_fewer", "_law_first", "_law_second", "_law_at", "_law_to", "_law_number"] ["_law_script"] (defScope s_law) := ⟨rfl, rfl, rfl, by decide +kernel, rfl, by decide +kernel, by decide +kernel⟩
noncomputable def b_law : MS := (mSeq (mAsgL (gCons' (gNm 7) (gCons' (gNm 8) (gCons' (gNm 9) (gCons' (gNm 10) (gCons' (gNm 11) (gCons' (gNm 12) gNil')))))) (mCall m__law_draws (aCons (mCall m__law_cell (aCons (mVar 0) (aCons (mC (.int 0)) aNil))) (aCons (mC (.int 461)) (aCons (mLst (aCons (mC (.int 4)) (aCons (mC (.int 13)) (aCons (mC (.int 12)) (aCons (mC (.int 6)) (aCons (mC (.int 10)) (aCons (mC (.int 10)) aNil))))))) aNil)))))
    (mSeq (mAsgL (gCons' (gNm 13) (gCons' (gNm 14) (gCons' (gNm 15) gNil'))) (mCall m__law_draws (aCons (mCall m__law_cell (aCons (mVar 0) (aCons (mC (.int 1)) aNil))) (aCons (mC (.int 463)) (aCons (mLst (aCons (mC (.int 9973)) (aCons (mC (.int 97)) (aCons (mC (.int 89)) aNil)))) aNil)))))
    (mSeq (mSet 1 (mCall m__law_draws (aCons (mCall m__law_cell (aCons (mVar 0) (aCons (mC (.int 2)) aNil))) (aCons (mC (.int 465)) (aCons (mLst (aCons (mPow (mC (.int 10)) (mC (.int 14))) (aCons (mPow (mC (.int 10)) (mC (.int 14))) aNil))) aNil)))))
    (mSeq (mSet 2 (mCall m__law_some_whole (aCons (mVar 11) (aCons (mIxL (mVar 1) (mC (.int 0))) (aCons (mAdd (mC (.int 1)) (mVar 9)) aNil)))))
    (mSeq (mSet 3 (mMax' (mC (.int 1)) (mCall m__law_some_whole (aCons (mVar 12) (aCons (mIxL (mVar 1) (mC (.int 1))) (aCons (mAdd (mC (.int 1)) (mVar 10)) aNil))))))
    (mSeq (mSet 4 (mCall m__law_tries (aCons (mVar 2) (aCons (mVar 3) aNil))))
    (mSeq (mSet 5 (mVar 4))
    (mSeq (mIf (tAndM (mT (mGt (mVar 7) (mC (.int 0)))) (mT (mLt (mVar 8) (mC (.int 12))))) (mSet 5 (mCall m__law_paper_spoilt (aCons (mVar 4) (aCons (mVar 8) (aCons (mVar 13) (aCons (mVar 14) (aCons (mVar 15) (aCons (mTup aNil) aNil)))))))) mSkip)
    (mSeq (mIf (tAndM (mT (mGt (mVar 7) (mC (.int 0)))) (mT (mEqS (mVar 8) (mC (.int 12))))) (mSet 5 (mCatT (mCall m__law_tries (aCons (mC (.int 0)) (aCons (mVar 3) aNil))) (mVar 4))) mSkip)
    (mSeq (mSet 6 (mCall m_tries_hold (aCons (mVar 2) (aCons (mVar 3) (aCons (mVar 5) aNil)))))
    (mRet (mAndV (mIsi "bool" (mVar 6)) (mEqS (mVar 6) (mCall (m__law_just 6) (aCons (mVar 5) (aCons (mVar 4) aNil))))))))))))))))
noncomputable def m_law : Mir := mDef 16 1 b_law
section
variable {P : Program} {w : World} {K : PySem.W.Frag} {mg : Str → Option Value} {base : Heap}
theorem stp_same {f : Addr} {fd : FuncData} (z_isinstance : mg "isinstance" = none) (z_tuple : mg "tuple" = none) (z_len : mg "len" = none) (z_all : mg "all" = none) (z_zip : mg "zip" = none) (z_bool : mg "bool" = none) {c T : Addr} (tp : TabP K mg "same" c T) (TB : GxR.TabB base mg c T) (F : Fun K "same" "same" s_same f fd) (gm : mg "same" = some (.ref f)) (hb : Binds K fd ["due", "thing"] []) {j : Nat} {mr : Mir} (h_same : Cal P w K mg base "same" (0 + 2 * j) mr) : Cal P w K mg base "same" (0 + 2 * j + 2) (mDef 2 2 (b_same mr)) :=
  ⟨f, fd, _, d_okG (k := 0 + 2 * j + 1) F sc_same gm tp (fun A outer s H E hr => by
    have nd := sc_same.nd
    exact (b_cons (s_if (t_val (x_isi z_isinstance z_tuple PyProof.Rows.boot_tuple (x_var 0))) (b_one (s_ret (x_andV (x_isi z_isinstance z_tuple PyProof.Rows.boot_tuple (x_var 1)) (x_andV (x_eqS (x_len z_len (x_var 1)) (x_len z_len (x_var 0))) (x_one (x_allE (0 + 2 * j) (N := ["a", "b"]) hr z_all tp TB rfl (i_zipT z_zip (x_var 0) (x_var 1)) (fun A' code C s4 H4 fp hr => ⟨(g_tp rfl (gs_cons (g_nm 0 (show (["a", "b"] : List Str).Nodup by decide)) (gs_cons (g_nm 1 (show (["a", "b"] : List Str).Nodup by decide)) gs_nil)) (hl := (gs_lenS (gs_lenS gs_len0)))), (x_cal h_same (hr.mono (by omega)) (a_cons (x_var 0) (a_cons (x_var 1) a_nil)))⟩))))))) b_nil)
      (b_one (s_ret (x_andV (x_eqS (x_isi z_isinstance z_bool PyProof.Rows.boot_bool (x_var 1)) (x_isi z_isinstance z_bool PyProof.Rows.boot_bool (x_var 0))) (x_one (x_eqD (hr.units) (x_var 1) (x_var 0)))))))), gm, F.kp, hb⟩
theorem all_same {f : Addr} {fd : FuncData} (z_isinstance : mg "isinstance" = none) (z_tuple : mg "tuple" = none) (z_len : mg "len" = none) (z_all : mg "all" = none) (z_zip : mg "zip" = none) (z_bool : mg "bool" = none) {c T : Addr} (tp : TabP K mg "same" c T) (TB : GxR.TabB base mg c T) (F : Fun K "same" "same" s_same f fd) (gm : mg "same" = some (.ref f)) (hb : Binds K fd ["due", "thing"] []) : ∀ j, Cal P w K mg base "same" (0 + 2 * j) (m_same j)
  | 0 => cal_none F gm hb
  | j + 1 => stp_same z_isinstance z_tuple z_len z_all z_zip z_bool tp TB F gm hb (all_same z_isinstance z_tuple z_len z_all z_zip z_bool tp TB F gm hb j)
theorem ok_same {f : Addr} {fd : FuncData} (z_isinstance : mg "isinstance" = none) (z_tuple : mg "tuple" = none) (z_len : mg "len" = none) (z_all : mg "all" = none) (z_zip : mg "zip" = none) (z_bool : mg "bool" = none) {c T : Addr} (tp : TabP K mg "same" c T) (TB : GxR.TabB base mg c T) (F : Fun K "same" "same" s_same f fd) (gm : mg "same" = some (.ref f)) (hb : Binds K fd ["due", "thing"] []) : Cal P w K mg base "same" 12 (m_same 6) := all_same z_isinstance z_tuple z_len z_all z_zip z_bool tp TB F gm hb 6
theorem ok_ten_to {f : Addr} {fd : FuncData} (z_range : mg "range" = none) (F : Fun K "ten_to" "ten_to" s_ten_to f fd) (gm : mg "ten_to" = some (.ref f)) (hb : Binds K fd ["many"] []) : Cal P w K mg base "ten_to" 1 m_ten_to :=
  ⟨f, fd, _, d_ok (k := 0) F sc_ten_to (fun cdv A outer s H E hr => by
    have nd := sc_ten_to.nd
    exact (b_cons (s_set 1 nd x_int)
      (b_cons (s_for (i_r1 z_range (x_var 0)) (g_nm 2 nd)
      (b_one (s_aug 1 iop_mul (fun i j h => show CMul i j by unfold CMul; exact okP_of h) nd x_int)))
      (b_one (s_retV 1))))), gm, F.kp, hb⟩
theorem ok_refuse_beyond {f : Addr} {fd : FuncData} (r_NoFit : Xc1 P w K mg base "NoFit" "number") (F : Fun K "refuse_beyond" "refuse_beyond" s_refuse_beyond f fd) (gm : mg "refuse_beyond" = some (.ref f)) (hb : Binds K fd ["number", "least", "most"] []) : CalX P w K mg base "refuse_beyond" 3 m_refuse_beyond :=
  ⟨f, fd, _, d_okX (k := 2) F sc_refuse_beyond (fun cdv A outer s H E hr tk => by
    have nd := sc_refuse_beyond.nd
    exact (b_one (s_if (t_not (t_chain op_le op_le (x_var 1) (x_var 0) (x_var 2))) (b_one (s_raise1 r_NoFit rfl (hr.mono (by decide)) tk (x_var 0))) b_nil))), gm, F.kp, hb⟩
theorem ok_line_of_tries {f : Addr} {fd : FuncData} (z_tuple : mg "tuple" = none) (c_TRIES : Gcon K mg "TRIES" (.tup [(.int (8)), (.int (4)), (.int (2)), (.int (1))])) (F : Fun K "line_of_tries" "line_of_tries" s_line_of_tries f fd) (gm : mg "line_of_tries" = some (.ref f)) (hb : Binds K fd ["ahead", "other"] []) : Cal P w K mg base "line_of_tries" 1 m_line_of_tries :=
  ⟨f, fd, _, d_ok (k := 0) F sc_line_of_tries (fun cdv A outer s H E hr => by
    have nd := sc_line_of_tries.nd
    exact (b_cons (s_set 2 nd (x_lst a_nil))
      (b_cons (s_set 3 nd x_int)
      (b_cons (s_set 4 nd (x_var 0))
      (b_cons (s_for (i_t (x_gcon c_TRIES)) (g_nm 5 nd)
      (b_cons (s_set 6 nd (x_mul (x_var 5) (x_var 1)))
      (b_cons (s_set 7 nd (x_le (x_var 6) (x_var 4)))
      (b_cons (s_app 2 (x_tup (a_cons (x_var 5) (a_cons (x_var 6) (a_cons (x_var 7) a_nil)))))
      (b_one (s_if (t_val (x_var 7)) (b_cons (s_aug 3 (op0 iop_add) (fun _ _ _ => trivial) nd (x_var 5))
      (b_one (s_aug 4 (op0 iop_sub) (fun _ _ _ => trivial) nd (x_var 6)))) b_nil))))))
      (b_one (s_ret (x_tup (a_cons (x_var 0) (a_cons (x_tupOf z_tuple (x_var 2)) (a_cons (x_var 3) (a_cons (x_var 4) a_nil)))))))))))), gm, F.kp, hb⟩
theorem ok_tries {f : Addr} {fd : FuncData} (h_ten_to : Cal P w K mg base "ten_to" 1 m_ten_to) (h_refuse_beyond : CalX P w K mg base "refuse_beyond" 3 m_refuse_beyond) (h_line_of_tries : Cal P w K mg base "line_of_tries" 1 m_line_of_tries) (z_str : mg "str" = none) (z_int : mg "int" = none) (z_tuple : mg "tuple" = none) (c_MOST_FIGURES : Gcon K mg "MOST_FIGURES" (.int (12))) (r_Nought : Xc0 P w K mg base "Nought" ) (F : Fun K "tries" "tries" s_tries f fd) (gm : mg "tries" = some (.ref f)) (hb : Binds K fd ["one", "other"] []) : CalX P w K mg base "tries" 4 m_tries :=
  ⟨f, fd, _, d_okX (k := 3) F sc_tries (fun cdv A outer s H E hr tk => by
    have nd := sc_tries.nd
    exact (b_cons (s_if (t_eqS (x_var 1) x_int) (b_one (s_raise0 r_Nought rfl (hr.mono (by decide)) tk x_str)) b_nil)
      (b_cons (s_set 2 nd (x_sub (x_cal h_ten_to (hr.mono (by decide)) (a_cons (x_gcon c_MOST_FIGURES) a_nil)) x_int))
      (b_cons (s_exprX h_refuse_beyond (hr.mono (by decide)) tk (a_cons (x_var 0) (a_cons x_int (a_cons (x_var 2) a_nil))))
      (b_cons (s_exprX h_refuse_beyond (hr.mono (by decide)) tk (a_cons (x_var 1) (a_cons x_int (a_cons (x_var 2) a_nil))))
      (b_cons (s_set 3 nd (x_lst a_nil))
      (b_cons (s_set 4 nd x_int)
      (b_cons (s_for (i_s (x_str1 z_str (x_var 0))) (g_nm 5 nd)
      (b_cons (s_set 6 nd (x_cal h_line_of_tries (hr.mono (by decide)) (a_cons (x_add (x_mul x_int (x_var 4)) (x_intS z_int (x_var 5))) (a_cons (x_var 1) a_nil))))
      (b_cons (s_app 3 (x_var 6))
      (b_one (s_set 4 nd (x_ixT (x_var 6) (x_neg x_int)))))) (hfor := fun _ _ _ h1 h2 h3 => ps_for (passes_of rfl) rfl h1 h2 h3))
      (b_one (s_ret (x_tupOf z_tuple (x_var 3)))))))))))), gm, F.kp, hb⟩
theorem ok_tries_hold {f : Addr} {fd : FuncData} (h_same : Cal P w K mg base "same" 12 (m_same 6)) (h_tries : CalX P w K mg base "tries" 4 m_tries) (F : Fun K "tries_hold" "tries_hold" s_tries_hold f fd) (gm : mg "tries_hold" = some (.ref f)) (hb : Binds K fd ["one", "other", "paper"] []) : Cal P w K mg base "tries_hold" 13 m_tries_hold :=
  ⟨f, fd, _, d_ok (k := 12) F sc_tries_hold (fun cdv A outer s H E hr => by
    have nd := sc_tries_hold.nd
    exact (b_one (s_ret (x_cal h_same (hr.mono (by decide)) (a_cons (x_calX h_tries (hr.mono (by decide)) (a_cons (x_var 0) (a_cons (x_var 1) a_nil))) (a_cons (x_var 2) a_nil)))))), gm, F.kp, hb⟩
theorem ok__law_cell {f : Addr} {fd : FuncData} (z_len : mg "len" = none) (F : Fun K "_law_cell" "_law_cell" s__law_cell f fd) (gm : mg "_law_cell" = some (.ref f)) (hb : Binds K fd ["_law_script", "_law_k"] []) : Cal P w K mg base "_law_cell" 1 m__law_cell :=
  ⟨f, fd, _, d_ok (k := 0) F sc__law_cell (fun cdv A outer s H E hr => by
    have nd := sc__law_cell.nd
    exact (b_cons (s_if (t_lt (x_var 1) (x_len z_len (x_var 0))) (b_one (s_ret (x_ixL (x_var 0) (x_var 1)))) b_nil)
      (b_cons (s_if (t_eqS (x_len z_len (x_var 0)) x_int) (b_one (s_ret (x_mul x_int (x_add (x_var 1) x_int)))) b_nil)
      (b_one (s_ret (x_add (x_ixL (x_var 0) (x_mod (x_var 1) (x_len z_len (x_var 0)))) (x_mul x_int (x_var 1)))))))), gm, F.kp, hb⟩
theorem ok__law_mixed {f : Addr} {fd : FuncData} (F : Fun K "_law_mixed" "_law_mixed" s__law_mixed f fd) (gm : mg "_law_mixed" = some (.ref f)) (hb : Binds K fd ["_law_cell_here", "_law_k", "_law_salt"] []) : Cal P w K mg base "_law_mixed" 1 m__law_mixed :=
  ⟨f, fd, _, d_ok (k := 0) F sc__law_mixed (fun cdv A outer s H E hr => by
    have nd := sc__law_mixed.nd
    exact (b_cons (s_set 3 nd (x_lst (a_cons x_int (a_cons x_int (a_cons x_int (a_cons x_int (a_cons x_int (a_cons x_int (a_cons x_int (a_cons x_int a_nil))))))))))
      (b_cons (s_set 4 nd (x_mod (x_add (x_add (x_add (x_var 0) (x_mul x_int (x_var 2))) (x_mul x_int (x_var 1))) x_int) x_int))
      (b_cons (s_set 4 nd (x_mod (x_pow (x_var 4) x_int) (x_ixL (x_var 3) (x_mod (x_var 1) x_int))))
      (b_cons (s_set 5 nd (x_mod (x_add (x_add (x_var 4) (x_mul x_int (x_var 2))) (x_var 1)) x_int))
      (b_one (s_ret (x_add (x_mul (x_mod (x_pow (x_var 5) x_int) x_int) x_int) (x_var 4))))))))), gm, F.kp, hb⟩
theorem ok__law_draws {f : Addr} {fd : FuncData} (h__law_mixed : Cal P w K mg base "_law_mixed" 1 m__law_mixed) (z_abs : mg "abs" = none) (z_range : mg "range" = none) (z_len : mg "len" = none) (F : Fun K "_law_draws" "_law_draws" s__law_draws f fd) (gm : mg "_law_draws" = some (.ref f)) (hb : Binds K fd ["_law_cell_here", "_law_salt", "_law_widths"] []) : Cal P w K mg base "_law_draws" 2 m__law_draws :=
  ⟨f, fd, _, d_ok (k := 1) F sc__law_draws (fun cdv A outer s H E hr => by
    have nd := sc__law_draws.nd
    exact (b_cons (s_set 3 nd (x_lst a_nil))
      (b_cons (s_set 4 nd x_int)
      (b_cons (s_if (t_ge (x_abs z_abs (x_var 0)) (x_pow x_int x_int)) (b_one (s_set 4 nd (x_abs z_abs (x_var 0)))) b_nil)
      (b_cons (s_for (i_r1 z_range (x_len z_len (x_var 2))) (g_nm 5 nd)
      (b_one (s_if (t_gt (x_var 4) x_int) (b_cons (s_app 3 (x_mod (x_var 4) (x_ixL (x_var 2) (x_var 5))))
      (b_one (s_set 4 nd (x_div (x_var 4) (x_ixL (x_var 2) (x_var 5)))))) (b_one (s_app 3 (x_mod (x_cal h__law_mixed (hr.mono (by decide)) (a_cons (x_var 0) (a_cons (x_var 5) (a_cons (x_var 1) a_nil)))) (x_ixL (x_var 2) (x_var 5))))))))
      (b_one (s_retV 3))))))), gm, F.kp, hb⟩
theorem ok__law_power {f : Addr} {fd : FuncData} (z_range : mg "range" = none) (F : Fun K "_law_power" "_law_power" s__law_power f fd) (gm : mg "_law_power" = some (.ref f)) (hb : Binds K fd ["_law_base", "_law_many"] []) : Cal P w K mg base "_law_power" 1 m__law_power :=
  ⟨f, fd, _, d_ok (k := 0) F sc__law_power (fun cdv A outer s H E hr => by
    have nd := sc__law_power.nd
    exact (b_cons (s_set 2 nd x_int)
      (b_cons (s_for (i_r1 z_range (x_var 1)) (g_nm 3 nd)
      (b_one (s_set 2 nd (x_mul (x_var 2) (x_var 0)))))
      (b_one (s_retV 2))))), gm, F.kp, hb⟩
theorem stp__law_just {f : Addr} {fd : FuncData} (z_isinstance : mg "isinstance" = none) (z_tuple : mg "tuple" = none) (z_len : mg "len" = none) (z_all : mg "all" = none) (z_zip : mg "zip" = none) (z_str : mg "str" = none) (z_int : mg "int" = none) (z_bool : mg "bool" = none) (F : Fun K "_law_just" "_law_just" s__law_just f fd) (gm : mg "_law_just" = some (.ref f)) (hb : Binds K fd ["_law_found", "_law_due"] []) {j : Nat} {mr : Mir} (h__law_just : Cal P w K mg base "_law_just" (0 + j) mr) : Cal P w K mg base "_law_just" (0 + j + 1) (mDef 4 2 (b__law_just mr)) :=
  ⟨f, fd, _, d_ok (k := 0 + j) F sc__law_just (fun cdv A outer s H E hr => by
    have nd := sc__law_just.nd
    exact (b_cons (s_if (t_val (x_isi z_isinstance z_tuple PyProof.Rows.boot_tuple (x_var 1))) (b_cons (s_if (t_or (t_not (t_val (x_isi z_isinstance z_tuple PyProof.Rows.boot_tuple (x_var 0)))) (w_or1 (t_neS (x_len z_len (x_var 0)) (x_len z_len (x_var 1))))) (b_one (s_ret x_bl)) b_nil)
      (b_one (s_ret (x_all rfl z_all (x_lc (own := [("_law_part", 2), ("_law_wanted", 3)]) nd rfl (i_zipT z_zip (x_var 0) (x_var 1)) (blkOk_by (N := ["_law_found", "_law_due", "_law_part", "_law_wanted"]) (sc := defScope s__law_just) (by decide +kernel)) (by decide) (fun _ _ _ _ _ => (gw_tp (gsw_cons (gw_nm 2 nd) (gsw_cons (gw_nm 3 nd) gsw_nil)) (gs_lenS (gs_lenS gs_len0)))) (fun _ _ _ _ _ => (x_cal h__law_just (hr.mono (by omega)) (a_cons (x_var 2) (a_cons (x_var 3) a_nil))))))))) b_nil)
      (b_cons (s_if (t_or (t_val (x_isi z_isinstance z_str PyProof.Rows.boot_str (x_var 1))) (w_or1 (t_isN (x_var 1)))) (b_one (s_ret (x_andV (x_eqS (x_isi z_isinstance z_str PyProof.Rows.boot_str (x_var 0)) (x_isi z_isinstance z_str PyProof.Rows.boot_str (x_var 1))) (x_one (x_eqD (hr.units) (x_var 0) (x_var 1)))))) b_nil)
      (b_cons (s_if (t_or (t_not (t_val (x_isi z_isinstance z_int PyProof.Rows.boot_int (x_var 0)))) (w_or1 (t_neS (x_isi z_isinstance z_bool PyProof.Rows.boot_bool (x_var 0)) (x_isi z_isinstance z_bool PyProof.Rows.boot_bool (x_var 1))))) (b_one (s_ret x_bl)) b_nil)
      (b_one (s_ret (x_eqD (hr.units) (x_var 0) (x_var 1)))))))), gm, F.kp, hb⟩
theorem all__law_just {f : Addr} {fd : FuncData} (z_isinstance : mg "isinstance" = none) (z_tuple : mg "tuple" = none) (z_len : mg "len" = none) (z_all : mg "all" = none) (z_zip : mg "zip" = none) (z_str : mg "str" = none) (z_int : mg "int" = none) (z_bool : mg "bool" = none) (F : Fun K "_law_just" "_law_just" s__law_just f fd) (gm : mg "_law_just" = some (.ref f)) (hb : Binds K fd ["_law_found", "_law_due"] []) : ∀ j, Cal P w K mg base "_law_just" (0 + j) (m__law_just j)
  | 0 => cal_none F gm hb
  | j + 1 => stp__law_just z_isinstance z_tuple z_len z_all z_zip z_str z_int z_bool F gm hb (all__law_just z_isinstance z_tuple z_len z_all z_zip z_str z_int z_bool F gm hb j)
theorem ok__law_just {f : Addr} {fd : FuncData} (z_isinstance : mg "isinstance" = none) (z_tuple : mg "tuple" = none) (z_len : mg "len" = none) (z_all : mg "all" = none) (z_zip : mg "zip" = none) (z_str : mg "str" = none) (z_int : mg "int" = none) (z_bool : mg "bool" = none) (F : Fun K "_law_just" "_law_just" s__law_just f fd) (gm : mg "_law_just" = some (.ref f)) (hb : Binds K fd ["_law_found", "_law_due"] []) : Cal P w K mg base "_law_just" 6 (m__law_just 6) := all__law_just z_isinstance z_tuple z_len z_all z_zip z_str z_int z_bool F gm hb 6
theorem stp__law_paper_cells {f : Addr} {fd : FuncData} (z_isinstance : mg "isinstance" = none) (z_tuple : mg "tuple" = none) (z_enumerate : mg "enumerate" = none) (F : Fun K "_law_paper_cells" "_law_paper_cells" s__law_paper_cells f fd) (gm : mg "_law_paper_cells" = some (.ref f)) (hb : Binds K fd ["_law_thing", "_law_path"] []) {j : Nat} {mr : Mir} (h__law_paper_cells : Cal P w K mg base "_law_paper_cells" (0 + j) mr) : Cal P w K mg base "_law_paper_cells" (0 + j + 1) (mDef 5 2 (b__law_paper_cells mr)) :=
  ⟨f, fd, _, d_ok (k := 0 + j) F sc__law_paper_cells (fun cdv A outer s H E hr => by
    have nd := sc__law_paper_cells.nd
    exact (b_cons (s_if (t_not (t_val (x_isi z_isinstance z_tuple PyProof.Rows.boot_tuple (x_var 0)))) (b_one (s_ret (x_lst (a_cons (x_var 1) a_nil)))) b_nil)
      (b_cons (s_set 2 nd (x_lst a_nil))
      (b_cons (s_for (i_enumT z_enumerate (x_var 0)) (g_tp rfl (gs_cons (g_nm 3 nd) (gs_cons (g_nm 4 nd) gs_nil)) (hl := (gs_lenS (gs_lenS gs_len0))))
      (b_one (s_ext 2 (x_cal h__law_paper_cells (hr.mono (by omega)) (a_cons (x_var 4) (a_cons (x_catT (x_var 1) (x_tup (a_cons (x_var 3) a_nil))) a_nil))))))
      (b_one (s_retV 2)))))), gm, F.kp, hb⟩
theorem all__law_paper_cells {f : Addr} {fd : FuncData} (z_isinstance : mg "isinstance" = none) (z_tuple : mg "tuple" = none) (z_enumerate : mg "enumerate" = none) (F : Fun K "_law_paper_cells" "_law_paper_cells" s__law_paper_cells f fd) (gm : mg "_law_paper_cells" = some (.ref f)) (hb : Binds K fd ["_law_thing", "_law_path"] []) : ∀ j, Cal P w K mg base "_law_paper_cells" (0 + j) (m__law_paper_cells j)
  | 0 => cal_none F gm hb
  | j + 1 => stp__law_paper_cells z_isinstance z_tuple z_enumerate F gm hb (all__law_paper_cells z_isinstance z_tuple z_enumerate F gm hb j)
theorem ok__law_paper_cells {f : Addr} {fd : FuncData} (z_isinstance : mg "isinstance" = none) (z_tuple : mg "tuple" = none) (z_enumerate : mg "enumerate" = none) (F : Fun K "_law_paper_cells" "_law_paper_cells" s__law_paper_cells f fd) (gm : mg "_law_paper_cells" = some (.ref f)) (hb : Binds K fd ["_law_thing", "_law_path"] []) : Cal P w K mg base "_law_paper_cells" 6 (m__law_paper_cells 6) := all__law_paper_cells z_isinstance z_tuple z_enumerate F gm hb 6
theorem stp__law_paper_tuples {f : Addr} {fd : FuncData} (z_isinstance : mg "isinstance" = none) (z_tuple : mg "tuple" = none) (z_len : mg "len" = none) (z_enumerate : mg "enumerate" = none) (F : Fun K "_law_paper_tuples" "_law_paper_tuples" s__law_paper_tuples f fd) (gm : mg "_law_paper_tuples" = some (.ref f)) (hb : Binds K fd ["_law_thing", "_law_path"] []) {j : Nat} {mr : Mir} (h__law_paper_tuples : Cal P w K mg base "_law_paper_tuples" (0 + j) mr) : Cal P w K mg base "_law_paper_tuples" (0 + j + 1) (mDef 5 2 (b__law_paper_tuples mr)) :=
  ⟨f, fd, _, d_ok (k := 0 + j) F sc__law_paper_tuples (fun cdv A outer s H E hr => by
    have nd := sc__law_paper_tuples.nd
    exact (b_cons (s_set 2 nd (x_lst a_nil))
      (b_cons (s_if (t_and (t_val (x_isi z_isinstance z_tuple PyProof.Rows.boot_tuple (x_var 0))) (w_and1 (t_gt (x_len z_len (x_var 0)) x_int))) (b_cons (s_app 2 (x_var 1))
      (b_one (s_for (i_enumT z_enumerate (x_var 0)) (g_tp rfl (gs_cons (g_nm 3 nd) (gs_cons (g_nm 4 nd) gs_nil)) (hl := (gs_lenS (gs_lenS gs_len0))))
      (b_one (s_ext 2 (x_cal h__law_paper_tuples (hr.mono (by omega)) (a_cons (x_var 4) (a_cons (x_catT (x_var 1) (x_tup (a_cons (x_var 3) a_nil))) a_nil)))))))) b_nil)
      (b_one (s_retV 2))))), gm, F.kp, hb⟩
theorem all__law_paper_tuples {f : Addr} {fd : FuncData} (z_isinstance : mg "isinstance" = none) (z_tuple : mg "tuple" = none) (z_len : mg "len" = none) (z_enumerate : mg "enumerate" = none) (F : Fun K "_law_paper_tuples" "_law_paper_tuples" s__law_paper_tuples f fd) (gm : mg "_law_paper_tuples" = some (.ref f)) (hb : Binds K fd ["_law_thing", "_law_path"] []) : ∀ j, Cal P w K mg base "_law_paper_tuples" (0 + j) (m__law_paper_tuples j)
  | 0 => cal_none F gm hb
  | j + 1 => stp__law_paper_tuples z_isinstance z_tuple z_len z_enumerate F gm hb (all__law_paper_tuples z_isinstance z_tuple z_len z_enumerate F gm hb j)
theorem ok__law_paper_tuples {f : Addr} {fd : FuncData} (z_isinstance : mg "isinstance" = none) (z_tuple : mg "tuple" = none) (z_len : mg "len" = none) (z_enumerate : mg "enumerate" = none) (F : Fun K "_law_paper_tuples" "_law_paper_tuples" s__law_paper_tuples f fd) (gm : mg "_law_paper_tuples" = some (.ref f)) (hb : Binds K fd ["_law_thing", "_law_path"] []) : Cal P w K mg base "_law_paper_tuples" 6 (m__law_paper_tuples 6) := all__law_paper_tuples z_isinstance z_tuple z_len z_enumerate F gm hb 6
theorem stp__law_put_in {f : Addr} {fd : FuncData} (z_len : mg "len" = none) (F : Fun K "_law_put_in" "_law_put_in" s__law_put_in f fd) (gm : mg "_law_put_in" = some (.ref f)) (hb : Binds K fd ["_law_thing", "_law_path", "_law_part"] []) {j : Nat} {mr : Mir} (h__law_put_in : Cal P w K mg base "_law_put_in" (0 + j) mr) : Cal P w K mg base "_law_put_in" (0 + j + 1) (mDef 4 3 (b__law_put_in mr)) :=
  ⟨f, fd, _, d_ok (k := 0 + j) F sc__law_put_in (fun cdv A outer s H E hr => by
    have nd := sc__law_put_in.nd
    exact (b_cons (s_if (t_eqS (x_len z_len (x_var 1)) x_int) (b_one (s_retV 2)) b_nil)
      (b_cons (s_set 3 nd (x_ixT (x_var 1) x_int))
      (b_one (s_ret (x_catT (x_catT (x_slT (x_var 0) o_none (o_some (x_var 3))) (x_tup (a_cons (x_cal h__law_put_in (hr.mono (by omega)) (a_cons (x_ixT (x_var 0) (x_var 3)) (a_cons (x_slT (x_var 1) (o_some x_int) o_none) (a_cons (x_var 2) a_nil)))) a_nil))) (x_slT (x_var 0) (o_some (x_add (x_var 3) x_int)) o_none))))))), gm, F.kp, hb⟩
theorem all__law_put_in {f : Addr} {fd : FuncData} (z_len : mg "len" = none) (F : Fun K "_law_put_in" "_law_put_in" s__law_put_in f fd) (gm : mg "_law_put_in" = some (.ref f)) (hb : Binds K fd ["_law_thing", "_law_path", "_law_part"] []) : ∀ j, Cal P w K mg base "_law_put_in" (0 + j) (m__law_put_in j)
  | 0 => cal_none F gm hb
  | j + 1 => stp__law_put_in z_len F gm hb (all__law_put_in z_len F gm hb j)
theorem ok__law_put_in {f : Addr} {fd : FuncData} (z_len : mg "len" = none) (F : Fun K "_law_put_in" "_law_put_in" s__law_put_in f fd) (gm : mg "_law_put_in" = some (.ref f)) (hb : Binds K fd ["_law_thing", "_law_path", "_law_part"] []) : Cal P w K mg base "_law_put_in" 6 (m__law_put_in 6) := all__law_put_in z_len F gm hb 6
theorem ok__law_part_at {f : Addr} {fd : FuncData} (F : Fun K "_law_part_at" "_law_part_at" s__law_part_at f fd) (gm : mg "_law_part_at" = some (.ref f)) (hb : Binds K fd ["_law_thing", "_law_path"] []) : Cal P w K mg base "_law_part_at" 1 m__law_part_at :=
  ⟨f, fd, _, d_ok (k := 0) F sc__law_part_at (fun cdv A outer s H E hr => by
    have nd := sc__law_part_at.nd
    exact (b_cons (s_for (i_t (x_var 1)) (g_nm 2 nd)
      (b_one (s_set 0 nd (x_ixT (x_var 0) (x_var 2)))))
      (b_one (s_retV 0)))), gm, F.kp, hb⟩
theorem ok__law_changed {f : Addr} {fd : FuncData} (z_str : mg "str" = none) (z_isinstance : mg "isinstance" = none) (z_int : mg "int" = none) (z_bool : mg "bool" = none) (F : Fun K "_law_changed" "_law_changed" s__law_changed f fd) (gm : mg "_law_changed" = some (.ref f)) (hb : Binds K fd ["_law_part", "_law_way", "_law_number"] []) : Cal P w K mg base "_law_changed" 1 m__law_changed :=
  ⟨f, fd, _, d_ok (k := 0) F sc__law_changed (fun cdv A outer s H E hr => by
    have nd := sc__law_changed.nd
    exact (b_cons (s_set 3 nd (x_lst (a_cons x_non (a_cons x_bl (a_cons x_bl (a_cons x_str (a_cons x_str (a_cons x_str (a_cons (x_tup a_nil) (a_cons (x_tup (a_cons (x_var 0) a_nil)) (a_cons (x_neg x_int) (a_cons x_int (a_cons x_int (a_cons (x_strB z_str (x_var 0)) a_nil))))))))))))))
      (b_cons (s_if (t_or (t_gt (x_var 1) x_int) (w_or1 (t_not (t_val (x_isi z_isinstance z_int PyProof.Rows.boot_int (x_var 0)))))) (b_one (s_ret (x_ixL (x_var 3) (x_mod (x_var 2) x_int)))) b_nil)
      (b_cons (s_if (t_val (x_isi z_isinstance z_bool PyProof.Rows.boot_bool (x_var 0))) (b_one (s_ret (x_ixL (x_lst (a_cons (x_notV (x_var 0)) (a_cons (x_intOf z_int (x_var 0)) (a_cons (x_notV (x_var 0)) (a_cons (x_intOf z_int (x_notV (x_var 0))) a_nil))))) (x_var 1)))) b_nil)
      (b_one (s_ret (x_add (x_var 0) (x_ixL (x_lst (a_cons x_int (a_cons (x_neg x_int) (a_cons (x_add x_int (x_var 2)) (a_cons x_int a_nil))))) (x_var 1))))))))), gm, F.kp, hb⟩
theorem ok__law_paper_spoilt {f : Addr} {fd : FuncData} (h__law_paper_cells : Cal P w K mg base "_law_paper_cells" 6 (m__law_paper_cells 6)) (h__law_put_in : Cal P w K mg base "_law_put_in" 6 (m__law_put_in 6)) (h__law_changed : Cal P w K mg base "_law_changed" 1 m__law_changed) (h__law_part_at : Cal P w K mg base "_law_part_at" 1 m__law_part_at) (h__law_paper_tuples : Cal P w K mg base "_law_paper_tuples" 6 (m__law_paper_tuples 6)) (z_len : mg "len" = none) (F : Fun K "_law_paper_spoilt" "_law_paper_spoilt" s__law_paper_spoilt f fd) (gm : mg "_law_paper_spoilt" = some (.ref f)) (hb : Binds K fd ["_law_paper", "_law_way", "_law_at", "_law_to", "_law_number", "_law_lines"] []) : Cal P w K mg base "_law_paper_spoilt" 7 m__law_paper_spoilt :=
  ⟨f, fd, _, d_ok (k := 6) F sc__law_paper_spoilt (fun cdv A outer s H E hr => by
    have nd := sc__law_paper_spoilt.nd
    exact (b_cons (s_if (t_lt (x_var 1) x_int) (b_cons (s_set 8 nd (x_cal h__law_paper_cells (hr.mono (by decide)) (a_cons (x_var 0) (a_cons (x_tup a_nil) a_nil))))
      (b_cons (s_set 9 nd (x_ixL (x_var 8) (x_mod (x_var 2) (x_len z_len (x_var 8)))))
      (b_one (s_ret (x_cal h__law_put_in (hr.mono (by decide)) (a_cons (x_var 0) (a_cons (x_var 9) (a_cons (x_cal h__law_changed (hr.mono (by decide)) (a_cons (x_cal h__law_part_at (hr.mono (by decide)) (a_cons (x_var 0) (a_cons (x_var 9) a_nil))) (a_cons (x_var 1) (a_cons (x_var 4) a_nil)))) a_nil)))))))) b_nil)
      (b_cons (s_if (t_or (t_eqS (x_var 1) x_int) (w_or1 (t_eqS (x_var 1) x_int))) (b_cons (s_set 8 nd (x_cal h__law_paper_tuples (hr.mono (by decide)) (a_cons (x_var 0) (a_cons (x_tup a_nil) a_nil))))
      (b_cons (s_set 9 nd (x_ixL (x_var 8) (x_mod (x_var 3) (x_len z_len (x_var 8)))))
      (b_cons (s_set 10 nd (x_cal h__law_part_at (hr.mono (by decide)) (a_cons (x_var 0) (a_cons (x_var 9) a_nil))))
      (b_cons (s_set 2 nd (x_mod (x_var 2) (x_len z_len (x_var 10))))
      (b_one (s_ret (x_cal h__law_put_in (hr.mono (by decide)) (a_cons (x_var 0) (a_cons (x_var 9) (a_cons (x_catT (x_catT (x_slT (x_var 10) o_none (o_some (x_var 2))) (x_repT3 (x_tup (a_cons (x_ixT (x_var 10) (x_var 2)) a_nil)) (x_sub (x_mul x_int (x_var 1)) x_int))) (x_slT (x_var 10) (o_some (x_add (x_var 2) x_int)) o_none)) a_nil)))))))))) b_nil)
      (b_cons (s_if (t_or (t_eqS (x_var 1) x_int) (w_or1 (t_isN (x_var 5)))) (b_one (s_ret (x_ixL (x_lst (a_cons x_non (a_cons (x_tup a_nil) (a_cons x_str (a_cons x_int (a_cons (x_tup (a_cons (x_var 0) a_nil)) (a_cons (x_revT (x_var 0)) (a_cons x_bl (a_cons (x_repT3 (x_tup (a_cons x_non a_nil)) (x_len z_len (x_var 0))) a_nil))))))))) (x_mod (x_var 4) x_int)))) b_nil)
      (b_cons (s_set 6 nd (x_cal h__law_part_at (hr.mono (by decide)) (a_cons (x_var 0) (a_cons (x_var 5) a_nil))))
      (b_cons (s_set 2 nd (x_mod (x_var 2) (x_len z_len (x_var 6))))
      (b_cons (s_set 7 nd (x_catT (x_slT (x_var 6) o_none (o_some (x_var 2))) (x_slT (x_var 6) (o_some (x_add (x_var 2) x_int)) o_none)))
      (b_cons (s_if (t_eqS (x_var 1) x_int) (b_cons (s_set 3 nd (x_mod (x_var 3) (x_add (x_len z_len (x_var 6)) x_int)))
      (b_one (s_set 7 nd (x_catT (x_catT (x_slT (x_var 6) o_none (o_some (x_var 3))) (x_tup (a_cons (x_ixT (x_var 6) (x_var 2)) a_nil))) (x_slT (x_var 6) (o_some (x_var 3)) o_none))))) b_nil)
      (b_cons (s_if (t_eqS (x_var 1) x_int) (b_cons (s_set 3 nd (x_mod (x_var 3) (x_len z_len (x_var 6))))
      (b_one (s_set 7 nd (x_catT (x_catT (x_slT (x_var 7) o_none (o_some (x_var 3))) (x_tup (a_cons (x_ixT (x_var 6) (x_var 2)) a_nil))) (x_slT (x_var 7) (o_some (x_var 3)) o_none))))) b_nil)
      (b_one (s_ret (x_cal h__law_put_in (hr.mono (by decide)) (a_cons (x_var 0) (a_cons (x_var 5) (a_cons (x_var 7) a_nil))))))))))))))), gm, F.kp, hb⟩
theorem ok__law_tries {f : Addr} {fd : FuncData} (z_str : mg "str" = none) (z_int : mg "int" = none) (z_tuple : mg "tuple" = none) (F : Fun K "_law_tries" "_law_tries" s__law_tries f fd) (gm : mg "_law_tries" = some (.ref f)) (hb : Binds K fd ["_law_one", "_law_other"] []) : Cal P w K mg base "_law_tries" 1 m__law_tries :=
  ⟨f, fd, _, d_ok (k := 0) F sc__law_tries (fun cdv A outer s H E hr => by
    have nd := sc__law_tries.nd
    exact (b_cons (s_set 2 nd (x_lst a_nil))
      (b_cons (s_set 3 nd x_int)
      (b_cons (s_for (i_s (x_str1 z_str (x_var 0))) (g_nm 4 nd)
      (b_cons (s_set 5 nd (x_add (x_mul x_int (x_var 3)) (x_intS z_int (x_var 4))))
      (b_cons (s_set 3 nd (x_var 5))
      (b_cons (s_set 6 nd x_int)
      (b_cons (s_set 7 nd (x_lst a_nil))
      (b_cons (s_for (i_t (x_tup (a_cons x_int (a_cons x_int (a_cons x_int (a_cons x_int a_nil)))))) (g_nm 8 nd)
      (b_cons (s_set 9 nd (x_le (x_mul (x_var 8) (x_var 1)) (x_var 3)))
      (b_cons (s_app 7 (x_tup (a_cons (x_var 8) (a_cons (x_mul (x_var 8) (x_var 1)) (a_cons (x_var 9) a_nil)))))
      (b_one (s_if (t_val (x_var 9)) (b_cons (s_set 3 nd (x_sub (x_var 3) (x_mul (x_var 8) (x_var 1))))
      (b_one (s_set 6 nd (x_add (x_var 6) (x_var 8))))) b_nil)))))
      (b_one (s_app 2 (x_tup (a_cons (x_var 5) (a_cons (x_tupOf z_tuple (x_var 7)) (a_cons (x_var 6) (a_cons (x_var 3) a_nil)))))))))))))
      (b_one (s_ret (x_tupOf z_tuple (x_var 2)))))))), gm, F.kp, hb⟩
theorem ok__law_some_whole {f : Addr} {fd : FuncData} (h__law_power : Cal P w K mg base "_law_power" 1 m__law_power) (F : Fun K "_law_some_whole" "_law_some_whole" s__law_some_whole f fd) (gm : mg "_law_some_whole" = some (.ref f)) (hb : Binds K fd ["_law_way", "_law_far", "_law_many"] []) : Cal P w K mg base "_law_some_whole" 2 m__law_some_whole :=
  ⟨f, fd, _, d_ok (k := 1) F sc__law_some_whole (fun cdv A outer s H E hr => by
    have nd := sc__law_some_whole.nd
    exact (b_cons (s_set 3 nd (x_cal h__law_power (hr.mono (by decide)) (a_cons x_int (a_cons (x_var 2) a_nil))))
      (b_cons (s_set 4 nd (x_cal h__law_power (hr.mono (by decide)) (a_cons x_int (a_cons (x_mod (x_var 1) (x_var 2)) a_nil))))
      (b_cons (s_set 5 nd (x_lst (a_cons x_int (a_cons (x_sub (x_var 3) x_int) (a_cons (x_mul x_int (x_var 4)) (a_cons (x_var 4) (a_cons (x_sub (x_var 4) x_int) (a_cons (x_sub (x_var 3) (x_var 4)) (a_cons (x_div (x_var 3) x_int) (a_cons (x_add (x_mul x_int (x_var 4)) x_int) a_nil))))))))))
      (b_cons (s_if (t_lt (x_var 0) x_int) (b_one (s_ret (x_mod (x_ixL (x_var 5) (x_var 0)) (x_var 3)))) b_nil)
      (b_one (s_ret (x_mod (x_var 1) (x_var 3))))))))), gm, F.kp, hb⟩
theorem ok_law {f : Addr} {fd : FuncData} (h__law_draws : Cal P w K mg base "_law_draws" 2 m__law_draws) (h__law_cell : Cal P w K mg base "_law_cell" 1 m__law_cell) (h__law_some_whole : Cal P w K mg base "_law_some_whole" 2 m__law_some_whole) (h__law_tries : Cal P w K mg base "_law_tries" 1 m__law_tries) (h__law_paper_spoilt : Cal P w K mg base "_law_paper_spoilt" 7 m__law_paper_spoilt) (h_tries_hold : Cal P w K mg base "tries_hold" 13 m_tries_hold) (h__law_just : Cal P w K mg base "_law_just" 6 (m__law_just 6)) (z_max : mg "max" = none) (z_isinstance : mg "isinstance" = none) (z_bool : mg "bool" = none) (F : Fun K "law" "law" s_law f fd) (gm : mg "law" = some (.ref f)) (hb : Binds K fd ["_law_script"] []) : Cal P w K mg base "law" 14 m_law :=
  ⟨f, fd, _, d_ok (k := 13) F sc_law (fun cdv A outer s H E hr => by
    have nd := sc_law.nd
    exact (b_cons (s_asgL rfl (x_cal h__law_draws (hr.mono (by decide)) (a_cons (x_cal h__law_cell (hr.mono (by decide)) (a_cons (x_var 0) (a_cons x_int a_nil))) (a_cons x_int (a_cons (x_lst (a_cons x_int (a_cons x_int (a_cons x_int (a_cons x_int (a_cons x_int (a_cons x_int a_nil))))))) a_nil)))) (gs_cons (g_nm 7 nd) (gs_cons (g_nm 8 nd) (gs_cons (g_nm 9 nd) (gs_cons (g_nm 10 nd) (gs_cons (g_nm 11 nd) (gs_cons (g_nm 12 nd) gs_nil)))))) (hl := (gs_lenS (gs_lenS (gs_lenS (gs_lenS (gs_lenS (gs_lenS gs_len0))))))))
      (b_cons (s_asgL rfl (x_cal h__law_draws (hr.mono (by decide)) (a_cons (x_cal h__law_cell (hr.mono (by decide)) (a_cons (x_var 0) (a_cons x_int a_nil))) (a_cons x_int (a_cons (x_lst (a_cons x_int (a_cons x_int (a_cons x_int a_nil)))) a_nil)))) (gs_cons (g_nm 13 nd) (gs_cons (g_nm 14 nd) (gs_cons (g_nm 15 nd) gs_nil))) (hl := (gs_lenS (gs_lenS (gs_lenS gs_len0)))))
      (b_cons (s_set 1 nd (x_cal h__law_draws (hr.mono (by decide)) (a_cons (x_cal h__law_cell (hr.mono (by decide)) (a_cons (x_var 0) (a_cons x_int a_nil))) (a_cons x_int (a_cons (x_lst (a_cons (x_pow x_int x_int) (a_cons (x_pow x_int x_int) a_nil))) a_nil)))))
      (b_cons (s_set 2 nd (x_cal h__law_some_whole (hr.mono (by decide)) (a_cons (x_var 11) (a_cons (x_ixL (x_var 1) x_int) (a_cons (x_add x_int (x_var 9)) a_nil)))))
      (b_cons (s_set 3 nd (x_max rfl z_max x_int (x_cal h__law_some_whole (hr.mono (by decide)) (a_cons (x_var 12) (a_cons (x_ixL (x_var 1) x_int) (a_cons (x_add x_int (x_var 10)) a_nil))))))
      (b_cons (s_set 4 nd (x_cal h__law_tries (hr.mono (by decide)) (a_cons (x_var 2) (a_cons (x_var 3) a_nil))))
      (b_cons (s_set 5 nd (x_var 4))
      (b_cons (s_if (t_and (t_gt (x_var 7) x_int) (w_and1 (t_lt (x_var 8) x_int))) (b_one (s_set 5 nd (x_cal h__law_paper_spoilt (hr.mono (by decide)) (a_cons (x_var 4) (a_cons (x_var 8) (a_cons (x_var 13) (a_cons (x_var 14) (a_cons (x_var 15) (a_cons (x_tup a_nil) a_nil))))))))) b_nil)
      (b_cons (s_if (t_and (t_gt (x_var 7) x_int) (w_and1 (t_eqS (x_var 8) x_int))) (b_one (s_set 5 nd (x_catT (x_cal h__law_tries (hr.mono (by decide)) (a_cons x_int (a_cons (x_var 3) a_nil))) (x_var 4)))) b_nil)
      (b_cons (s_set 6 nd (x_cal h_tries_hold (hr.mono (by decide)) (a_cons (x_var 2) (a_cons (x_var 3) (a_cons (x_var 5) a_nil)))))
      (b_one (s_ret (x_andV (x_isi z_isinstance z_bool PyProof.Rows.boot_bool (x_var 6)) (x_one (x_eqS (x_var 6) (x_cal h__law_just (hr.mono (by decide)) (a_cons (x_var 5) (a_cons (x_var 4) a_nil))))))))))))))))))), gm, F.kp, hb⟩
end
abbrev si_NoFit : Stmt := inClass (topS 4) 0
theorem sci_NoFit : FnScope ["self", "number"] ["self", "number"] (defScope si_NoFit) := ⟨rfl, rfl, rfl, by decide +kernel, rfl, by decide +kernel, by decide +kernel⟩
theorem ini_NoFit {P : Program} {w : World} {K : PySem.W.Frag} {mg : Str → Option Value} {base : Heap} {f : Addr} {fd : FuncData} (F : Fun K "__init__" "NoFit.__init__" si_NoFit f fd) : FnOk P w K mg base CX0 1 f fd ["self", "number"] (spI1 K "number") := by
  refine F.ok sci_NoFit (fun vs H Q E h => ?_) (fun cdv A outer s H vs Q E hr h => ?_)
  · obtain ⟨a, C, y, rfl, _⟩ := h
    rfl
  · obtain ⟨a, C, y, rfl, T, hno, ha, q⟩ := h
    exact ⟨_, pss_one (ps_ost (pv 0) (pv 1)), ⟨_, rfl, _, rfl, a, C, rfl, T, hno, .inl ⟨ha, q⟩⟩⟩
theorem fn_law {P : Program} {w : World} {K : PySem.W.Frag} {mg : Str → Option Value} {base : Heap} {f : Addr} {fd : FuncData} (h__law_draws : Cal P w K mg base "_law_draws" 2 m__law_draws) (h__law_cell : Cal P w K mg base "_law_cell" 1 m__law_cell) (h__law_some_whole : Cal P w K mg base "_law_some_whole" 2 m__law_some_whole) (h__law_tries : Cal P w K mg base "_law_tries" 1 m__law_tries) (h__law_paper_spoilt : Cal P w K mg base "_law_paper_spoilt" 7 m__law_paper_spoilt) (h_tries_hold : Cal P w K mg base "tries_hold" 13 m_tries_hold) (h__law_just : Cal P w K mg base "_law_just" 6 (m__law_just 6)) (z_max : mg "max" = none) (z_isinstance : mg "isinstance" = none) (z_bool : mg "bool" = none) (F : Fun K "law" "law" s_law f fd) : FnOk P w K mg base CX0 14 f fd ["_law_script"] (spM K mg m_law) :=
  d_ok F sc_law (fun cdv A outer s H E hr => by
    have nd := sc_law.nd
    exact (b_cons (s_asgL rfl (x_cal h__law_draws (hr.mono (by decide)) (a_cons (x_cal h__law_cell (hr.mono (by decide)) (a_cons (x_var 0) (a_cons x_int a_nil))) (a_cons x_int (a_cons (x_lst (a_cons x_int (a_cons x_int (a_cons x_int (a_cons x_int (a_cons x_int (a_cons x_int a_nil))))))) a_nil)))) (gs_cons (g_nm 7 nd) (gs_cons (g_nm 8 nd) (gs_cons (g_nm 9 nd) (gs_cons (g_nm 10 nd) (gs_cons (g_nm 11 nd) (gs_cons (g_nm 12 nd) gs_nil)))))) (hl := (gs_lenS (gs_lenS (gs_lenS (gs_lenS (gs_lenS (gs_lenS gs_len0))))))))
      (b_cons (s_asgL rfl (x_cal h__law_draws (hr.mono (by decide)) (a_cons (x_cal h__law_cell (hr.mono (by decide)) (a_cons (x_var 0) (a_cons x_int a_nil))) (a_cons x_int (a_cons (x_lst (a_cons x_int (a_cons x_int (a_cons x_int a_nil)))) a_nil)))) (gs_cons (g_nm 13 nd) (gs_cons (g_nm 14 nd) (gs_cons (g_nm 15 nd) gs_nil))) (hl := (gs_lenS (gs_lenS (gs_lenS gs_len0)))))
      (b_cons (s_set 1 nd (x_cal h__law_draws (hr.mono (by decide)) (a_cons (x_cal h__law_cell (hr.mono (by decide)) (a_cons (x_var 0) (a_cons x_int a_nil))) (a_cons x_int (a_cons (x_lst (a_cons (x_pow x_int x_int) (a_cons (x_pow x_int x_int) a_nil))) a_nil)))))
      (b_cons (s_set 2 nd (x_cal h__law_some_whole (hr.mono (by decide)) (a_cons (x_var 11) (a_cons (x_ixL (x_var 1) x_int) (a_cons (x_add x_int (x_var 9)) a_nil)))))
      (b_cons (s_set 3 nd (x_max rfl z_max x_int (x_cal h__law_some_whole (hr.mono (by decide)) (a_cons (x_var 12) (a_cons (x_ixL (x_var 1) x_int) (a_cons (x_add x_int (x_var 10)) a_nil))))))
      (b_cons (s_set 4 nd (x_cal h__law_tries (hr.mono (by decide)) (a_cons (x_var 2) (a_cons (x_var 3) a_nil))))
      (b_cons (s_set 5 nd (x_var 4))
      (b_cons (s_if (t_and (t_gt (x_var 7) x_int) (w_and1 (t_lt (x_var 8) x_int))) (b_one (s_set 5 nd (x_cal h__law_paper_spoilt (hr.mono (by decide)) (a_cons (x_var 4) (a_cons (x_var 8) (a_cons (x_var 13) (a_cons (x_var 14) (a_cons (x_var 15) (a_cons (x_tup a_nil) a_nil))))))))) b_nil)
      (b_cons (s_if (t_and (t_gt (x_var 7) x_int) (w_and1 (t_eqS (x_var 8) x_int))) (b_one (s_set 5 nd (x_catT (x_cal h__law_tries (hr.mono (by decide)) (a_cons x_int (a_cons (x_var 3) a_nil))) (x_var 4)))) b_nil)
      (b_cons (s_set 6 nd (x_cal h_tries_hold (hr.mono (by decide)) (a_cons (x_var 2) (a_cons (x_var 3) (a_cons (x_var 5) a_nil)))))
      (b_one (s_ret (x_andV (x_isi z_isinstance z_bool PyProof.Rows.boot_bool (x_var 6)) (x_one (x_eqS (x_var 6) (x_cal h__law_just (hr.mono (by decide)) (a_cons (x_var 5) (a_cons (x_var 4) a_nil)))))))))))))))))))
end Lw

namespace Lw
open PySem PySem.Spec PyProof.Rows L2 Evl Tl TL
theorem cell_ok (ns : List Int) (k : Int) (h0 : 0 ≤ k) : ∃ c, m__law_cell [.ro (ns.map .int), .dat (.int k)] = some (.dat (.int c)) := by
  by_cases h1 : k < (ns.length : Int)
  · obtain ⟨v, hv⟩ := atI_in h0 h1
    exact ⟨v, by simp [m__law_cell, b__law_cell, mDef, okP_iff, okP_iffF, okP_T, okP_F, startC, argC, argN, outR, mSeq, mIf, mT, mLt, mLe, mGt, mGe, mII, cT, mVar, mC, mLen, aCons, aNil, gLen, asInt, asBl, asDat, asStr, asTup, asLst, asTrk, mRet, retR, mRetV, mSet, setR, mIxL, mIxT, mSkip, mEqS, mNeS, eqS, mMul, mAdd, mSub, mDiv, mMod, mPow, mNeg, cMul, cDiv, cMod, cPow, mTup, mLst, dats, szOk, mCall, mAbs', gAbs, mChain, tAndM, tOrM, tNotM, mIfE, mAndV, mOrV, mNotV, mApp, mAug, gNm, gTp, gCons', gNil', mAsg, mAsgL, mFor, iR1, iR2, bnd62, mDrop, mCatS, mCatT, mCatL, mSlT, mSlL, oNone, oSome, mIsi, isiD, mIsN, mNotN, Tl.isNon, mIntOf, gIntB, mMax', mMin', gMax2, gMin2, mEqD, mNeD, mIn, mNi, inF, eqF, mSlS, mIxS, mRaise1, mRaise2, mDefX, outX, okX, callX, mSetX, mExprX, mRetX, mTry, endT, dropX, mExF, mExI, mRevL, mRepL, mStr, gStr, mZf, mRepS, uSeq, uIf, uSet, uSetI, uRet, uRetU, uSkip, callU, mDefU, startU, outU, mSetU, mList, mBand, mBor, mDixV, asDic, iZT, iEnT, mDix, mDixV, mRepT, mDsp, dCons, dNil, mDict, vCons, vNil, scD, dSet, dEnd, putD, mDm, gDm, mTupOf, iN, iV, iT, frzV, mSetTX, mCallE, mRaise0, mMulW, mInL, mCall0, mRepT2, mDgt, h1, atI_map hv]⟩
  · by_cases h2 : (ns.length : Int) = 0
    · exact ⟨7919 * (k + 1), by simp [m__law_cell, b__law_cell, mDef, okP_iff, okP_iffF, okP_T, okP_F, startC, argC, argN, outR, mSeq, mIf, mT, mLt, mLe, mGt, mGe, mII, cT, mVar, mC, mLen, aCons, aNil, gLen, asInt, asBl, asDat, asStr, asTup, asLst, asTrk, mRet, retR, mRetV, mSet, setR, mIxL, mIxT, mSkip, mEqS, mNeS, eqS, mMul, mAdd, mSub, mDiv, mMod, mPow, mNeg, cMul, cDiv, cMod, cPow, mTup, mLst, dats, szOk, mCall, mAbs', gAbs, mChain, tAndM, tOrM, tNotM, mIfE, mAndV, mOrV, mNotV, mApp, mAug, gNm, gTp, gCons', gNil', mAsg, mAsgL, mFor, iR1, iR2, bnd62, mDrop, mCatS, mCatT, mCatL, mSlT, mSlL, oNone, oSome, mIsi, isiD, mIsN, mNotN, Tl.isNon, mIntOf, gIntB, mMax', mMin', gMax2, gMin2, mEqD, mNeD, mIn, mNi, inF, eqF, mSlS, mIxS, mRaise1, mRaise2, mDefX, outX, okX, callX, mSetX, mExprX, mRetX, mTry, endT, dropX, mExF, mExI, mRevL, mRepL, mStr, gStr, mZf, mRepS, uSeq, uIf, uSet, uSetI, uRet, uRetU, uSkip, callU, mDefU, startU, outU, mSetU, mList, mBand, mBor, mDixV, asDic, iZT, iEnT, mDix, mDixV, mRepT, mDsp, dCons, dNil, mDict, vCons, vNil, scD, dSet, dEnd, putD, mDm, gDm, mTupOf, iN, iV, iT, frzV, mSetTX, mCallE, mRaise0, mMulW, mInL, mCall0, mRepT2, mDgt, h1, h2, show ¬ k < 0 by omega]⟩
    · have h3 : 0 < (ns.length : Int) := by omega
      obtain ⟨v, hv⟩ := atI_in (ns := ns) (i := k % (ns.length : Int)) (Int.emod_nonneg _ h2) (Int.emod_lt_of_pos _ h3)
      exact ⟨v + 104729 * k, by simp [m__law_cell, b__law_cell, mDef, okP_iff, okP_iffF, okP_T, okP_F, startC, argC, argN, outR, mSeq, mIf, mT, mLt, mLe, mGt, mGe, mII, cT, mVar, mC, mLen, aCons, aNil, gLen, asInt, asBl, asDat, asStr, asTup, asLst, asTrk, mRet, retR, mRetV, mSet, setR, mIxL, mIxT, mSkip, mEqS, mNeS, eqS, mMul, mAdd, mSub, mDiv, mMod, mPow, mNeg, cMul, cDiv, cMod, cPow, mTup, mLst, dats, szOk, mCall, mAbs', gAbs, mChain, tAndM, tOrM, tNotM, mIfE, mAndV, mOrV, mNotV, mApp, mAug, gNm, gTp, gCons', gNil', mAsg, mAsgL, mFor, iR1, iR2, bnd62, mDrop, mCatS, mCatT, mCatL, mSlT, mSlL, oNone, oSome, mIsi, isiD, mIsN, mNotN, Tl.isNon, mIntOf, gIntB, mMax', mMin', gMax2, gMin2, mEqD, mNeD, mIn, mNi, inF, eqF, mSlS, mIxS, mRaise1, mRaise2, mDefX, outX, okX, callX, mSetX, mExprX, mRetX, mTry, endT, dropX, mExF, mExI, mRevL, mRepL, mStr, gStr, mZf, mRepS, uSeq, uIf, uSet, uSetI, uRet, uRetU, uSkip, callU, mDefU, startU, outU, mSetU, mList, mBand, mBor, mDixV, asDic, iZT, iEnT, mDix, mDixV, mRepT, mDsp, dCons, dNil, mDict, vCons, vNil, scD, dSet, dEnd, putD, mDm, gDm, mTupOf, iN, iV, iT, frzV, mSetTX, mCallE, mRaise0, mMulW, mInL, mCall0, mRepT2, mDgt, h1, h2, h3, show 0 < ns.length by omega, atI_map hv, show ¬ ns = [] by intro e; subst e; exact h2 rfl]⟩
theorem pow5 {a p : Int} (h0 : 0 ≤ a) (h1 : a < 2147483647) : a.natAbs < 18446744073709551616 := by omega
theorem mixed_ok (c k s : Int) (h0 : 0 ≤ k) : ∃ v, m__law_mixed [.dat (.int c), .dat (.int k), .dat (.int s)] = some (.dat (.int v)) := by
  have hk0 : 0 ≤ k % 8 := Int.emod_nonneg _ (by decide)
  have hk1 : k % 8 < 8 := Int.emod_lt_of_pos _ (by decide)
  have hp : ∃ p : Int, 0 < p ∧ p < 2147483648 ∧ atI [D.int 2147483629, D.int 2147483587, D.int 2147483579, D.int 2147483563, D.int 2147483549, D.int 2147483543, D.int 2147483497, D.int 2147483489] (k % 8) = some (.int p) := by
    have : k % 8 = 0 ∨ k % 8 = 1 ∨ k % 8 = 2 ∨ k % 8 = 3 ∨ k % 8 = 4 ∨ k % 8 = 5 ∨ k % 8 = 6 ∨ k % 8 = 7 := by omega
    rcases this with e | e | e | e | e | e | e | e <;> rw [e] <;> exact ⟨_, by decide, by decide, rfl⟩
  obtain ⟨p, hp0, hp1, hp⟩ := hp
  have a1 : ∀ x : Int, (x % 2147483647).natAbs < 18446744073709551616 := fun x => by
    have := Int.emod_nonneg x (b := 2147483647) (by decide)
    have := Int.emod_lt_of_pos x (b := 2147483647) (by decide)
    omega
  simp [m__law_mixed, b__law_mixed, mDef, okP_iff, okP_iffF, okP_T, okP_F, startC, argC, argN, outR, mSeq, mIf, mT, mLt, mLe, mGt, mGe, mII, cT, mVar, mC, mLen, aCons, aNil, gLen, asInt, asBl, asDat, asStr, asTup, asLst, asTrk, mRet, retR, mRetV, mSet, setR, mIxL, mIxT, mSkip, mEqS, mNeS, eqS, mMul, mAdd, mSub, mDiv, mMod, mPow, mNeg, cMul, cDiv, cMod, cPow, mTup, mLst, dats, szOk, mCall, mAbs', gAbs, mChain, tAndM, tOrM, tNotM, mIfE, mAndV, mOrV, mNotV, mApp, mAug, gNm, gTp, gCons', gNil', mAsg, mAsgL, mFor, iR1, iR2, bnd62, mDrop, mCatS, mCatT, mCatL, mSlT, mSlL, oNone, oSome, mIsi, isiD, mIsN, mNotN, Tl.isNon, mIntOf, gIntB, mMax', mMin', gMax2, gMin2, mEqD, mNeD, mIn, mNi, inF, eqF, mSlS, mIxS, mRaise1, mRaise2, mDefX, outX, okX, callX, mSetX, mExprX, mRetX, mTry, endT, dropX, mExF, mExI, mRevL, mRepL, mStr, gStr, mZf, mRepS, uSeq, uIf, uSet, uSetI, uRet, uRetU, uSkip, callU, mDefU, startU, outU, mSetU, mList, mBand, mBor, mDixV, asDic, iZT, iEnT, mDix, mDixV, mRepT, mDsp, dCons, dNil, mDict, vCons, vNil, scD, dSet, dEnd, putD, mDm, gDm, mTupOf, iN, iV, iT, frzV, mSetTX, mCallE, mRaise0, mMulW, mInL, mCall0, mRepT2, mDgt, hp, hp0, a1]
theorem draws_turn (c s left k w : Int) (ws ds : List Int) (x : C) (hk : 0 ≤ k) (hw : atI ws k = some w) (hwo : WOk w) (hl : ds.length < 1000) :
    ∃ d left', 0 ≤ d ∧ d < w ∧ f__law_draws_1 [.dat (.int c), .dat (.int s), .bor (ws.map .int), .own (ds.map .int), .dat (.int left), .dat (.int k)] = some (.nx [.dat (.int c), .dat (.int s), .bor (ws.map .int), .own ((ds ++ [d]).map .int), .dat (.int left'), .dat (.int k)]) := by
  have m0 : ∀ x : Int, 0 ≤ x % w ∧ x % w < w := fun x => ⟨Int.emod_nonneg _ (by have := hwo.1; omega), Int.emod_lt_of_pos _ hwo.1⟩
  by_cases hlf : 0 < left
  · exact ⟨left % w, left / w, (m0 _).1, (m0 _).2, by simp [f__law_draws_1, mDef, okP_iff, okP_iffF, okP_T, okP_F, startC, argC, argN, outR, mSeq, mIf, mT, mLt, mLe, mGt, mGe, mII, cT, mVar, mC, mLen, aCons, aNil, gLen, asInt, asBl, asDat, asStr, asTup, asLst, asTrk, mRet, retR, mRetV, mSet, setR, mIxL, mIxT, mSkip, mEqS, mNeS, eqS, mMul, mAdd, mSub, mDiv, mMod, mPow, mNeg, cMul, cDiv, cMod, cPow, mTup, mLst, dats, szOk, mCall, mAbs', gAbs, mChain, tAndM, tOrM, tNotM, mIfE, mAndV, mOrV, mNotV, mApp, mAug, gNm, gTp, gCons', gNil', mAsg, mAsgL, mFor, iR1, iR2, bnd62, mDrop, mCatS, mCatT, mCatL, mSlT, mSlL, oNone, oSome, mIsi, isiD, mIsN, mNotN, Tl.isNon, mIntOf, gIntB, mMax', mMin', gMax2, gMin2, mEqD, mNeD, mIn, mNi, inF, eqF, mSlS, mIxS, mRaise1, mRaise2, mDefX, outX, okX, callX, mSetX, mExprX, mRetX, mTry, endT, dropX, mExF, mExI, mRevL, mRepL, mStr, gStr, mZf, mRepS, uSeq, uIf, uSet, uSetI, uRet, uRetU, uSkip, callU, mDefU, startU, outU, mSetU, mList, mBand, mBor, mDixV, asDic, iZT, iEnT, mDix, mDixV, mRepT, mDsp, dCons, dNil, mDict, vCons, vNil, scD, dSet, dEnd, putD, mDm, gDm, mTupOf, iN, iV, iT, frzV, mSetTX, mCallE, mRaise0, mMulW, mInL, mCall0, mRepT2, mDgt, hlf, atI_map hw, hwo.1, hwo.2, show ds.length + 1 ≤ 100000 by omega]⟩
  · obtain ⟨v, hv⟩ := mixed_ok c k s hk
    exact ⟨v % w, left, (m0 _).1, (m0 _).2, by simp [f__law_draws_1, mDef, okP_iff, okP_iffF, okP_T, okP_F, startC, argC, argN, outR, mSeq, mIf, mT, mLt, mLe, mGt, mGe, mII, cT, mVar, mC, mLen, aCons, aNil, gLen, asInt, asBl, asDat, asStr, asTup, asLst, asTrk, mRet, retR, mRetV, mSet, setR, mIxL, mIxT, mSkip, mEqS, mNeS, eqS, mMul, mAdd, mSub, mDiv, mMod, mPow, mNeg, cMul, cDiv, cMod, cPow, mTup, mLst, dats, szOk, mCall, mAbs', gAbs, mChain, tAndM, tOrM, tNotM, mIfE, mAndV, mOrV, mNotV, mApp, mAug, gNm, gTp, gCons', gNil', mAsg, mAsgL, mFor, iR1, iR2, bnd62, mDrop, mCatS, mCatT, mCatL, mSlT, mSlL, oNone, oSome, mIsi, isiD, mIsN, mNotN, Tl.isNon, mIntOf, gIntB, mMax', mMin', gMax2, gMin2, mEqD, mNeD, mIn, mNi, inF, eqF, mSlS, mIxS, mRaise1, mRaise2, mDefX, outX, okX, callX, mSetX, mExprX, mRetX, mTry, endT, dropX, mExF, mExI, mRevL, mRepL, mStr, gStr, mZf, mRepS, uSeq, uIf, uSet, uSetI, uRet, uRetU, uSkip, callU, mDefU, startU, outU, mSetU, mList, mBand, mBor, mDixV, asDic, iZT, iEnT, mDix, mDixV, mRepT, mDsp, dCons, dNil, mDict, vCons, vNil, scD, dSet, dEnd, putD, mDm, gDm, mTupOf, iN, iV, iT, frzV, mSetTX, mCallE, mRaise0, mMulW, mInL, mCall0, mRepT2, mDgt, hlf, atI_map hw, hwo.1, hv, show ds.length + 1 ≤ 100000 by omega]⟩
theorem loop_draws (c s : Int) (ws : List Int) (hws : ∀ w ∈ ws, WOk w) (hlen : ws.length ≤ 500) : ∀ (m i : Nat) (ds : List Int) (left : Int) (x : C), i + m = ws.length → Drawn ds (ws.take i) →
    ∃ ds' left' x', Drawn ds' ws ∧ loopM (gNm 5) f__law_draws_1 ((rngD 0 ws.length).drop i) [.dat (.int c), .dat (.int s), .bor (ws.map .int), .own (ds.map .int), .dat (.int left), x] = some (.nx [.dat (.int c), .dat (.int s), .bor (ws.map .int), .own (ds'.map .int), .dat (.int left'), x'])
  | 0, i, ds, left, x, h, hd => by
    have e : i = ws.length := by omega
    subst e
    rw [List.take_length] at hd
    refine ⟨ds, left, x, hd, ?_⟩
    rw [show (rngD 0 ws.length).drop ws.length = [] by rw [List.drop_eq_nil_iff, rngD_len]; exact Nat.le_refl _]
    rfl
  | m + 1, i, ds, left, x, h, hd => by
    have hi : i < ws.length := by omega
    have hdl : ds.length = i := by rw [hd.length, List.length_take]; omega
    obtain ⟨w, hw⟩ : ∃ w, ws[i]? = some w := ⟨ws[i], List.getElem?_eq_getElem hi⟩
    have hat : atI ws ((i : Nat) : Int) = some w := atI_nat hw
    have hmem : w ∈ ws := List.mem_of_getElem? hw
    obtain ⟨d, left', h0, h1, hb⟩ := draws_turn c s left i w ws ds x (by omega) hat (hws w hmem) (by omega)
    obtain ⟨ds', l2, x2, hd2, hl2⟩ := loop_draws c s ws hws hlen m (i + 1) (ds ++ [d]) left' (.dat (.int i)) (by omega) (by rw [take_snoc hw]; exact hd.snoc h0 h1)
    refine ⟨ds', l2, x2, hd2, ?_⟩
    rw [drop_rng hi]
    unfold loopM
    have e0 : (0 : Int) + (i : Nat) = (i : Nat) := Int.zero_add _
    rw [e0]
    show (match f__law_draws_1 [.dat (.int c), .dat (.int s), .bor (ws.map .int), .own (ds.map .int), .dat (.int left), .dat (.int i)] with | some (.nx ρ') => loopM (gNm 5) f__law_draws_1 _ ρ' | some (.cnt ρ') => loopM (gNm 5) f__law_draws_1 _ ρ' | some (.brk ρ') => some (.nx ρ') | r => r) = _
    rw [hb]
    exact hl2
theorem draws_key (c s : Int) (ws : List Int) (hws : ∀ w ∈ ws, WOk w) (hlen : ws.length ≤ 500) : ∀ left : Int, ∃ ds, Drawn ds ws ∧ outR (mSeq (mFor (iR1 (mLen (mVar 2))) (gNm 5) f__law_draws_1) (mRetV 3) [.dat (.int c), .dat (.int s), .bor (ws.map .int), .own [], .dat (.int left), .un]) = some (.new (ds.map .int)) := fun left => by
    obtain ⟨ds, l2, x2, hd, hl⟩ := loop_draws c s ws hws hlen ws.length 0 [] left .un (by omega) (by rw [List.take_zero]; exact .nil)
    refine ⟨ds, hd, ?_⟩
    rw [List.drop_zero] at hl
    have hl' : loopM (gNm 5) f__law_draws_1 (rngD 0 ws.length) [.dat (.int c), .dat (.int s), .bor (ws.map .int), .own [], .dat (.int left), .un] = _ := hl
    have hf : mFor (iR1 (mLen (mVar 2))) (gNm 5) f__law_draws_1 [.dat (.int c), .dat (.int s), .bor (ws.map .int), .own [], .dat (.int left), .un] = some (.nx [.dat (.int c), .dat (.int s), .bor (ws.map .int), .own (ds.map .int), .dat (.int l2), x2]) := by
      have hb : bnd62 (ws.length : Int) = true := by unfold bnd62; exact okP_t (by omega)
      simp only [mFor, iR1, mLen, aCons, mVar, aNil, gLen, List.getElem?_cons_succ, List.getElem?_cons_zero, Option.bind_some, Option.map_some, asInt, List.length_map, hb, if_true, Int.toNat_natCast]
      exact hl'
    simp only [mSeq, hf, mRetV, List.getElem?_cons_succ, List.getElem?_cons_zero, outR]
theorem p18 (ρ : Rho) : mPow (mC (.int 10)) (mC (.int 18)) ρ = some (R.dat (D.int (10 ^ (18 : Int).toNat))) := by
  simp [mPow, mII, mC, asInt, cPow, okP_iff]
theorem draws_ok (c s : Int) (ws : List Int) (hws : ∀ w ∈ ws, WOk w) (hlen : ws.length ≤ 500) : ∃ ds, Drawn ds ws ∧ m__law_draws [.dat (.int c), .dat (.int s), .ro (ws.map .int)] = some (.new (ds.map .int)) := by
  have key := draws_key c s ws hws hlen
  have h18 := p18
  generalize (10 : Int) ^ (18 : Int).toNat = q at h18
  by_cases hc : q ≤ (if c < 0 then -c else c)
  · obtain ⟨ds, hd, h⟩ := key (if c < 0 then -c else c)
    refine ⟨ds, hd, ?_⟩
    rw [← h]
    simp only [m__law_draws, b__law_draws]
    simp [mDef, startC, argC, mSeq, mSet, mLst, aNil, dats, setR, mIf, mT, mGe, mII, mAbs', aCons, mVar, gAbs, asInt, cT, asBl, hc, szOk, okP_iff, okP_iffF, h18, mC]
  · obtain ⟨ds, hd, h⟩ := key 0
    refine ⟨ds, hd, ?_⟩
    rw [← h]
    simp only [m__law_draws, b__law_draws]
    simp [mDef, startC, argC, mSeq, mSet, mLst, aNil, dats, setR, mIf, mT, mGe, mII, mAbs', aCons, mVar, gAbs, asInt, cT, asBl, hc, szOk, okP_iff, okP_iffF, h18, mSkip, mC]
/-! powers of ten -/
theorem loop_ten (n : C) : ∀ (ds : List D) (p : Int) (x : C), ∃ x', loopM (gNm 2) f_ten_to_1 ds [n, .dat (.int p), x] = some (.nx [n, .dat (.int (p * 10 ^ ds.length)), x'])
  | [], p, x => ⟨x, by simp [loopM]⟩
  | d :: ds, p, x => by
    obtain ⟨x', h⟩ := loop_ten n ds (p * 10) (.dat d)
    refine ⟨x', ?_⟩
    simp only [loopM]
    simp [f_ten_to_1, mDef, okP_iff, okP_iffF, okP_T, okP_F, startC, argC, argN, outR, mSeq, mIf, mT, mLt, mLe, mGt, mGe, mII, cT, mVar, mC, mLen, aCons, aNil, gLen, asInt, asBl, asDat, asStr, asTup, asLst, asTrk, mRet, retR, mRetV, mSet, setR, mIxL, mIxT, mSkip, mEqS, mNeS, eqS, mMul, mAdd, mSub, mDiv, mMod, mPow, mNeg, cMul, cDiv, cMod, cPow, mTup, mLst, dats, szOk, mCall, mAbs', gAbs, mChain, tAndM, tOrM, tNotM, mIfE, mAndV, mOrV, mNotV, mApp, mAug, gNm, gTp, gCons', gNil', mAsg, mAsgL, mFor, iR1, iR2, bnd62, mDrop, mCatS, mCatT, mCatL, mSlT, mSlL, oNone, oSome, mIsi, isiD, mIsN, mNotN, Tl.isNon, mIntOf, gIntB, mMax', mMin', gMax2, gMin2, mEqD, mNeD, mIn, mNi, inF, eqF, mSlS, mIxS, mRaise1, mRaise2, mDefX, outX, okX, callX, mSetX, mExprX, mRetX, mTry, endT, dropX, mExF, mExI, mRevL, mRepL, mStr, gStr, mZf, mRepS, uSeq, uIf, uSet, uSetI, uRet, uRetU, uSkip, callU, mDefU, startU, outU, mSetU, mList, mBand, mBor, mDixV, asDic, iZT, iEnT, mDix, mDixV, mRepT, mDsp, dCons, dNil, mDict, vCons, vNil, scD, dSet, dEnd, putD, mDm, gDm, mTupOf, iN, iV, iT, frzV, mSetTX, mCallE, mRaise0, mMulW, mInL, mCall0, mRepT2, mDgt]
    simp only [f_ten_to_1] at h
    rw [h]
    simp [Int.pow_succ, Int.mul_comm, Int.mul_left_comm, Int.mul_assoc]
theorem ten_ok (n : Nat) (hn : n ≤ 1000) : m_ten_to [.dat (.int n)] = some (.dat (.int (10 ^ n))) := by
  obtain ⟨x', h⟩ := loop_ten (.dat (.int n)) (rngD 0 n) 1 .un
  rw [rngD_len] at h
  have hb : bnd62 (n : Int) = true := okP_t (by omega)
  refine v_def rfl ?_
  simp [b_ten_to, startC, argC, mSeq, mSet, mC, setR, mFor, iR1, mVar, asInt, hb, h, mRetV, outR]
theorem loop_pow (n : C) : ∀ (ds : List D) (p : Int) (x : C), ∃ x', loopM (gNm 3) f__law_power_1 ds [.dat (.int 10), n, .dat (.int p), x] = some (.nx [.dat (.int 10), n, .dat (.int (p * 10 ^ ds.length)), x'])
  | [], p, x => ⟨x, by simp [loopM]⟩
  | d :: ds, p, x => by
    obtain ⟨x', h⟩ := loop_pow n ds (p * 10) (.dat d)
    refine ⟨x', ?_⟩
    simp only [loopM]
    simp [f__law_power_1, mDef, okP_iff, okP_iffF, okP_T, okP_F, startC, argC, argN, outR, mSeq, mIf, mT, mLt, mLe, mGt, mGe, mII, cT, mVar, mC, mLen, aCons, aNil, gLen, asInt, asBl, asDat, asStr, asTup, asLst, asTrk, mRet, retR, mRetV, mSet, setR, mIxL, mIxT, mSkip, mEqS, mNeS, eqS, mMul, mAdd, mSub, mDiv, mMod, mPow, mNeg, cMul, cDiv, cMod, cPow, mTup, mLst, dats, szOk, mCall, mAbs', gAbs, mChain, tAndM, tOrM, tNotM, mIfE, mAndV, mOrV, mNotV, mApp, mAug, gNm, gTp, gCons', gNil', mAsg, mAsgL, mFor, iR1, iR2, bnd62, mDrop, mCatS, mCatT, mCatL, mSlT, mSlL, oNone, oSome, mIsi, isiD, mIsN, mNotN, Tl.isNon, mIntOf, gIntB, mMax', mMin', gMax2, gMin2, mEqD, mNeD, mIn, mNi, inF, eqF, mSlS, mIxS, mRaise1, mRaise2, mDefX, outX, okX, callX, mSetX, mExprX, mRetX, mTry, endT, dropX, mExF, mExI, mRevL, mRepL, mStr, gStr, mZf, mRepS, uSeq, uIf, uSet, uSetI, uRet, uRetU, uSkip, callU, mDefU, startU, outU, mSetU, mList, mBand, mBor, mDixV, asDic, iZT, iEnT, mDix, mDixV, mRepT, mDsp, dCons, dNil, mDict, vCons, vNil, scD, dSet, dEnd, putD, mDm, gDm, mTupOf, iN, iV, iT, frzV, mSetTX, mCallE, mRaise0, mMulW, mInL, mCall0, mRepT2, mDgt]
    simp only [f__law_power_1] at h
    rw [h]
    simp [Int.pow_succ, Int.mul_comm, Int.mul_left_comm, Int.mul_assoc]
theorem pow_ok (n : Nat) (hn : n ≤ 1000) : m__law_power [.dat (.int 10), .dat (.int n)] = some (.dat (.int (10 ^ n))) := by
  obtain ⟨x', h⟩ := loop_pow (.dat (.int n)) (rngD 0 n) 1 .un
  rw [rngD_len] at h
  have hb : bnd62 (n : Int) = true := okP_t (by omega)
  refine v_def rfl ?_
  simp [b__law_power, startC, argC, mSeq, mSet, mC, setR, mFor, iR1, mVar, asInt, hb, h, mRetV, outR]
/-! the three signs -/
theorem ne1 : ¬ (("none" : Str) = "end") := by decide
theorem ne2 : ¬ (("none" : Str) = "tens") := by decide
theorem ne3 : ¬ (("end" : Str) = "none") := by decide
theorem ne4 : ¬ (("end" : Str) = "tens") := by decide
theorem ne5 : ¬ (("tens" : Str) = "none") := by decide
theorem ne6 : ¬ (("tens" : Str) = "end") := by decide
/-- a shape, as data -/
def shape4 (kd : Str) (n : Nat) (sg : Str) (pt : Int) : D := .tup [.str kd, .int n, .str sg, .int pt]
inductive Sg : Str → Prop
  | n : Sg "none"
  | e : Sg "end"
  | t : Sg "tens"
/-- least, most, folded -/
def leastI (sg : Str) (n : Nat) : Int := if sg = "none" then 0 else if sg = "end" then 1 - 10 ^ n else -5 * 10 ^ (n - 1)
def mostI (sg : Str) (n : Nat) : Int := if sg = "tens" then 5 * 10 ^ (n - 1) - 1 else 10 ^ n - 1
theorem pw_pos (n : Nat) : (0 : Int) < 10 ^ n := Int.pow_pos (by decide)
theorem pw_succ {n : Nat} (h : 1 ≤ n) : (10 : Int) ^ n = 10 * 10 ^ (n - 1) := by
  obtain ⟨m, rfl⟩ : ∃ m, n = m + 1 := ⟨n - 1, by omega⟩
  rw [Nat.add_sub_cancel, Int.pow_succ]
  omega
theorem sub1 {n : Nat} (h : 1 ≤ n) : (n : Int) - 1 = ((n - 1 : Nat) : Int) := by omega
def lowI (sg : Str) (n : Nat) : Int := if sg = "none" then 0 else if sg = "end" then 1 - 10 ^ n else 0 - 10 ^ n / 2
def highI (sg : Str) (n : Nat) : Int := if sg = "none" then 10 ^ n - 1 else if sg = "end" then 10 ^ n - 1 else 10 ^ n / 2 - 1
theorem half_pw {n : Nat} (h : 1 ≤ n) : (10 : Int) ^ n / 2 = 5 * 10 ^ (n - 1) := by
  rw [pw_succ h]
  omega
theorem least_low (sg : Str) (n : Nat) (hs : Sg sg) (h : 1 ≤ n) : leastI sg n = lowI sg n := by
  cases hs with
  | n => rfl
  | e => rfl
  | t =>
    simp only [leastI, lowI, if_neg ne5, if_neg ne6, half_pw h]
    omega
theorem most_high (sg : Str) (n : Nat) (hs : Sg sg) (h : 1 ≤ n) : mostI sg n = highI sg n := by
  cases hs with
  | n => simp [mostI, highI, ne2]
  | e => simp [mostI, highI, ne3, ne4]
  | t => simp only [mostI, highI, if_neg ne5, if_neg ne6, if_pos, half_pw h]
theorem wok_pow (k : Nat) (h : k ≤ 40) : WOk ((10 : Int) ^ k) := by
  refine wok_of (b := 200) (pw_pos k) ?_ (by decide) (by decide)
  have e : ((10 : Int) ^ k).natAbs = 10 ^ k := by rw [Int.natAbs_pow]; rfl
  rw [e]
  exact Nat.lt_of_le_of_lt (Nat.pow_le_pow_right (by decide) h) (by decide)
theorem wok_small {w : Int} (h : 0 < w) (h2 : w < 1000) : WOk w := wok_of (b := 10) h (by omega) (by decide) (by decide)
def enK (k : Nat) (ds : List D) : List D := ds.mapIdx fun i d => .tup [.int ((i + k : Nat) : Int), d]
theorem enK_cons (k : Nat) (d : D) (ds : List D) : enK k (d :: ds) = .tup [.int (k : Nat), d] :: enK (k + 1) ds := by
  unfold enK
  rw [List.mapIdx_cons, Nat.zero_add]
  congr 1
  refine congrArg (fun f => List.mapIdx f ds) ?_
  funext i d
  rw [show i + 1 + k = i + (k + 1) by omega]
theorem enu_K (ds : List D) : enuD ds = enK 0 ds := rfl
abbrev tg2 (i j : Nat) : MG := gTp (gCons' (gNm i) (gCons' (gNm j) gNil'))
/-! ### the same thing, part by part -/
mutual
def jb : D → D → Bool
  | .tup ds, .tup ps => jbL ds ps
  | .int a, .int b => decide (a = b)
  | .bl a, .bl b => a == b
  | .str a, .str b => decide (a = b)
  | .non, .non => true
  | _, _ => false
def jbL : List D → List D → Bool
  | [], [] => true
  | d :: ds, p :: ps => jb d p && jbL ds ps
  | _, _ => false
end
theorem jbL_len : ∀ ds ps : List D, ds.length ≠ ps.length → jbL ds ps = false
  | [], [], h => absurd rfl h
  | [], _ :: _, _ => rfl
  | _ :: _, [], _ => rfl
  | d :: ds, p :: ps, h => by
    have := jbL_len ds ps (by simpa using h)
    show (jb d p && jbL ds ps) = false
    rw [this, Bool.and_false]
/-- a paper that is due: numbers, texts, truths -/
def dueOk : Nat → D → Prop
  | 0 => fun d => match d with
    | .int i => i.natAbs.log2 < 1000
    | .bl _ => True
    | .str x => PyData.strOk x = true
    | _ => False
  | k + 1 => fun d => match d with
    | .int i => i.natAbs.log2 < 1000
    | .bl _ => True
    | .str x => PyData.strOk x = true
    | .tup xs => xs.length ≤ 100 ∧ ∀ x ∈ xs, dueOk k x
    | _ => False
theorem due_nice : ∀ (k : Nat) (d : D), dueOk k d → nice k d
  | 0, .int _, _ => trivial
  | 0, .bl _, _ => trivial
  | 0, .str _, h => h
  | 0, .tup _, h => h.elim
  | 0, .non, h => h.elim
  | 0, .dic _, h => h.elim
  | _ + 1, .int _, _ => trivial
  | _ + 1, .bl _, _ => trivial
  | _ + 1, .str _, h => h
  | _ + 1, .non, h => h.elim
  | _ + 1, .dic _, h => h.elim
  | k + 1, .tup xs, h => ⟨by have := h.1; omega, fun x hx => due_nice k x (h.2 x hx)⟩
theorem due_up : ∀ (k : Nat) (d : D), dueOk k d → dueOk (k + 1) d
  | 0, .int _, h => h
  | 0, .bl _, _ => trivial
  | 0, .str _, h => h
  | 0, .tup _, h => h.elim
  | 0, .non, h => h.elim
  | 0, .dic _, h => h.elim
  | _ + 1, .int _, h => h
  | _ + 1, .bl _, _ => trivial
  | _ + 1, .str _, h => h
  | _ + 1, .non, h => h.elim
  | _ + 1, .dic _, h => h.elim
  | k + 1, .tup xs, h => ⟨h.1, fun x hx => due_up k x (h.2 x hx)⟩
theorem nice_up : ∀ (k : Nat) (d : D), nice k d → nice (k + 1) d
  | 0, .int _, _ => trivial
  | 0, .bl _, _ => trivial
  | 0, .str _, h => h
  | 0, .non, _ => trivial
  | 0, .tup _, h => h.elim
  | 0, .dic _, h => h.elim
  | _ + 1, .int _, _ => trivial
  | _ + 1, .bl _, _ => trivial
  | _ + 1, .str _, h => h
  | _ + 1, .non, _ => trivial
  | _ + 1, .dic _, h => h.elim
  | k + 1, .tup xs, h => ⟨h.1, fun x hx => nice_up k x (h.2 x hx)⟩
theorem nice_add (k m : Nat) (d : D) (h : nice k d) : nice (k + m) d := by
  induction m with
  | zero => exact h
  | succ m ih => exact nice_up _ _ ih
theorem nice_le {k m : Nat} {d : D} (h : nice k d) (hl : k ≤ m) : nice m d := by
  have := nice_add k (m - k) d h
  rw [show k + (m - k) = m by omega] at this
  exact this
theorem okDL_of : ∀ xs : List D, (∀ x ∈ xs, okD x = true) → okDL xs = true
  | [], _ => rfl
  | x :: xs, h => by
    show (okD x && okDL xs) = true
    rw [h x (by simp), okDL_of xs fun y hy => h y (by simp [hy])]
    rfl
theorem dpDL_of (n : Nat) : ∀ xs : List D, (∀ x ∈ xs, dpD x ≤ n) → dpDL xs ≤ n
  | [], _ => Nat.zero_le _
  | x :: xs, h => by
    show max (dpD x) (dpDL xs) ≤ n
    have a := h x (by simp)
    have b := dpDL_of n xs fun y hy => h y (by simp [hy])
    omega
theorem nice_ok : ∀ (k : Nat) (d : D), nice k d → okD d = true ∧ dpD d ≤ k
  | _, .int _, _ => ⟨rfl, Nat.zero_le _⟩
  | _, .bl _, _ => ⟨rfl, Nat.zero_le _⟩
  | _, .non, _ => ⟨rfl, Nat.zero_le _⟩
  | k, .str x, h => ⟨by cases k <;> exact h, Nat.zero_le _⟩
  | 0, .tup _, h => h.elim
  | k, .dic _, h => by cases k <;> exact h.elim
  | k + 1, .tup xs, h => ⟨okDL_of xs fun x hx => (nice_ok k x (h.2 x hx)).1, by
      show dpDL xs + 1 ≤ k + 1
      have := dpDL_of k xs fun x hx => (nice_ok k x (h.2 x hx)).2
      omega⟩
theorem nice_shp {k : Nat} {d : D} (h : nice k d) (hk : k ≤ 60) : shp d = true := by
  obtain ⟨h1, h2⟩ := nice_ok k d h
  exact shp_of h1 (by omega)
theorem len_tup {k : Nat} {xs : List D} (h : nice k (.tup xs)) : xs.length ≤ 1000 := by
  cases k with
  | zero => exact h.elim
  | succ k => exact h.1
theorem elt_tup {k : Nat} {xs : List D} (h : nice (k + 1) (.tup xs)) {x : D} (hx : x ∈ xs) : nice k x := h.2 x hx
theorem eqv_si (a : Str) (b : Int) : PyData.eqv (.str a) (.int b) = false := by simp [PyData.eqv]
theorem eqv_is (a : Int) (b : Str) : PyData.eqv (.int a) (.str b) = false := by simp [PyData.eqv]
theorem ii_eq (a b : Int) : eqD (.int b) (.int a) = jb (.int a) (.int b) := by
  show PyData.eqv (.int b) (.int a) = decide (a = b)
  by_cases q : a = b
  · subst q; simp [PyData.eqv]
  · have q' : ¬ b = a := fun z => q z.symm
    simp [PyData.eqv, q, q']
theorem bb_eq (a b : Bool) : eqD (.bl b) (.bl a) = jb (.bl a) (.bl b) := by cases a <;> cases b <;> rfl
theorem ss_eq (a b : Str) : eqD (.str b) (.str a) = jb (.str a) (.str b) := by
  show PyData.eqv (.str b) (.str a) = decide (a = b)
  by_cases q : a = b
  · subst q; simp [PyData.eqv]
  · have q' : ¬ b = a := fun z => q z.symm
    simp [PyData.eqv, q, q']
theorem leaf_eq (k : Nat) (d p : D) (hd : dueOk 0 d) (hp : nice k p) (hb : ∀ b c, ¬ (d = .bl b ∧ ∃ i, p = .int i) ∧ ¬ (p = .bl c ∧ ∃ i, d = .int i)) : eqD p d = jb d p := by
  cases d <;> cases p <;> first
    | exact hd.elim
    | exact ii_eq _ _
    | exact bb_eq _ _
    | exact ss_eq _ _
    | (exfalso; exact (hb _ true).1 ⟨rfl, _, rfl⟩)
    | (exfalso; exact (hb true _).2 ⟨rfl, _, rfl⟩)
    | (cases k <;> exact hp.elim)
    | (simp only [eqD, py, PyData.eqv, jb]; done)
    | (simp [eqD, py, PyData.eqv, jb]; done)

end Lw

namespace Lw
open PySem PySem.Spec PyProof.Rows L2 Evl Tl TL
/-! ### both ways of comparing -/
theorem dueLeaf (k : Nat) (d : D) (h : dueOk k d) (n : ∀ xs, d ≠ .tup xs) : dueOk 0 d := by
  cases d with
  | tup xs => exact absurd rfl (n xs)
  | int i => cases k <;> exact h
  | bl b => trivial
  | str x => cases k <;> exact h
  | non => cases k <;> exact h.elim
  | dic _ => cases k <;> exact h.elim
theorem zipD_len : ∀ xs ys : List D, xs.length = ys.length → (zipD xs ys).length = xs.length
  | [], _, _ => by simp [zipD]
  | _ :: _, [], h => by simp at h
  | x :: xs, y :: ys, h => by
    show (D.tup [x, y] :: zipD xs ys).length = _
    rw [List.length_cons, List.length_cons, zipD_len xs ys (by simpa using h)]
theorem v_andF {f g : ME} {ρ : Rho} (h : f ρ = some (.dat (.bl false))) : mAndV f g ρ = some (.dat (.bl false)) := by
  unfold mAndV
  rw [h]
  rfl
theorem v_andT {f g : ME} {ρ : Rho} {b : Bool} (h : f ρ = some (.dat (.bl true))) (h2 : g ρ = some (.dat (.bl b))) : mAndV f g ρ = some (.dat (.bl b)) := by
  unfold mAndV
  rw [h, h2]
  rfl
theorem same_all (j : Nat) : ∀ (ds ps : List D) (ρ : Rho), ρ.length = 2 → ds.length = ps.length → (∀ (i : Nat) (d p : D), ds[i]? = some d → ps[i]? = some p → m_same j [.dat d, .dat p] = some (.dat (.bl (jb d p)))) →
    allM (gTp (gCons' (gNm 0) (gCons' (gNm 1) gNil'))) (mCall (m_same j) (aCons (mVar 0) (aCons (mVar 1) aNil))) (zipD ds ps) ρ = some (jbL ds ps)
  | [], [], _, _, _, _ => rfl
  | [], _ :: _, _, _, h, _ => by simp at h
  | _ :: _, [], _, _, h, _ => by simp at h
  | d :: ds, p :: ps, ρ, hρ, h, hs => by
    show allM _ _ (.tup [d, p] :: zipD ds ps) ρ = some (jb d p && jbL ds ps)
    have h0 := hs 0 d p rfl rfl
    obtain ⟨a, b, rfl⟩ : ∃ a b, ρ = [a, b] := by
      match ρ, hρ with
      | [a, b], _ => exact ⟨a, b, rfl⟩
    have ih := same_all j ds ps [.dat d, .dat p] rfl (by simpa using h) fun i d p h1 h2 => hs (i + 1) d p (by simpa using h1) (by simpa using h2)
    unfold allM
    show (asBl (mCall (m_same j) (aCons (mVar 0) (aCons (mVar 1) aNil)) [.dat d, .dat p])).bind _ = _
    rw [v_call (rs := [.dat d, .dat p]) rfl h0]
    show (if jb d p = true then _ else _) = _
    cases hb : jb d p
    · rfl
    · exact ih
theorem bool_ne (d p : D) (hd : dueOk 0 d) : (∃ b, d = .bl b ∧ (∃ c, p = .bl c)) ∨ ((∀ b, d ≠ .bl b) ∧ (∀ c, p ≠ .bl c)) ∨ (((∃ b, d = .bl b) ∧ (∀ c, p ≠ .bl c)) ∨ ((∀ b, d ≠ .bl b) ∧ ∃ c, p = .bl c)) := by
  cases d <;> cases p <;> first | exact hd.elim | simp
theorem same_jb : ∀ (k : Nat) (d p : D) (m : Nat), dueOk k d → nice m p → k ≤ 50 → m ≤ 50 → m_same (k + 1) [.dat d, .dat p] = some (.dat (.bl (jb d p)))
  | k + 1, .tup ds, p, m, hd, hp, hk, hm => by
    have hz : ds.length ≤ 100 := hd.1
    cases p with
    | tup ps =>
      have hl := len_tup hp
      obtain ⟨m', rfl⟩ : ∃ m', m = m' + 1 := by
        cases m with
        | zero => exact hp.elim
        | succ m => exact ⟨m, rfl⟩
      have L1 : ∀ (i : Nat) (xs : List D), xs.length ≤ 1000 → [C.dat (.tup ds), .dat (.tup ps)][i]? = some (.dat (.tup xs)) → mLen (mVar i) [C.dat (.tup ds), .dat (.tup ps)] = some (.dat (.int xs.length)) := fun i xs h1 h2 => by
        simp only [mLen, aCons, aNil, mVar, h2, Option.bind_some, Option.map_some, gLen, show szOk xs.length = true from okP_t (by omega), if_true]
      have B : mEqS (mLen (mVar 1)) (mLen (mVar 0)) [C.dat (.tup ds), .dat (.tup ps)] = some (.dat (.bl (okP ((ps.length : Int) = ds.length)))) := by
        simp only [mEqS, L1 1 ps hl rfl, L1 0 ds (by omega) rfl, asDat, Option.bind_some, Option.map_some, eqS]
      by_cases q : ds.length = ps.length
      · have A := same_all (k + 1) ds ps [.un, .un] rfl q fun i d p h1 h2 => same_jb k d p m' (hd.2 d (List.mem_of_getElem? h1)) (hp.2 p (List.mem_of_getElem? h2)) (by omega) (by omega)
        have E : mAllE (iZT (mVar 0) (mVar 1)) (gTp (gCons' (gNm 0) (gCons' (gNm 1) gNil'))) (mCall (m_same (k + 1)) (aCons (mVar 0) (aCons (mVar 1) aNil))) 2 [.dat (.tup ds), .dat (.tup ps)] = some (.dat (.bl (jbL ds ps))) := by
          simp only [mAllE, iZT, mVar, List.getElem?_cons_zero, List.getElem?_cons_succ, asTup, Option.bind_some, Option.map_some]
          rw [show List.replicate 2 C.un = [.un, .un] from rfl, A]
          rfl
        rw [okP_t (by omega)] at B
        exact v_out rfl (v_seqR (v_ifT rfl (v_ret (v_andT rfl (v_andT B E)))))
      · rw [okP_f (by omega)] at B
        rw [show jb (.tup ds) (.tup ps) = false from jbL_len ds ps q]
        exact v_out rfl (v_seqR (v_ifT rfl (v_ret (v_andT rfl (v_andF B)))))
    | non => exact v_out rfl (v_seqR (v_ifT rfl (v_ret (v_andF rfl))))
    | bl b => exact v_out rfl (v_seqR (v_ifT rfl (v_ret (v_andF rfl))))
    | int i => exact v_out rfl (v_seqR (v_ifT rfl (v_ret (v_andF rfl))))
    | str x => exact v_out rfl (v_seqR (v_ifT rfl (v_ret (v_andF rfl))))
    | dic _ => cases m <;> exact hp.elim
  | k, .int i, p, m, hd, hp, hk, hm => by
    show mDef 2 2 (b_same (m_same k)) _ = _
    have s1 := shp_int i
    have s2 := nice_shp hp (by omega)
    refine v_def rfl ?_
    cases p with
    | bl c => simp [b_same, mDef, okP_iff, okP_iffF, okP_T, okP_F, startC, argC, argN, outR, mSeq, mIf, mT, mLt, mLe, mGt, mGe, mII, cT, mVar, mC, mLen, aCons, aNil, gLen, asInt, asBl, asDat, asStr, asTup, asLst, asTrk, mRet, retR, mRetV, mSet, setR, mIxL, mIxT, mSkip, mEqS, mNeS, eqS, mMul, mAdd, mSub, mDiv, mMod, mPow, mNeg, cMul, cDiv, cMod, cPow, mTup, mLst, dats, szOk, mCall, mAbs', gAbs, mChain, tAndM, tOrM, tNotM, mIfE, mAndV, mOrV, mNotV, mApp, mAug, gNm, gTp, gCons', gNil', mAsg, mAsgL, mFor, iR1, iR2, bnd62, mDrop, mCatS, mCatT, mCatL, mSlT, mSlL, oNone, oSome, mIsi, isiD, mIsN, mNotN, Tl.isNon, mIntOf, gIntB, mMax', mMin', gMax2, gMin2, mEqD, mNeD, mIn, mNi, inF, eqF, mSlS, mIxS, mRaise1, mRaise2, mDefX, outX, okX, callX, mSetX, mExprX, mRetX, mTry, endT, dropX, mExF, mExI, mRevL, mRepL, mStr, gStr, mZf, mRepS, uSeq, uIf, uSet, uSetI, uRet, uRetU, uSkip, callU, mDefU, startU, outU, mSetU, mList, mBand, mBor, mDixV, asDic, iZT, iEnT, mDix, mDixV, mRepT, mDsp, dCons, dNil, mDict, vCons, vNil, scD, dSet, dEnd, putD, mDm, gDm, mTupOf, iN, iV, iT, frzV, mSetTX, mCallE, mRaise0, mMulW, mInL, mCall0, mRepT2, mDgt, jb]
    | dic _ => cases m <;> exact hp.elim
    | int j => simp [b_same, mDef, okP_iff, okP_iffF, okP_T, okP_F, startC, argC, argN, outR, mSeq, mIf, mT, mLt, mLe, mGt, mGe, mII, cT, mVar, mC, mLen, aCons, aNil, gLen, asInt, asBl, asDat, asStr, asTup, asLst, asTrk, mRet, retR, mRetV, mSet, setR, mIxL, mIxT, mSkip, mEqS, mNeS, eqS, mMul, mAdd, mSub, mDiv, mMod, mPow, mNeg, cMul, cDiv, cMod, cPow, mTup, mLst, dats, szOk, mCall, mAbs', gAbs, mChain, tAndM, tOrM, tNotM, mIfE, mAndV, mOrV, mNotV, mApp, mAug, gNm, gTp, gCons', gNil', mAsg, mAsgL, mFor, iR1, iR2, bnd62, mDrop, mCatS, mCatT, mCatL, mSlT, mSlL, oNone, oSome, mIsi, isiD, mIsN, mNotN, Tl.isNon, mIntOf, gIntB, mMax', mMin', gMax2, gMin2, mEqD, mNeD, mIn, mNi, inF, eqF, mSlS, mIxS, mRaise1, mRaise2, mDefX, outX, okX, callX, mSetX, mExprX, mRetX, mTry, endT, dropX, mExF, mExI, mRevL, mRepL, mStr, gStr, mZf, mRepS, uSeq, uIf, uSet, uSetI, uRet, uRetU, uSkip, callU, mDefU, startU, outU, mSetU, mList, mBand, mBor, mDixV, asDic, iZT, iEnT, mDix, mDixV, mRepT, mDsp, dCons, dNil, mDict, vCons, vNil, scD, dSet, dEnd, putD, mDm, gDm, mTupOf, iN, iV, iT, frzV, mSetTX, mCallE, mRaise0, mMulW, mInL, mCall0, mRepT2, mDgt, s1, shp_int, ii_eq]
    | non => have e := leaf_eq m (.int i) .non (dueLeaf k _ hd (by simp)) hp (by simp); simp [b_same, mDef, okP_iff, okP_iffF, okP_T, okP_F, startC, argC, argN, outR, mSeq, mIf, mT, mLt, mLe, mGt, mGe, mII, cT, mVar, mC, mLen, aCons, aNil, gLen, asInt, asBl, asDat, asStr, asTup, asLst, asTrk, mRet, retR, mRetV, mSet, setR, mIxL, mIxT, mSkip, mEqS, mNeS, eqS, mMul, mAdd, mSub, mDiv, mMod, mPow, mNeg, cMul, cDiv, cMod, cPow, mTup, mLst, dats, szOk, mCall, mAbs', gAbs, mChain, tAndM, tOrM, tNotM, mIfE, mAndV, mOrV, mNotV, mApp, mAug, gNm, gTp, gCons', gNil', mAsg, mAsgL, mFor, iR1, iR2, bnd62, mDrop, mCatS, mCatT, mCatL, mSlT, mSlL, oNone, oSome, mIsi, isiD, mIsN, mNotN, Tl.isNon, mIntOf, gIntB, mMax', mMin', gMax2, gMin2, mEqD, mNeD, mIn, mNi, inF, eqF, mSlS, mIxS, mRaise1, mRaise2, mDefX, outX, okX, callX, mSetX, mExprX, mRetX, mTry, endT, dropX, mExF, mExI, mRevL, mRepL, mStr, gStr, mZf, mRepS, uSeq, uIf, uSet, uSetI, uRet, uRetU, uSkip, callU, mDefU, startU, outU, mSetU, mList, mBand, mBor, mDixV, asDic, iZT, iEnT, mDix, mDixV, mRepT, mDsp, dCons, dNil, mDict, vCons, vNil, scD, dSet, dEnd, putD, mDm, gDm, mTupOf, iN, iV, iT, frzV, mSetTX, mCallE, mRaise0, mMulW, mInL, mCall0, mRepT2, mDgt, s1, s2, e]
    | str x => have e := leaf_eq m (.int i) (.str x) (dueLeaf k _ hd (by simp)) hp (by simp); simp [b_same, mDef, okP_iff, okP_iffF, okP_T, okP_F, startC, argC, argN, outR, mSeq, mIf, mT, mLt, mLe, mGt, mGe, mII, cT, mVar, mC, mLen, aCons, aNil, gLen, asInt, asBl, asDat, asStr, asTup, asLst, asTrk, mRet, retR, mRetV, mSet, setR, mIxL, mIxT, mSkip, mEqS, mNeS, eqS, mMul, mAdd, mSub, mDiv, mMod, mPow, mNeg, cMul, cDiv, cMod, cPow, mTup, mLst, dats, szOk, mCall, mAbs', gAbs, mChain, tAndM, tOrM, tNotM, mIfE, mAndV, mOrV, mNotV, mApp, mAug, gNm, gTp, gCons', gNil', mAsg, mAsgL, mFor, iR1, iR2, bnd62, mDrop, mCatS, mCatT, mCatL, mSlT, mSlL, oNone, oSome, mIsi, isiD, mIsN, mNotN, Tl.isNon, mIntOf, gIntB, mMax', mMin', gMax2, gMin2, mEqD, mNeD, mIn, mNi, inF, eqF, mSlS, mIxS, mRaise1, mRaise2, mDefX, outX, okX, callX, mSetX, mExprX, mRetX, mTry, endT, dropX, mExF, mExI, mRevL, mRepL, mStr, gStr, mZf, mRepS, uSeq, uIf, uSet, uSetI, uRet, uRetU, uSkip, callU, mDefU, startU, outU, mSetU, mList, mBand, mBor, mDixV, asDic, iZT, iEnT, mDix, mDixV, mRepT, mDsp, dCons, dNil, mDict, vCons, vNil, scD, dSet, dEnd, putD, mDm, gDm, mTupOf, iN, iV, iT, frzV, mSetTX, mCallE, mRaise0, mMulW, mInL, mCall0, mRepT2, mDgt, s1, s2, e]
    | tup xs => have e := leaf_eq m (.int i) (.tup xs) (dueLeaf k _ hd (by simp)) hp (by simp); simp [b_same, mDef, okP_iff, okP_iffF, okP_T, okP_F, startC, argC, argN, outR, mSeq, mIf, mT, mLt, mLe, mGt, mGe, mII, cT, mVar, mC, mLen, aCons, aNil, gLen, asInt, asBl, asDat, asStr, asTup, asLst, asTrk, mRet, retR, mRetV, mSet, setR, mIxL, mIxT, mSkip, mEqS, mNeS, eqS, mMul, mAdd, mSub, mDiv, mMod, mPow, mNeg, cMul, cDiv, cMod, cPow, mTup, mLst, dats, szOk, mCall, mAbs', gAbs, mChain, tAndM, tOrM, tNotM, mIfE, mAndV, mOrV, mNotV, mApp, mAug, gNm, gTp, gCons', gNil', mAsg, mAsgL, mFor, iR1, iR2, bnd62, mDrop, mCatS, mCatT, mCatL, mSlT, mSlL, oNone, oSome, mIsi, isiD, mIsN, mNotN, Tl.isNon, mIntOf, gIntB, mMax', mMin', gMax2, gMin2, mEqD, mNeD, mIn, mNi, inF, eqF, mSlS, mIxS, mRaise1, mRaise2, mDefX, outX, okX, callX, mSetX, mExprX, mRetX, mTry, endT, dropX, mExF, mExI, mRevL, mRepL, mStr, gStr, mZf, mRepS, uSeq, uIf, uSet, uSetI, uRet, uRetU, uSkip, callU, mDefU, startU, outU, mSetU, mList, mBand, mBor, mDixV, asDic, iZT, iEnT, mDix, mDixV, mRepT, mDsp, dCons, dNil, mDict, vCons, vNil, scD, dSet, dEnd, putD, mDm, gDm, mTupOf, iN, iV, iT, frzV, mSetTX, mCallE, mRaise0, mMulW, mInL, mCall0, mRepT2, mDgt, s1, s2, e]
  | k, .bl i, p, m, hd, hp, hk, hm => by
    show mDef 2 2 (b_same (m_same k)) _ = _
    have s1 := shp_bl i
    have s2 := nice_shp hp (by omega)
    refine v_def rfl ?_
    cases p with
    | bl c => simp [b_same, mDef, okP_iff, okP_iffF, okP_T, okP_F, startC, argC, argN, outR, mSeq, mIf, mT, mLt, mLe, mGt, mGe, mII, cT, mVar, mC, mLen, aCons, aNil, gLen, asInt, asBl, asDat, asStr, asTup, asLst, asTrk, mRet, retR, mRetV, mSet, setR, mIxL, mIxT, mSkip, mEqS, mNeS, eqS, mMul, mAdd, mSub, mDiv, mMod, mPow, mNeg, cMul, cDiv, cMod, cPow, mTup, mLst, dats, szOk, mCall, mAbs', gAbs, mChain, tAndM, tOrM, tNotM, mIfE, mAndV, mOrV, mNotV, mApp, mAug, gNm, gTp, gCons', gNil', mAsg, mAsgL, mFor, iR1, iR2, bnd62, mDrop, mCatS, mCatT, mCatL, mSlT, mSlL, oNone, oSome, mIsi, isiD, mIsN, mNotN, Tl.isNon, mIntOf, gIntB, mMax', mMin', gMax2, gMin2, mEqD, mNeD, mIn, mNi, inF, eqF, mSlS, mIxS, mRaise1, mRaise2, mDefX, outX, okX, callX, mSetX, mExprX, mRetX, mTry, endT, dropX, mExF, mExI, mRevL, mRepL, mStr, gStr, mZf, mRepS, uSeq, uIf, uSet, uSetI, uRet, uRetU, uSkip, callU, mDefU, startU, outU, mSetU, mList, mBand, mBor, mDixV, asDic, iZT, iEnT, mDix, mDixV, mRepT, mDsp, dCons, dNil, mDict, vCons, vNil, scD, dSet, dEnd, putD, mDm, gDm, mTupOf, iN, iV, iT, frzV, mSetTX, mCallE, mRaise0, mMulW, mInL, mCall0, mRepT2, mDgt, s1, shp_bl, bb_eq]
    | dic _ => cases m <;> exact hp.elim
    | int j => simp [b_same, mDef, okP_iff, okP_iffF, okP_T, okP_F, startC, argC, argN, outR, mSeq, mIf, mT, mLt, mLe, mGt, mGe, mII, cT, mVar, mC, mLen, aCons, aNil, gLen, asInt, asBl, asDat, asStr, asTup, asLst, asTrk, mRet, retR, mRetV, mSet, setR, mIxL, mIxT, mSkip, mEqS, mNeS, eqS, mMul, mAdd, mSub, mDiv, mMod, mPow, mNeg, cMul, cDiv, cMod, cPow, mTup, mLst, dats, szOk, mCall, mAbs', gAbs, mChain, tAndM, tOrM, tNotM, mIfE, mAndV, mOrV, mNotV, mApp, mAug, gNm, gTp, gCons', gNil', mAsg, mAsgL, mFor, iR1, iR2, bnd62, mDrop, mCatS, mCatT, mCatL, mSlT, mSlL, oNone, oSome, mIsi, isiD, mIsN, mNotN, Tl.isNon, mIntOf, gIntB, mMax', mMin', gMax2, gMin2, mEqD, mNeD, mIn, mNi, inF, eqF, mSlS, mIxS, mRaise1, mRaise2, mDefX, outX, okX, callX, mSetX, mExprX, mRetX, mTry, endT, dropX, mExF, mExI, mRevL, mRepL, mStr, gStr, mZf, mRepS, uSeq, uIf, uSet, uSetI, uRet, uRetU, uSkip, callU, mDefU, startU, outU, mSetU, mList, mBand, mBor, mDixV, asDic, iZT, iEnT, mDix, mDixV, mRepT, mDsp, dCons, dNil, mDict, vCons, vNil, scD, dSet, dEnd, putD, mDm, gDm, mTupOf, iN, iV, iT, frzV, mSetTX, mCallE, mRaise0, mMulW, mInL, mCall0, mRepT2, mDgt, jb]
    | non => simp [b_same, mDef, okP_iff, okP_iffF, okP_T, okP_F, startC, argC, argN, outR, mSeq, mIf, mT, mLt, mLe, mGt, mGe, mII, cT, mVar, mC, mLen, aCons, aNil, gLen, asInt, asBl, asDat, asStr, asTup, asLst, asTrk, mRet, retR, mRetV, mSet, setR, mIxL, mIxT, mSkip, mEqS, mNeS, eqS, mMul, mAdd, mSub, mDiv, mMod, mPow, mNeg, cMul, cDiv, cMod, cPow, mTup, mLst, dats, szOk, mCall, mAbs', gAbs, mChain, tAndM, tOrM, tNotM, mIfE, mAndV, mOrV, mNotV, mApp, mAug, gNm, gTp, gCons', gNil', mAsg, mAsgL, mFor, iR1, iR2, bnd62, mDrop, mCatS, mCatT, mCatL, mSlT, mSlL, oNone, oSome, mIsi, isiD, mIsN, mNotN, Tl.isNon, mIntOf, gIntB, mMax', mMin', gMax2, gMin2, mEqD, mNeD, mIn, mNi, inF, eqF, mSlS, mIxS, mRaise1, mRaise2, mDefX, outX, okX, callX, mSetX, mExprX, mRetX, mTry, endT, dropX, mExF, mExI, mRevL, mRepL, mStr, gStr, mZf, mRepS, uSeq, uIf, uSet, uSetI, uRet, uRetU, uSkip, callU, mDefU, startU, outU, mSetU, mList, mBand, mBor, mDixV, asDic, iZT, iEnT, mDix, mDixV, mRepT, mDsp, dCons, dNil, mDict, vCons, vNil, scD, dSet, dEnd, putD, mDm, gDm, mTupOf, iN, iV, iT, frzV, mSetTX, mCallE, mRaise0, mMulW, mInL, mCall0, mRepT2, mDgt, jb]
    | str x => simp [b_same, mDef, okP_iff, okP_iffF, okP_T, okP_F, startC, argC, argN, outR, mSeq, mIf, mT, mLt, mLe, mGt, mGe, mII, cT, mVar, mC, mLen, aCons, aNil, gLen, asInt, asBl, asDat, asStr, asTup, asLst, asTrk, mRet, retR, mRetV, mSet, setR, mIxL, mIxT, mSkip, mEqS, mNeS, eqS, mMul, mAdd, mSub, mDiv, mMod, mPow, mNeg, cMul, cDiv, cMod, cPow, mTup, mLst, dats, szOk, mCall, mAbs', gAbs, mChain, tAndM, tOrM, tNotM, mIfE, mAndV, mOrV, mNotV, mApp, mAug, gNm, gTp, gCons', gNil', mAsg, mAsgL, mFor, iR1, iR2, bnd62, mDrop, mCatS, mCatT, mCatL, mSlT, mSlL, oNone, oSome, mIsi, isiD, mIsN, mNotN, Tl.isNon, mIntOf, gIntB, mMax', mMin', gMax2, gMin2, mEqD, mNeD, mIn, mNi, inF, eqF, mSlS, mIxS, mRaise1, mRaise2, mDefX, outX, okX, callX, mSetX, mExprX, mRetX, mTry, endT, dropX, mExF, mExI, mRevL, mRepL, mStr, gStr, mZf, mRepS, uSeq, uIf, uSet, uSetI, uRet, uRetU, uSkip, callU, mDefU, startU, outU, mSetU, mList, mBand, mBor, mDixV, asDic, iZT, iEnT, mDix, mDixV, mRepT, mDsp, dCons, dNil, mDict, vCons, vNil, scD, dSet, dEnd, putD, mDm, gDm, mTupOf, iN, iV, iT, frzV, mSetTX, mCallE, mRaise0, mMulW, mInL, mCall0, mRepT2, mDgt, jb]
    | tup xs => simp [b_same, mDef, okP_iff, okP_iffF, okP_T, okP_F, startC, argC, argN, outR, mSeq, mIf, mT, mLt, mLe, mGt, mGe, mII, cT, mVar, mC, mLen, aCons, aNil, gLen, asInt, asBl, asDat, asStr, asTup, asLst, asTrk, mRet, retR, mRetV, mSet, setR, mIxL, mIxT, mSkip, mEqS, mNeS, eqS, mMul, mAdd, mSub, mDiv, mMod, mPow, mNeg, cMul, cDiv, cMod, cPow, mTup, mLst, dats, szOk, mCall, mAbs', gAbs, mChain, tAndM, tOrM, tNotM, mIfE, mAndV, mOrV, mNotV, mApp, mAug, gNm, gTp, gCons', gNil', mAsg, mAsgL, mFor, iR1, iR2, bnd62, mDrop, mCatS, mCatT, mCatL, mSlT, mSlL, oNone, oSome, mIsi, isiD, mIsN, mNotN, Tl.isNon, mIntOf, gIntB, mMax', mMin', gMax2, gMin2, mEqD, mNeD, mIn, mNi, inF, eqF, mSlS, mIxS, mRaise1, mRaise2, mDefX, outX, okX, callX, mSetX, mExprX, mRetX, mTry, endT, dropX, mExF, mExI, mRevL, mRepL, mStr, gStr, mZf, mRepS, uSeq, uIf, uSet, uSetI, uRet, uRetU, uSkip, callU, mDefU, startU, outU, mSetU, mList, mBand, mBor, mDixV, asDic, iZT, iEnT, mDix, mDixV, mRepT, mDsp, dCons, dNil, mDict, vCons, vNil, scD, dSet, dEnd, putD, mDm, gDm, mTupOf, iN, iV, iT, frzV, mSetTX, mCallE, mRaise0, mMulW, mInL, mCall0, mRepT2, mDgt, jb]
  | k, .str i, p, m, hd, hp, hk, hm => by
    show mDef 2 2 (b_same (m_same k)) _ = _
    have s1 : shp (.str i) = true := shp_str (by cases k <;> exact hd)
    have s2 := nice_shp hp (by omega)
    refine v_def rfl ?_
    cases p with
    | bl c => simp [b_same, mDef, okP_iff, okP_iffF, okP_T, okP_F, startC, argC, argN, outR, mSeq, mIf, mT, mLt, mLe, mGt, mGe, mII, cT, mVar, mC, mLen, aCons, aNil, gLen, asInt, asBl, asDat, asStr, asTup, asLst, asTrk, mRet, retR, mRetV, mSet, setR, mIxL, mIxT, mSkip, mEqS, mNeS, eqS, mMul, mAdd, mSub, mDiv, mMod, mPow, mNeg, cMul, cDiv, cMod, cPow, mTup, mLst, dats, szOk, mCall, mAbs', gAbs, mChain, tAndM, tOrM, tNotM, mIfE, mAndV, mOrV, mNotV, mApp, mAug, gNm, gTp, gCons', gNil', mAsg, mAsgL, mFor, iR1, iR2, bnd62, mDrop, mCatS, mCatT, mCatL, mSlT, mSlL, oNone, oSome, mIsi, isiD, mIsN, mNotN, Tl.isNon, mIntOf, gIntB, mMax', mMin', gMax2, gMin2, mEqD, mNeD, mIn, mNi, inF, eqF, mSlS, mIxS, mRaise1, mRaise2, mDefX, outX, okX, callX, mSetX, mExprX, mRetX, mTry, endT, dropX, mExF, mExI, mRevL, mRepL, mStr, gStr, mZf, mRepS, uSeq, uIf, uSet, uSetI, uRet, uRetU, uSkip, callU, mDefU, startU, outU, mSetU, mList, mBand, mBor, mDixV, asDic, iZT, iEnT, mDix, mDixV, mRepT, mDsp, dCons, dNil, mDict, vCons, vNil, scD, dSet, dEnd, putD, mDm, gDm, mTupOf, iN, iV, iT, frzV, mSetTX, mCallE, mRaise0, mMulW, mInL, mCall0, mRepT2, mDgt, jb]
    | dic _ => cases m <;> exact hp.elim
    | str j => simp [b_same, mDef, okP_iff, okP_iffF, okP_T, okP_F, startC, argC, argN, outR, mSeq, mIf, mT, mLt, mLe, mGt, mGe, mII, cT, mVar, mC, mLen, aCons, aNil, gLen, asInt, asBl, asDat, asStr, asTup, asLst, asTrk, mRet, retR, mRetV, mSet, setR, mIxL, mIxT, mSkip, mEqS, mNeS, eqS, mMul, mAdd, mSub, mDiv, mMod, mPow, mNeg, cMul, cDiv, cMod, cPow, mTup, mLst, dats, szOk, mCall, mAbs', gAbs, mChain, tAndM, tOrM, tNotM, mIfE, mAndV, mOrV, mNotV, mApp, mAug, gNm, gTp, gCons', gNil', mAsg, mAsgL, mFor, iR1, iR2, bnd62, mDrop, mCatS, mCatT, mCatL, mSlT, mSlL, oNone, oSome, mIsi, isiD, mIsN, mNotN, Tl.isNon, mIntOf, gIntB, mMax', mMin', gMax2, gMin2, mEqD, mNeD, mIn, mNi, inF, eqF, mSlS, mIxS, mRaise1, mRaise2, mDefX, outX, okX, callX, mSetX, mExprX, mRetX, mTry, endT, dropX, mExF, mExI, mRevL, mRepL, mStr, gStr, mZf, mRepS, uSeq, uIf, uSet, uSetI, uRet, uRetU, uSkip, callU, mDefU, startU, outU, mSetU, mList, mBand, mBor, mDixV, asDic, iZT, iEnT, mDix, mDixV, mRepT, mDsp, dCons, dNil, mDict, vCons, vNil, scD, dSet, dEnd, putD, mDm, gDm, mTupOf, iN, iV, iT, frzV, mSetTX, mCallE, mRaise0, mMulW, mInL, mCall0, mRepT2, mDgt, s1, s2, ss_eq]
    | non => have e := leaf_eq m (.str i) .non (dueLeaf k _ hd (by simp)) hp (by simp); simp [b_same, mDef, okP_iff, okP_iffF, okP_T, okP_F, startC, argC, argN, outR, mSeq, mIf, mT, mLt, mLe, mGt, mGe, mII, cT, mVar, mC, mLen, aCons, aNil, gLen, asInt, asBl, asDat, asStr, asTup, asLst, asTrk, mRet, retR, mRetV, mSet, setR, mIxL, mIxT, mSkip, mEqS, mNeS, eqS, mMul, mAdd, mSub, mDiv, mMod, mPow, mNeg, cMul, cDiv, cMod, cPow, mTup, mLst, dats, szOk, mCall, mAbs', gAbs, mChain, tAndM, tOrM, tNotM, mIfE, mAndV, mOrV, mNotV, mApp, mAug, gNm, gTp, gCons', gNil', mAsg, mAsgL, mFor, iR1, iR2, bnd62, mDrop, mCatS, mCatT, mCatL, mSlT, mSlL, oNone, oSome, mIsi, isiD, mIsN, mNotN, Tl.isNon, mIntOf, gIntB, mMax', mMin', gMax2, gMin2, mEqD, mNeD, mIn, mNi, inF, eqF, mSlS, mIxS, mRaise1, mRaise2, mDefX, outX, okX, callX, mSetX, mExprX, mRetX, mTry, endT, dropX, mExF, mExI, mRevL, mRepL, mStr, gStr, mZf, mRepS, uSeq, uIf, uSet, uSetI, uRet, uRetU, uSkip, callU, mDefU, startU, outU, mSetU, mList, mBand, mBor, mDixV, asDic, iZT, iEnT, mDix, mDixV, mRepT, mDsp, dCons, dNil, mDict, vCons, vNil, scD, dSet, dEnd, putD, mDm, gDm, mTupOf, iN, iV, iT, frzV, mSetTX, mCallE, mRaise0, mMulW, mInL, mCall0, mRepT2, mDgt, s1, s2, e]
    | int x => have e := leaf_eq m (.str i) (.int x) (dueLeaf k _ hd (by simp)) hp (by simp); simp [b_same, mDef, okP_iff, okP_iffF, okP_T, okP_F, startC, argC, argN, outR, mSeq, mIf, mT, mLt, mLe, mGt, mGe, mII, cT, mVar, mC, mLen, aCons, aNil, gLen, asInt, asBl, asDat, asStr, asTup, asLst, asTrk, mRet, retR, mRetV, mSet, setR, mIxL, mIxT, mSkip, mEqS, mNeS, eqS, mMul, mAdd, mSub, mDiv, mMod, mPow, mNeg, cMul, cDiv, cMod, cPow, mTup, mLst, dats, szOk, mCall, mAbs', gAbs, mChain, tAndM, tOrM, tNotM, mIfE, mAndV, mOrV, mNotV, mApp, mAug, gNm, gTp, gCons', gNil', mAsg, mAsgL, mFor, iR1, iR2, bnd62, mDrop, mCatS, mCatT, mCatL, mSlT, mSlL, oNone, oSome, mIsi, isiD, mIsN, mNotN, Tl.isNon, mIntOf, gIntB, mMax', mMin', gMax2, gMin2, mEqD, mNeD, mIn, mNi, inF, eqF, mSlS, mIxS, mRaise1, mRaise2, mDefX, outX, okX, callX, mSetX, mExprX, mRetX, mTry, endT, dropX, mExF, mExI, mRevL, mRepL, mStr, gStr, mZf, mRepS, uSeq, uIf, uSet, uSetI, uRet, uRetU, uSkip, callU, mDefU, startU, outU, mSetU, mList, mBand, mBor, mDixV, asDic, iZT, iEnT, mDix, mDixV, mRepT, mDsp, dCons, dNil, mDict, vCons, vNil, scD, dSet, dEnd, putD, mDm, gDm, mTupOf, iN, iV, iT, frzV, mSetTX, mCallE, mRaise0, mMulW, mInL, mCall0, mRepT2, mDgt, s1, s2, e]
    | tup xs => have e := leaf_eq m (.str i) (.tup xs) (dueLeaf k _ hd (by simp)) hp (by simp); simp [b_same, mDef, okP_iff, okP_iffF, okP_T, okP_F, startC, argC, argN, outR, mSeq, mIf, mT, mLt, mLe, mGt, mGe, mII, cT, mVar, mC, mLen, aCons, aNil, gLen, asInt, asBl, asDat, asStr, asTup, asLst, asTrk, mRet, retR, mRetV, mSet, setR, mIxL, mIxT, mSkip, mEqS, mNeS, eqS, mMul, mAdd, mSub, mDiv, mMod, mPow, mNeg, cMul, cDiv, cMod, cPow, mTup, mLst, dats, szOk, mCall, mAbs', gAbs, mChain, tAndM, tOrM, tNotM, mIfE, mAndV, mOrV, mNotV, mApp, mAug, gNm, gTp, gCons', gNil', mAsg, mAsgL, mFor, iR1, iR2, bnd62, mDrop, mCatS, mCatT, mCatL, mSlT, mSlL, oNone, oSome, mIsi, isiD, mIsN, mNotN, Tl.isNon, mIntOf, gIntB, mMax', mMin', gMax2, gMin2, mEqD, mNeD, mIn, mNi, inF, eqF, mSlS, mIxS, mRaise1, mRaise2, mDefX, outX, okX, callX, mSetX, mExprX, mRetX, mTry, endT, dropX, mExF, mExI, mRevL, mRepL, mStr, gStr, mZf, mRepS, uSeq, uIf, uSet, uSetI, uRet, uRetU, uSkip, callU, mDefU, startU, outU, mSetU, mList, mBand, mBor, mDixV, asDic, iZT, iEnT, mDix, mDixV, mRepT, mDsp, dCons, dNil, mDict, vCons, vNil, scD, dSet, dEnd, putD, mDm, gDm, mTupOf, iN, iV, iT, frzV, mSetTX, mCallE, mRaise0, mMulW, mInL, mCall0, mRepT2, mDgt, s1, s2, e]
  | k, .non, _, _, hd, _, _, _ => by cases k <;> exact hd.elim
  | k, .dic _, _, _, hd, _, _, _ => by cases k <;> exact hd.elim
  | 0, .tup _, _, _, hd, _, _, _ => hd.elim

end Lw

namespace Lw
open PySem PySem.Spec PyProof.Rows L2 Evl Tl TL
def jbs : List D → List D → List Bool
  | d :: ds, p :: ps => jb d p :: jbs ds ps
  | _, _ => []
theorem jbs_all : ∀ ds ps : List D, ds.length = ps.length → (jbs ds ps).all id = jbL ds ps
  | [], [], _ => rfl
  | [], _ :: _, h => by simp at h
  | _ :: _, [], h => by simp at h
  | d :: ds, p :: ps, h => by
    show (jb d p && (jbs ds ps).all id) = (jb d p && jbL ds ps)
    rw [jbs_all ds ps (by simpa using h)]
theorem bls_id : ∀ bs : List Bool, blsOf (bs.map D.bl) = some bs
  | [] => rfl
  | b :: bs => by
    show (blsOf (bs.map D.bl)).map (b :: ·) = _
    rw [bls_id bs]
    rfl
theorem lc_put {g : MG} {t : MT} {f : ME} {ρ : Rho} {d y : D} {ds : List D} {ρ1 : Rho} (h1 : g d ρ = some ρ1) (h2 : t ρ1 = some true) (h3 : f ρ1 = some (.dat y)) : lcM g t f ρ (d :: ds) = (lcM g t f ρ ds).map fun ys => y :: ys := by
  simp [lcM, h1, h2, h3, asDat]
theorem just_all (j : Nat) (x y : C) : ∀ (ds ps : List D), ds.length = ps.length → (∀ (i : Nat) (d p : D), ds[i]? = some d → ps[i]? = some p → m__law_just j [.dat p, .dat d] = some (.dat (.bl (jb d p)))) →
    lcM (gTp (gCons' (gNm 2) (gCons' (gNm 3) gNil'))) tYesM (mCall (m__law_just j) (aCons (mVar 2) (aCons (mVar 3) aNil))) [x, y, .un, .un] (zipD ps ds) = some ((jbs ds ps).map .bl)
  | [], [], _, _ => rfl
  | [], _ :: _, h, _ => by simp at h
  | _ :: _, [], h, _ => by simp at h
  | d :: ds, p :: ps, h, hs => by
    have ih := just_all j x y ds ps (by simpa using h) fun i d p h1 h2 => hs (i + 1) d p (by simpa using h1) (by simpa using h2)
    show lcM _ _ _ _ (.tup [p, d] :: zipD ps ds) = _
    rw [lc_put (ρ1 := [x, y, .dat p, .dat d]) (y := .bl (jb d p)) rfl rfl (v_call (rs := [.dat p, .dat d]) rfl (hs 0 d p rfl rfl)), ih]
    rfl
theorem just_jb : ∀ (k : Nat) (d p : D) (m : Nat), dueOk k d → nice m p → k ≤ 50 → m ≤ 50 → m__law_just (k + 1) [.dat p, .dat d] = some (.dat (.bl (jb d p)))
  | k + 1, .tup ds, p, m, hd, hp, hk, hm => by
    have hz : ds.length ≤ 100 := hd.1
    cases p with
    | tup ps =>
      have hl := len_tup hp
      obtain ⟨m', rfl⟩ : ∃ m', m = m' + 1 := by
        cases m with
        | zero => exact hp.elim
        | succ m => exact ⟨m, rfl⟩
      have L1 : ∀ (i : Nat) (xs : List D), xs.length ≤ 1000 → [C.dat (.tup ps), .dat (.tup ds), .un, .un][i]? = some (.dat (.tup xs)) → mLen (mVar i) [C.dat (.tup ps), .dat (.tup ds), .un, .un] = some (.dat (.int xs.length)) := fun i xs h1 h2 => by
        simp only [mLen, aCons, aNil, mVar, h2, Option.bind_some, Option.map_some, gLen, show szOk xs.length = true from okP_t (by omega), if_true]
      have B : mT (mNeS (mLen (mVar 0)) (mLen (mVar 1))) [C.dat (.tup ps), .dat (.tup ds), .un, .un] = some (!okP ((ps.length : Int) = ds.length)) := by
        simp only [mT, mNeS, L1 0 ps hl rfl, L1 1 ds (by omega) rfl, asDat, Option.bind_some, Option.map_some, eqS, asBl]
      by_cases q : ds.length = ps.length
      · rw [okP_t (by omega)] at B
        have A := just_all (k + 1) (.dat (.tup ps)) (.dat (.tup ds)) ds ps q fun i d p h1 h2 => just_jb k d p m' (hd.2 d (List.mem_of_getElem? h1)) (hp.2 p (List.mem_of_getElem? h2)) (by omega) (by omega)
        have hzl : (zipD ps ds).length = ps.length := zipD_len ps ds q.symm
        have E : mAll (mLc (iZT (mVar 0) (mVar 1)) (gTp (gCons' (gNm 2) (gCons' (gNm 3) gNil'))) tYesM (mCall (m__law_just (k + 1)) (aCons (mVar 2) (aCons (mVar 3) aNil))) [2, 3]) [C.dat (.tup ps), .dat (.tup ds), .un, .un] = some (.dat (.bl (jbL ds ps))) := by
          rw [← jbs_all ds ps q]
          simp [mAll, mLc, iZT, mVar, asTup, asLst, hzl, wipeC, dropX, szOk, okP_iff, show ps.length + 1 ≤ 100000 by omega, show ps.length ≤ 99999 by omega, okP_T, A, bls_id]
        refine v_out rfl (v_seqR (v_ifT rfl (v_seq (v_ifF ?_ rfl) (v_ret E))))
        unfold tOrM tNotM
        exact B
      · rw [okP_f (by omega)] at B
        rw [show jb (.tup ds) (.tup ps) = false from jbL_len ds ps q]
        refine v_out rfl (v_seqR (v_ifT rfl (v_seqR (v_ifT ?_ rfl))))
        unfold tOrM tNotM
        exact B
    | non => exact v_out rfl (v_seqR (v_ifT rfl (v_seqR (v_ifT rfl rfl))))
    | bl b => exact v_out rfl (v_seqR (v_ifT rfl (v_seqR (v_ifT rfl rfl))))
    | int i => exact v_out rfl (v_seqR (v_ifT rfl (v_seqR (v_ifT rfl rfl))))
    | str x => exact v_out rfl (v_seqR (v_ifT rfl (v_seqR (v_ifT rfl rfl))))
    | dic _ => cases m <;> exact hp.elim
  | k, .int i, p, m, hd, hp, hk, hm => by
    show mDef 4 2 (b__law_just (m__law_just k)) _ = _
    have s1 := shp_int i
    have s2 := nice_shp hp (by omega)
    refine v_def rfl ?_
    cases p with
    | bl c => simp [b__law_just, mDef, okP_iff, okP_iffF, okP_T, okP_F, startC, argC, argN, outR, mSeq, mIf, mT, mLt, mLe, mGt, mGe, mII, cT, mVar, mC, mLen, aCons, aNil, gLen, asInt, asBl, asDat, asStr, asTup, asLst, asTrk, mRet, retR, mRetV, mSet, setR, mIxL, mIxT, mSkip, mEqS, mNeS, eqS, mMul, mAdd, mSub, mDiv, mMod, mPow, mNeg, cMul, cDiv, cMod, cPow, mTup, mLst, dats, szOk, mCall, mAbs', gAbs, mChain, tAndM, tOrM, tNotM, mIfE, mAndV, mOrV, mNotV, mApp, mAug, gNm, gTp, gCons', gNil', mAsg, mAsgL, mFor, iR1, iR2, bnd62, mDrop, mCatS, mCatT, mCatL, mSlT, mSlL, oNone, oSome, mIsi, isiD, mIsN, mNotN, Tl.isNon, mIntOf, gIntB, mMax', mMin', gMax2, gMin2, mEqD, mNeD, mIn, mNi, inF, eqF, mSlS, mIxS, mRaise1, mRaise2, mDefX, outX, okX, callX, mSetX, mExprX, mRetX, mTry, endT, dropX, mExF, mExI, mRevL, mRepL, mStr, gStr, mZf, mRepS, uSeq, uIf, uSet, uSetI, uRet, uRetU, uSkip, callU, mDefU, startU, outU, mSetU, mList, mBand, mBor, mDixV, asDic, iZT, iEnT, mDix, mDixV, mRepT, mDsp, dCons, dNil, mDict, vCons, vNil, scD, dSet, dEnd, putD, mDm, gDm, mTupOf, iN, iV, iT, frzV, mSetTX, mCallE, mRaise0, mMulW, mInL, mCall0, mRepT2, mDgt, jb]
    | dic _ => cases m <;> exact hp.elim
    | int j => simp [b__law_just, mDef, okP_iff, okP_iffF, okP_T, okP_F, startC, argC, argN, outR, mSeq, mIf, mT, mLt, mLe, mGt, mGe, mII, cT, mVar, mC, mLen, aCons, aNil, gLen, asInt, asBl, asDat, asStr, asTup, asLst, asTrk, mRet, retR, mRetV, mSet, setR, mIxL, mIxT, mSkip, mEqS, mNeS, eqS, mMul, mAdd, mSub, mDiv, mMod, mPow, mNeg, cMul, cDiv, cMod, cPow, mTup, mLst, dats, szOk, mCall, mAbs', gAbs, mChain, tAndM, tOrM, tNotM, mIfE, mAndV, mOrV, mNotV, mApp, mAug, gNm, gTp, gCons', gNil', mAsg, mAsgL, mFor, iR1, iR2, bnd62, mDrop, mCatS, mCatT, mCatL, mSlT, mSlL, oNone, oSome, mIsi, isiD, mIsN, mNotN, Tl.isNon, mIntOf, gIntB, mMax', mMin', gMax2, gMin2, mEqD, mNeD, mIn, mNi, inF, eqF, mSlS, mIxS, mRaise1, mRaise2, mDefX, outX, okX, callX, mSetX, mExprX, mRetX, mTry, endT, dropX, mExF, mExI, mRevL, mRepL, mStr, gStr, mZf, mRepS, uSeq, uIf, uSet, uSetI, uRet, uRetU, uSkip, callU, mDefU, startU, outU, mSetU, mList, mBand, mBor, mDixV, asDic, iZT, iEnT, mDix, mDixV, mRepT, mDsp, dCons, dNil, mDict, vCons, vNil, scD, dSet, dEnd, putD, mDm, gDm, mTupOf, iN, iV, iT, frzV, mSetTX, mCallE, mRaise0, mMulW, mInL, mCall0, mRepT2, mDgt, s1, shp_int, ii_eq]
    | non => simp [b__law_just, mDef, okP_iff, okP_iffF, okP_T, okP_F, startC, argC, argN, outR, mSeq, mIf, mT, mLt, mLe, mGt, mGe, mII, cT, mVar, mC, mLen, aCons, aNil, gLen, asInt, asBl, asDat, asStr, asTup, asLst, asTrk, mRet, retR, mRetV, mSet, setR, mIxL, mIxT, mSkip, mEqS, mNeS, eqS, mMul, mAdd, mSub, mDiv, mMod, mPow, mNeg, cMul, cDiv, cMod, cPow, mTup, mLst, dats, szOk, mCall, mAbs', gAbs, mChain, tAndM, tOrM, tNotM, mIfE, mAndV, mOrV, mNotV, mApp, mAug, gNm, gTp, gCons', gNil', mAsg, mAsgL, mFor, iR1, iR2, bnd62, mDrop, mCatS, mCatT, mCatL, mSlT, mSlL, oNone, oSome, mIsi, isiD, mIsN, mNotN, Tl.isNon, mIntOf, gIntB, mMax', mMin', gMax2, gMin2, mEqD, mNeD, mIn, mNi, inF, eqF, mSlS, mIxS, mRaise1, mRaise2, mDefX, outX, okX, callX, mSetX, mExprX, mRetX, mTry, endT, dropX, mExF, mExI, mRevL, mRepL, mStr, gStr, mZf, mRepS, uSeq, uIf, uSet, uSetI, uRet, uRetU, uSkip, callU, mDefU, startU, outU, mSetU, mList, mBand, mBor, mDixV, asDic, iZT, iEnT, mDix, mDixV, mRepT, mDsp, dCons, dNil, mDict, vCons, vNil, scD, dSet, dEnd, putD, mDm, gDm, mTupOf, iN, iV, iT, frzV, mSetTX, mCallE, mRaise0, mMulW, mInL, mCall0, mRepT2, mDgt, jb]
    | str x => simp [b__law_just, mDef, okP_iff, okP_iffF, okP_T, okP_F, startC, argC, argN, outR, mSeq, mIf, mT, mLt, mLe, mGt, mGe, mII, cT, mVar, mC, mLen, aCons, aNil, gLen, asInt, asBl, asDat, asStr, asTup, asLst, asTrk, mRet, retR, mRetV, mSet, setR, mIxL, mIxT, mSkip, mEqS, mNeS, eqS, mMul, mAdd, mSub, mDiv, mMod, mPow, mNeg, cMul, cDiv, cMod, cPow, mTup, mLst, dats, szOk, mCall, mAbs', gAbs, mChain, tAndM, tOrM, tNotM, mIfE, mAndV, mOrV, mNotV, mApp, mAug, gNm, gTp, gCons', gNil', mAsg, mAsgL, mFor, iR1, iR2, bnd62, mDrop, mCatS, mCatT, mCatL, mSlT, mSlL, oNone, oSome, mIsi, isiD, mIsN, mNotN, Tl.isNon, mIntOf, gIntB, mMax', mMin', gMax2, gMin2, mEqD, mNeD, mIn, mNi, inF, eqF, mSlS, mIxS, mRaise1, mRaise2, mDefX, outX, okX, callX, mSetX, mExprX, mRetX, mTry, endT, dropX, mExF, mExI, mRevL, mRepL, mStr, gStr, mZf, mRepS, uSeq, uIf, uSet, uSetI, uRet, uRetU, uSkip, callU, mDefU, startU, outU, mSetU, mList, mBand, mBor, mDixV, asDic, iZT, iEnT, mDix, mDixV, mRepT, mDsp, dCons, dNil, mDict, vCons, vNil, scD, dSet, dEnd, putD, mDm, gDm, mTupOf, iN, iV, iT, frzV, mSetTX, mCallE, mRaise0, mMulW, mInL, mCall0, mRepT2, mDgt, jb]
    | tup xs => simp [b__law_just, mDef, okP_iff, okP_iffF, okP_T, okP_F, startC, argC, argN, outR, mSeq, mIf, mT, mLt, mLe, mGt, mGe, mII, cT, mVar, mC, mLen, aCons, aNil, gLen, asInt, asBl, asDat, asStr, asTup, asLst, asTrk, mRet, retR, mRetV, mSet, setR, mIxL, mIxT, mSkip, mEqS, mNeS, eqS, mMul, mAdd, mSub, mDiv, mMod, mPow, mNeg, cMul, cDiv, cMod, cPow, mTup, mLst, dats, szOk, mCall, mAbs', gAbs, mChain, tAndM, tOrM, tNotM, mIfE, mAndV, mOrV, mNotV, mApp, mAug, gNm, gTp, gCons', gNil', mAsg, mAsgL, mFor, iR1, iR2, bnd62, mDrop, mCatS, mCatT, mCatL, mSlT, mSlL, oNone, oSome, mIsi, isiD, mIsN, mNotN, Tl.isNon, mIntOf, gIntB, mMax', mMin', gMax2, gMin2, mEqD, mNeD, mIn, mNi, inF, eqF, mSlS, mIxS, mRaise1, mRaise2, mDefX, outX, okX, callX, mSetX, mExprX, mRetX, mTry, endT, dropX, mExF, mExI, mRevL, mRepL, mStr, gStr, mZf, mRepS, uSeq, uIf, uSet, uSetI, uRet, uRetU, uSkip, callU, mDefU, startU, outU, mSetU, mList, mBand, mBor, mDixV, asDic, iZT, iEnT, mDix, mDixV, mRepT, mDsp, dCons, dNil, mDict, vCons, vNil, scD, dSet, dEnd, putD, mDm, gDm, mTupOf, iN, iV, iT, frzV, mSetTX, mCallE, mRaise0, mMulW, mInL, mCall0, mRepT2, mDgt, jb]
  | k, .bl i, p, m, hd, hp, hk, hm => by
    show mDef 4 2 (b__law_just (m__law_just k)) _ = _
    have s1 := shp_bl i
    have s2 := nice_shp hp (by omega)
    refine v_def rfl ?_
    cases p with
    | bl c => simp [b__law_just, mDef, okP_iff, okP_iffF, okP_T, okP_F, startC, argC, argN, outR, mSeq, mIf, mT, mLt, mLe, mGt, mGe, mII, cT, mVar, mC, mLen, aCons, aNil, gLen, asInt, asBl, asDat, asStr, asTup, asLst, asTrk, mRet, retR, mRetV, mSet, setR, mIxL, mIxT, mSkip, mEqS, mNeS, eqS, mMul, mAdd, mSub, mDiv, mMod, mPow, mNeg, cMul, cDiv, cMod, cPow, mTup, mLst, dats, szOk, mCall, mAbs', gAbs, mChain, tAndM, tOrM, tNotM, mIfE, mAndV, mOrV, mNotV, mApp, mAug, gNm, gTp, gCons', gNil', mAsg, mAsgL, mFor, iR1, iR2, bnd62, mDrop, mCatS, mCatT, mCatL, mSlT, mSlL, oNone, oSome, mIsi, isiD, mIsN, mNotN, Tl.isNon, mIntOf, gIntB, mMax', mMin', gMax2, gMin2, mEqD, mNeD, mIn, mNi, inF, eqF, mSlS, mIxS, mRaise1, mRaise2, mDefX, outX, okX, callX, mSetX, mExprX, mRetX, mTry, endT, dropX, mExF, mExI, mRevL, mRepL, mStr, gStr, mZf, mRepS, uSeq, uIf, uSet, uSetI, uRet, uRetU, uSkip, callU, mDefU, startU, outU, mSetU, mList, mBand, mBor, mDixV, asDic, iZT, iEnT, mDix, mDixV, mRepT, mDsp, dCons, dNil, mDict, vCons, vNil, scD, dSet, dEnd, putD, mDm, gDm, mTupOf, iN, iV, iT, frzV, mSetTX, mCallE, mRaise0, mMulW, mInL, mCall0, mRepT2, mDgt, s1, shp_bl, bb_eq]
    | dic _ => cases m <;> exact hp.elim
    | int j => simp [b__law_just, mDef, okP_iff, okP_iffF, okP_T, okP_F, startC, argC, argN, outR, mSeq, mIf, mT, mLt, mLe, mGt, mGe, mII, cT, mVar, mC, mLen, aCons, aNil, gLen, asInt, asBl, asDat, asStr, asTup, asLst, asTrk, mRet, retR, mRetV, mSet, setR, mIxL, mIxT, mSkip, mEqS, mNeS, eqS, mMul, mAdd, mSub, mDiv, mMod, mPow, mNeg, cMul, cDiv, cMod, cPow, mTup, mLst, dats, szOk, mCall, mAbs', gAbs, mChain, tAndM, tOrM, tNotM, mIfE, mAndV, mOrV, mNotV, mApp, mAug, gNm, gTp, gCons', gNil', mAsg, mAsgL, mFor, iR1, iR2, bnd62, mDrop, mCatS, mCatT, mCatL, mSlT, mSlL, oNone, oSome, mIsi, isiD, mIsN, mNotN, Tl.isNon, mIntOf, gIntB, mMax', mMin', gMax2, gMin2, mEqD, mNeD, mIn, mNi, inF, eqF, mSlS, mIxS, mRaise1, mRaise2, mDefX, outX, okX, callX, mSetX, mExprX, mRetX, mTry, endT, dropX, mExF, mExI, mRevL, mRepL, mStr, gStr, mZf, mRepS, uSeq, uIf, uSet, uSetI, uRet, uRetU, uSkip, callU, mDefU, startU, outU, mSetU, mList, mBand, mBor, mDixV, asDic, iZT, iEnT, mDix, mDixV, mRepT, mDsp, dCons, dNil, mDict, vCons, vNil, scD, dSet, dEnd, putD, mDm, gDm, mTupOf, iN, iV, iT, frzV, mSetTX, mCallE, mRaise0, mMulW, mInL, mCall0, mRepT2, mDgt, jb]
    | non => simp [b__law_just, mDef, okP_iff, okP_iffF, okP_T, okP_F, startC, argC, argN, outR, mSeq, mIf, mT, mLt, mLe, mGt, mGe, mII, cT, mVar, mC, mLen, aCons, aNil, gLen, asInt, asBl, asDat, asStr, asTup, asLst, asTrk, mRet, retR, mRetV, mSet, setR, mIxL, mIxT, mSkip, mEqS, mNeS, eqS, mMul, mAdd, mSub, mDiv, mMod, mPow, mNeg, cMul, cDiv, cMod, cPow, mTup, mLst, dats, szOk, mCall, mAbs', gAbs, mChain, tAndM, tOrM, tNotM, mIfE, mAndV, mOrV, mNotV, mApp, mAug, gNm, gTp, gCons', gNil', mAsg, mAsgL, mFor, iR1, iR2, bnd62, mDrop, mCatS, mCatT, mCatL, mSlT, mSlL, oNone, oSome, mIsi, isiD, mIsN, mNotN, Tl.isNon, mIntOf, gIntB, mMax', mMin', gMax2, gMin2, mEqD, mNeD, mIn, mNi, inF, eqF, mSlS, mIxS, mRaise1, mRaise2, mDefX, outX, okX, callX, mSetX, mExprX, mRetX, mTry, endT, dropX, mExF, mExI, mRevL, mRepL, mStr, gStr, mZf, mRepS, uSeq, uIf, uSet, uSetI, uRet, uRetU, uSkip, callU, mDefU, startU, outU, mSetU, mList, mBand, mBor, mDixV, asDic, iZT, iEnT, mDix, mDixV, mRepT, mDsp, dCons, dNil, mDict, vCons, vNil, scD, dSet, dEnd, putD, mDm, gDm, mTupOf, iN, iV, iT, frzV, mSetTX, mCallE, mRaise0, mMulW, mInL, mCall0, mRepT2, mDgt, jb]
    | str x => simp [b__law_just, mDef, okP_iff, okP_iffF, okP_T, okP_F, startC, argC, argN, outR, mSeq, mIf, mT, mLt, mLe, mGt, mGe, mII, cT, mVar, mC, mLen, aCons, aNil, gLen, asInt, asBl, asDat, asStr, asTup, asLst, asTrk, mRet, retR, mRetV, mSet, setR, mIxL, mIxT, mSkip, mEqS, mNeS, eqS, mMul, mAdd, mSub, mDiv, mMod, mPow, mNeg, cMul, cDiv, cMod, cPow, mTup, mLst, dats, szOk, mCall, mAbs', gAbs, mChain, tAndM, tOrM, tNotM, mIfE, mAndV, mOrV, mNotV, mApp, mAug, gNm, gTp, gCons', gNil', mAsg, mAsgL, mFor, iR1, iR2, bnd62, mDrop, mCatS, mCatT, mCatL, mSlT, mSlL, oNone, oSome, mIsi, isiD, mIsN, mNotN, Tl.isNon, mIntOf, gIntB, mMax', mMin', gMax2, gMin2, mEqD, mNeD, mIn, mNi, inF, eqF, mSlS, mIxS, mRaise1, mRaise2, mDefX, outX, okX, callX, mSetX, mExprX, mRetX, mTry, endT, dropX, mExF, mExI, mRevL, mRepL, mStr, gStr, mZf, mRepS, uSeq, uIf, uSet, uSetI, uRet, uRetU, uSkip, callU, mDefU, startU, outU, mSetU, mList, mBand, mBor, mDixV, asDic, iZT, iEnT, mDix, mDixV, mRepT, mDsp, dCons, dNil, mDict, vCons, vNil, scD, dSet, dEnd, putD, mDm, gDm, mTupOf, iN, iV, iT, frzV, mSetTX, mCallE, mRaise0, mMulW, mInL, mCall0, mRepT2, mDgt, jb]
    | tup xs => simp [b__law_just, mDef, okP_iff, okP_iffF, okP_T, okP_F, startC, argC, argN, outR, mSeq, mIf, mT, mLt, mLe, mGt, mGe, mII, cT, mVar, mC, mLen, aCons, aNil, gLen, asInt, asBl, asDat, asStr, asTup, asLst, asTrk, mRet, retR, mRetV, mSet, setR, mIxL, mIxT, mSkip, mEqS, mNeS, eqS, mMul, mAdd, mSub, mDiv, mMod, mPow, mNeg, cMul, cDiv, cMod, cPow, mTup, mLst, dats, szOk, mCall, mAbs', gAbs, mChain, tAndM, tOrM, tNotM, mIfE, mAndV, mOrV, mNotV, mApp, mAug, gNm, gTp, gCons', gNil', mAsg, mAsgL, mFor, iR1, iR2, bnd62, mDrop, mCatS, mCatT, mCatL, mSlT, mSlL, oNone, oSome, mIsi, isiD, mIsN, mNotN, Tl.isNon, mIntOf, gIntB, mMax', mMin', gMax2, gMin2, mEqD, mNeD, mIn, mNi, inF, eqF, mSlS, mIxS, mRaise1, mRaise2, mDefX, outX, okX, callX, mSetX, mExprX, mRetX, mTry, endT, dropX, mExF, mExI, mRevL, mRepL, mStr, gStr, mZf, mRepS, uSeq, uIf, uSet, uSetI, uRet, uRetU, uSkip, callU, mDefU, startU, outU, mSetU, mList, mBand, mBor, mDixV, asDic, iZT, iEnT, mDix, mDixV, mRepT, mDsp, dCons, dNil, mDict, vCons, vNil, scD, dSet, dEnd, putD, mDm, gDm, mTupOf, iN, iV, iT, frzV, mSetTX, mCallE, mRaise0, mMulW, mInL, mCall0, mRepT2, mDgt, jb]
  | k, .str i, p, m, hd, hp, hk, hm => by
    show mDef 4 2 (b__law_just (m__law_just k)) _ = _
    have s1 : shp (.str i) = true := shp_str (by cases k <;> exact hd)
    have s2 := nice_shp hp (by omega)
    refine v_def rfl ?_
    cases p with
    | bl c => simp [b__law_just, mDef, okP_iff, okP_iffF, okP_T, okP_F, startC, argC, argN, outR, mSeq, mIf, mT, mLt, mLe, mGt, mGe, mII, cT, mVar, mC, mLen, aCons, aNil, gLen, asInt, asBl, asDat, asStr, asTup, asLst, asTrk, mRet, retR, mRetV, mSet, setR, mIxL, mIxT, mSkip, mEqS, mNeS, eqS, mMul, mAdd, mSub, mDiv, mMod, mPow, mNeg, cMul, cDiv, cMod, cPow, mTup, mLst, dats, szOk, mCall, mAbs', gAbs, mChain, tAndM, tOrM, tNotM, mIfE, mAndV, mOrV, mNotV, mApp, mAug, gNm, gTp, gCons', gNil', mAsg, mAsgL, mFor, iR1, iR2, bnd62, mDrop, mCatS, mCatT, mCatL, mSlT, mSlL, oNone, oSome, mIsi, isiD, mIsN, mNotN, Tl.isNon, mIntOf, gIntB, mMax', mMin', gMax2, gMin2, mEqD, mNeD, mIn, mNi, inF, eqF, mSlS, mIxS, mRaise1, mRaise2, mDefX, outX, okX, callX, mSetX, mExprX, mRetX, mTry, endT, dropX, mExF, mExI, mRevL, mRepL, mStr, gStr, mZf, mRepS, uSeq, uIf, uSet, uSetI, uRet, uRetU, uSkip, callU, mDefU, startU, outU, mSetU, mList, mBand, mBor, mDixV, asDic, iZT, iEnT, mDix, mDixV, mRepT, mDsp, dCons, dNil, mDict, vCons, vNil, scD, dSet, dEnd, putD, mDm, gDm, mTupOf, iN, iV, iT, frzV, mSetTX, mCallE, mRaise0, mMulW, mInL, mCall0, mRepT2, mDgt, jb]
    | dic _ => cases m <;> exact hp.elim
    | str j => simp [b__law_just, mDef, okP_iff, okP_iffF, okP_T, okP_F, startC, argC, argN, outR, mSeq, mIf, mT, mLt, mLe, mGt, mGe, mII, cT, mVar, mC, mLen, aCons, aNil, gLen, asInt, asBl, asDat, asStr, asTup, asLst, asTrk, mRet, retR, mRetV, mSet, setR, mIxL, mIxT, mSkip, mEqS, mNeS, eqS, mMul, mAdd, mSub, mDiv, mMod, mPow, mNeg, cMul, cDiv, cMod, cPow, mTup, mLst, dats, szOk, mCall, mAbs', gAbs, mChain, tAndM, tOrM, tNotM, mIfE, mAndV, mOrV, mNotV, mApp, mAug, gNm, gTp, gCons', gNil', mAsg, mAsgL, mFor, iR1, iR2, bnd62, mDrop, mCatS, mCatT, mCatL, mSlT, mSlL, oNone, oSome, mIsi, isiD, mIsN, mNotN, Tl.isNon, mIntOf, gIntB, mMax', mMin', gMax2, gMin2, mEqD, mNeD, mIn, mNi, inF, eqF, mSlS, mIxS, mRaise1, mRaise2, mDefX, outX, okX, callX, mSetX, mExprX, mRetX, mTry, endT, dropX, mExF, mExI, mRevL, mRepL, mStr, gStr, mZf, mRepS, uSeq, uIf, uSet, uSetI, uRet, uRetU, uSkip, callU, mDefU, startU, outU, mSetU, mList, mBand, mBor, mDixV, asDic, iZT, iEnT, mDix, mDixV, mRepT, mDsp, dCons, dNil, mDict, vCons, vNil, scD, dSet, dEnd, putD, mDm, gDm, mTupOf, iN, iV, iT, frzV, mSetTX, mCallE, mRaise0, mMulW, mInL, mCall0, mRepT2, mDgt, s1, s2, ss_eq]
    | non => simp [b__law_just, mDef, okP_iff, okP_iffF, okP_T, okP_F, startC, argC, argN, outR, mSeq, mIf, mT, mLt, mLe, mGt, mGe, mII, cT, mVar, mC, mLen, aCons, aNil, gLen, asInt, asBl, asDat, asStr, asTup, asLst, asTrk, mRet, retR, mRetV, mSet, setR, mIxL, mIxT, mSkip, mEqS, mNeS, eqS, mMul, mAdd, mSub, mDiv, mMod, mPow, mNeg, cMul, cDiv, cMod, cPow, mTup, mLst, dats, szOk, mCall, mAbs', gAbs, mChain, tAndM, tOrM, tNotM, mIfE, mAndV, mOrV, mNotV, mApp, mAug, gNm, gTp, gCons', gNil', mAsg, mAsgL, mFor, iR1, iR2, bnd62, mDrop, mCatS, mCatT, mCatL, mSlT, mSlL, oNone, oSome, mIsi, isiD, mIsN, mNotN, Tl.isNon, mIntOf, gIntB, mMax', mMin', gMax2, gMin2, mEqD, mNeD, mIn, mNi, inF, eqF, mSlS, mIxS, mRaise1, mRaise2, mDefX, outX, okX, callX, mSetX, mExprX, mRetX, mTry, endT, dropX, mExF, mExI, mRevL, mRepL, mStr, gStr, mZf, mRepS, uSeq, uIf, uSet, uSetI, uRet, uRetU, uSkip, callU, mDefU, startU, outU, mSetU, mList, mBand, mBor, mDixV, asDic, iZT, iEnT, mDix, mDixV, mRepT, mDsp, dCons, dNil, mDict, vCons, vNil, scD, dSet, dEnd, putD, mDm, gDm, mTupOf, iN, iV, iT, frzV, mSetTX, mCallE, mRaise0, mMulW, mInL, mCall0, mRepT2, mDgt, jb]
    | int x => simp [b__law_just, mDef, okP_iff, okP_iffF, okP_T, okP_F, startC, argC, argN, outR, mSeq, mIf, mT, mLt, mLe, mGt, mGe, mII, cT, mVar, mC, mLen, aCons, aNil, gLen, asInt, asBl, asDat, asStr, asTup, asLst, asTrk, mRet, retR, mRetV, mSet, setR, mIxL, mIxT, mSkip, mEqS, mNeS, eqS, mMul, mAdd, mSub, mDiv, mMod, mPow, mNeg, cMul, cDiv, cMod, cPow, mTup, mLst, dats, szOk, mCall, mAbs', gAbs, mChain, tAndM, tOrM, tNotM, mIfE, mAndV, mOrV, mNotV, mApp, mAug, gNm, gTp, gCons', gNil', mAsg, mAsgL, mFor, iR1, iR2, bnd62, mDrop, mCatS, mCatT, mCatL, mSlT, mSlL, oNone, oSome, mIsi, isiD, mIsN, mNotN, Tl.isNon, mIntOf, gIntB, mMax', mMin', gMax2, gMin2, mEqD, mNeD, mIn, mNi, inF, eqF, mSlS, mIxS, mRaise1, mRaise2, mDefX, outX, okX, callX, mSetX, mExprX, mRetX, mTry, endT, dropX, mExF, mExI, mRevL, mRepL, mStr, gStr, mZf, mRepS, uSeq, uIf, uSet, uSetI, uRet, uRetU, uSkip, callU, mDefU, startU, outU, mSetU, mList, mBand, mBor, mDixV, asDic, iZT, iEnT, mDix, mDixV, mRepT, mDsp, dCons, dNil, mDict, vCons, vNil, scD, dSet, dEnd, putD, mDm, gDm, mTupOf, iN, iV, iT, frzV, mSetTX, mCallE, mRaise0, mMulW, mInL, mCall0, mRepT2, mDgt, jb]
    | tup xs => simp [b__law_just, mDef, okP_iff, okP_iffF, okP_T, okP_F, startC, argC, argN, outR, mSeq, mIf, mT, mLt, mLe, mGt, mGe, mII, cT, mVar, mC, mLen, aCons, aNil, gLen, asInt, asBl, asDat, asStr, asTup, asLst, asTrk, mRet, retR, mRetV, mSet, setR, mIxL, mIxT, mSkip, mEqS, mNeS, eqS, mMul, mAdd, mSub, mDiv, mMod, mPow, mNeg, cMul, cDiv, cMod, cPow, mTup, mLst, dats, szOk, mCall, mAbs', gAbs, mChain, tAndM, tOrM, tNotM, mIfE, mAndV, mOrV, mNotV, mApp, mAug, gNm, gTp, gCons', gNil', mAsg, mAsgL, mFor, iR1, iR2, bnd62, mDrop, mCatS, mCatT, mCatL, mSlT, mSlL, oNone, oSome, mIsi, isiD, mIsN, mNotN, Tl.isNon, mIntOf, gIntB, mMax', mMin', gMax2, gMin2, mEqD, mNeD, mIn, mNi, inF, eqF, mSlS, mIxS, mRaise1, mRaise2, mDefX, outX, okX, callX, mSetX, mExprX, mRetX, mTry, endT, dropX, mExF, mExI, mRevL, mRepL, mStr, gStr, mZf, mRepS, uSeq, uIf, uSet, uSetI, uRet, uRetU, uSkip, callU, mDefU, startU, outU, mSetU, mList, mBand, mBor, mDixV, asDic, iZT, iEnT, mDix, mDixV, mRepT, mDsp, dCons, dNil, mDict, vCons, vNil, scD, dSet, dEnd, putD, mDm, gDm, mTupOf, iN, iV, iT, frzV, mSetTX, mCallE, mRaise0, mMulW, mInL, mCall0, mRepT2, mDgt, jb]
  | k, .non, _, _, hd, _, _, _ => by cases k <;> exact hd.elim
  | k, .dic _, _, _, hd, _, _, _ => by cases k <;> exact hd.elim
  | 0, .tup _, _, _, hd, _, _, _ => hd.elim

end Lw

namespace Lw
open PySem PySem.Spec PyProof.Rows L2 Evl Tl TL
/-! ### places in a paper -/
def atP : D → List Nat → Option D
  | d, [] => some d
  | .tup xs, i :: q => (xs[i]?).bind fun x => atP x q
  | _, _ :: _ => none
def pD (q : List Nat) : D := .tup (q.map fun i : Nat => D.int (i : Int))
theorem asTup_pD (q : List Nat) : asTup (some (.dat (pD q))) = some (q.map fun i : Nat => D.int (i : Int)) := rfl
theorem asTup_tup (xs : List D) : asTup (some (.dat (.tup xs))) = some xs := rfl
theorem pD_snoc (q : List Nat) (i : Nat) : D.tup (q.map (fun i : Nat => D.int (i : Int)) ++ [.int i]) = pD (q ++ [i]) := by
  unfold pD
  rw [List.map_append]
  rfl
theorem ext_loop (m : Mir) (k : Nat) (W : D → Nat) (Pq : D → List Nat → Prop) (c0 : C) (path : List Nat) (hp : path.length ≤ k) (hk : k ≤ 1000) : ∀ (xs : List D) (i : Nat) (acc : List D) (x3 x4 : C),
    (∀ x ∈ xs, ∀ p : List Nat, p.length ≤ k + 1 → ∃ ps : List (List Nat), m [.dat x, .dat (pD p)] = some (.new (ps.map fun q => pD (p ++ q))) ∧ ps.length = W x ∧ ∀ q ∈ ps, Pq x q) → acc.length + (xs.map W).sum ≤ 5000 →
    ∃ (ps : List (List Nat)) (y3 y4 : C), loopM (tg2 3 4) (mExt 2 (mCall m (aCons (mVar 4) (aCons (mCatT (mVar 1) (mTup (aCons (mVar 3) aNil))) aNil)))) (enK i xs) [c0, .dat (pD path), .own acc, x3, x4] = some (.nx [c0, .dat (pD path), .own (acc ++ ps.map fun q => pD (path ++ q)), y3, y4]) ∧
      ps.length = (xs.map W).sum ∧ ∀ q ∈ ps, ∃ j x q', q = (i + j) :: q' ∧ xs[j]? = some x ∧ Pq x q'
  | [], i, acc, x3, x4, _, _ => ⟨[], x3, x4, by rw [List.map_nil, List.append_nil]; rfl, rfl, fun q hq => by cases hq⟩
  | x :: xs, i, acc, x3, x4, h, hl => by
    obtain ⟨ps1, e1, l1, q1⟩ := h x (by simp) (path ++ [i]) (by simp; omega)
    simp only [List.map_cons, List.sum_cons] at hl
    obtain ⟨ps2, y3, y4, e2, l2, q2⟩ := ext_loop m k W Pq c0 path hp hk xs (i + 1) (acc ++ ps1.map fun q => pD (path ++ [i] ++ q)) (.dat (.int i)) (.dat x) (fun z hz => h z (List.mem_cons_of_mem _ hz)) (by rw [List.length_append, List.length_map, l1]; omega)
    refine ⟨ps1.map (i :: ·) ++ ps2, y3, y4, ?_, by rw [List.length_append, List.length_map, l1, l2, List.map_cons, List.sum_cons], fun q hq => ?_⟩
    · rw [enK_cons]
      have A : mCall m (aCons (mVar 4) (aCons (mCatT (mVar 1) (mTup (aCons (mVar 3) aNil))) aNil)) [c0, .dat (pD path), .own acc, .dat (.int i), .dat x] = some (.new (ps1.map fun q => pD (path ++ [i] ++ q))) := by
        refine v_call (rs := [.dat x, .dat (pD (path ++ [i]))]) ?_ e1
        rw [← pD_snoc]
        have t1 : mTup (aCons (mVar 3) aNil) [c0, .dat (pD path), .own acc, .dat (.int i), .dat x] = some (.dat (.tup [.int i])) := by
          simp [mTup, aCons, aNil, mVar, dats, szOk, okP_iff]
        have t2 : mCatT (mVar 1) (mTup (aCons (mVar 3) aNil)) [c0, .dat (pD path), .own acc, .dat (.int i), .dat x] = some (.dat (.tup (path.map (fun i : Nat => D.int (i : Int)) ++ [.int i]))) := by
          simp only [mCatT, t1, mVar, List.getElem?_cons_succ, List.getElem?_cons_zero, asTup_pD, asTup_tup, Option.bind_some, List.length_map, List.length_cons, List.length_nil, show szOk (path.length + (0 + 1)) = true from okP_t (by omega), if_true]
        simp only [aCons, aNil, t2, mVar, List.getElem?_cons_succ, List.getElem?_cons_zero, Option.bind_some, Option.map_some]
      have Bd : mExt 2 (mCall m (aCons (mVar 4) (aCons (mCatT (mVar 1) (mTup (aCons (mVar 3) aNil))) aNil))) [c0, .dat (pD path), .own acc, .dat (.int i), .dat x] = some (.nx [c0, .dat (pD path), .own (acc ++ ps1.map fun q => pD (path ++ [i] ++ q)), .dat (.int i), .dat x]) := by
        simp only [mExt, List.getElem?_cons_succ, List.getElem?_cons_zero, A, List.length_map, l1, show szOk (acc.length + W x) = true from okP_t (by omega), if_true]
        rfl
      rw [loop_nx (ρ1 := [c0, .dat (pD path), .own acc, .dat (.int i), .dat x]) rfl Bd, e2, List.map_append, List.map_map, List.append_assoc]
      have ee : (fun q => pD (path ++ [i] ++ q)) = ((fun q => pD (path ++ q)) ∘ fun x => i :: x) := by
        funext q
        simp
      rw [ee]
    · rcases List.mem_append.mp hq with hq | hq
      · obtain ⟨q', h1, rfl⟩ := List.mem_map.mp hq
        exact ⟨0, x, q', rfl, rfl, q1 q' h1⟩
      · obtain ⟨j, y, q', rfl, h1, h2⟩ := q2 q hq
        exact ⟨j + 1, y, q', by rw [show i + (j + 1) = i + 1 + j by omega], by simpa using h1, h2⟩
mutual
def lD : D → Nat
  | .tup xs => lL xs
  | _ => 1
def lL : List D → Nat
  | [] => 0
  | x :: xs => lD x + lL xs
end
theorem lL_sum : ∀ xs : List D, lL xs = (xs.map lD).sum
  | [] => rfl
  | x :: xs => by
    show lD x + lL xs = _
    rw [lL_sum xs]
    rfl
mutual
def tD : D → Nat
  | .tup [] => 0
  | .tup (x :: xs) => 1 + (tD x + tL xs)
  | _ => 0
def tL : List D → Nat
  | [] => 0
  | x :: xs => tD x + tL xs
end
theorem tL_sum : ∀ xs : List D, tL xs = (xs.map tD).sum
  | [] => rfl
  | x :: xs => by
    show tD x + tL xs = _
    rw [tL_sum xs]
    rfl
theorem sum_mem {W : D → Nat} : ∀ {xs : List D} {x : D}, x ∈ xs → W x ≤ (xs.map W).sum
  | y :: ys, x, h => by
    rw [List.map_cons, List.sum_cons]
    rcases List.mem_cons.mp h with e | h
    · rw [e]; omega
    · have := sum_mem (W := W) h
      omega
/-- a place of a leaf -/
def LeafAt (k : Nat) (d : D) (q : List Nat) : Prop := q.length ≤ k ∧ ∃ y, atP d q = some y ∧ dueOk 0 y
theorem cells_leaf (k : Nat) (d : D) (path : List Nat) (hk : dueOk k d) (h : ∀ xs, d ≠ .tup xs) : m__law_paper_cells (k + 1) [.dat d, .dat (pD path)] = some (.new [pD path]) := by
  show mDef 5 2 (b__law_paper_cells (m__law_paper_cells k)) _ = _
  refine v_out rfl (v_seqR (v_ifT ?_ ?_))
  · cases d with
    | tup xs => exact absurd rfl (h xs)
    | dic _ => cases k <;> exact hk.elim
    | _ => rfl
  · refine v_retN ?_
    simp [mLst, aCons, aNil, mVar, dats, szOk, okP_iff, startC, argC]
theorem cells_ok : ∀ (k : Nat) (d : D), dueOk k d → ∀ (path : List Nat), path.length + k ≤ 50 → lD d ≤ 2000 → ∃ ps : List (List Nat), m__law_paper_cells (k + 1) [.dat d, .dat (pD path)] = some (.new (ps.map fun q => pD (path ++ q))) ∧ ps.length = lD d ∧ ∀ q ∈ ps, LeafAt k d q
  | k + 1, .tup xs, hd, path, hp, hl => by
    have hl : lL xs ≤ 2000 := hl
    rw [lL_sum] at hl
    obtain ⟨ps, y3, y4, e, l, q⟩ := ext_loop (m__law_paper_cells (k + 1)) (49 - k) lD (LeafAt k) (.dat (.tup xs)) path (by omega) (by omega) xs 0 [] .un .un (fun x hx p hpl => cells_ok k x (hd.2 x hx) p (by omega) (Nat.le_trans (sum_mem hx) hl)) (by simpa using Nat.le_trans hl (by decide))
    refine ⟨ps, ?_, by rw [l, ← lL_sum]; rfl, fun z hz => ?_⟩
    · show mDef 5 2 (b__law_paper_cells (m__law_paper_cells (k + 1))) _ = _
      have zl : xs.length ≤ 100 := hd.1
      refine v_def rfl ?_
      have B : b__law_paper_cells (m__law_paper_cells (k + 1)) (startC 5 [.dat (.tup xs), .dat (pD path)]) = some (.ret (.new (ps.map fun q => pD (path ++ q)))) := by
        unfold b__law_paper_cells
        refine v_seq (v_ifF rfl rfl) ?_
        refine v_seq (ρ' := [.dat (.tup xs), .dat (pD path), .own [], .un, .un]) ?_ ?_
        · refine v_setN ?_
          simp [mLst, aNil, dats, szOk, okP_iff]
        refine v_seq (v_for (ds := enuD xs) rfl e) ?_
        rw [List.nil_append]
        rfl
      rw [B]
      rfl
    · obtain ⟨j, x, q', rfl, h1, h2, y, h3, h4⟩ := q z hz
      refine ⟨by simp; omega, y, ?_, h4⟩
      show (xs[0 + j]?).bind (fun x => atP x q') = _
      rw [Nat.zero_add, h1]
      exact h3
  | k, .int i, hd, path, hp, hl => ⟨[[]], by rw [cells_leaf k _ path hd (by simp)]; simp, rfl, fun q hq => by rw [List.mem_singleton] at hq; subst hq; exact ⟨Nat.zero_le _, _, rfl, dueLeaf k _ hd (by simp)⟩⟩
  | k, .bl i, hd, path, hp, hl => ⟨[[]], by rw [cells_leaf k _ path hd (by simp)]; simp, rfl, fun q hq => by rw [List.mem_singleton] at hq; subst hq; exact ⟨Nat.zero_le _, _, rfl, dueLeaf k _ hd (by simp)⟩⟩
  | k, .str i, hd, path, hp, hl => ⟨[[]], by rw [cells_leaf k _ path hd (by simp)]; simp, rfl, fun q hq => by rw [List.mem_singleton] at hq; subst hq; exact ⟨Nat.zero_le _, _, rfl, dueLeaf k _ hd (by simp)⟩⟩
  | k, .non, hd, _, _, _ => by cases k <;> exact hd.elim
  | k, .dic _, hd, _, _, _ => by cases k <;> exact hd.elim
  | 0, .tup _, hd, _, _, _ => hd.elim
/-- a place of a tuple -/
def TupAt (k : Nat) (d : D) (q : List Nat) : Prop := q.length ≤ k ∧ ∃ xs, atP d q = some (.tup xs) ∧ xs ≠ [] ∧ dueOk k (.tup xs)
theorem tuples_leaf (k : Nat) (d : D) (path : List Nat) (hk : dueOk k d) (h : ∀ xs, d ≠ .tup xs) : m__law_paper_tuples (k + 1) [.dat d, .dat (pD path)] = some (.new []) := by
  show mDef 5 2 (b__law_paper_tuples (m__law_paper_tuples k)) _ = _
  refine v_def rfl ?_
  have B : b__law_paper_tuples (m__law_paper_tuples k) (startC 5 [.dat d, .dat (pD path)]) = some (.ret (.new [])) := by
    unfold b__law_paper_tuples
    refine v_seq (ρ' := [.dat d, .dat (pD path), .own [], .un, .un]) ?_ ?_
    · refine v_setN ?_
      simp [mLst, aNil, dats, szOk, okP_iff]
    refine v_seq (v_ifF ?_ rfl) rfl
    cases d with
    | tup xs => exact absurd rfl (h xs)
    | dic _ => cases k <;> exact hk.elim
    | _ => rfl
  rw [B]
  rfl
theorem due_mono {k m : Nat} {d : D} (h : dueOk k d) (hl : k ≤ m) : dueOk m d := by
  induction hl with
  | refl => exact h
  | step _ ih => exact due_up _ _ ih
theorem tuples_ok : ∀ (k : Nat) (d : D), dueOk k d → ∀ (path : List Nat), path.length + k ≤ 50 → tD d ≤ 2000 → ∃ ps : List (List Nat), m__law_paper_tuples (k + 1) [.dat d, .dat (pD path)] = some (.new (ps.map fun q => pD (path ++ q))) ∧ ps.length = tD d ∧ ∀ q ∈ ps, TupAt k d q
  | k + 1, .tup [], hd, path, hp, hl => by
    refine ⟨[], ?_, rfl, fun q hq => by cases hq⟩
    show mDef 5 2 (b__law_paper_tuples (m__law_paper_tuples (k + 1))) _ = _
    refine v_def rfl ?_
    simp [b__law_paper_tuples, mDef, okP_iff, okP_iffF, okP_T, okP_F, startC, argC, argN, outR, mSeq, mIf, mT, mLt, mLe, mGt, mGe, mII, cT, mVar, mC, mLen, aCons, aNil, gLen, asInt, asBl, asDat, asStr, asTup, asLst, asTrk, mRet, retR, mRetV, mSet, setR, mIxL, mIxT, mSkip, mEqS, mNeS, eqS, mMul, mAdd, mSub, mDiv, mMod, mPow, mNeg, cMul, cDiv, cMod, cPow, mTup, mLst, dats, szOk, mCall, mAbs', gAbs, mChain, tAndM, tOrM, tNotM, mIfE, mAndV, mOrV, mNotV, mApp, mAug, gNm, gTp, gCons', gNil', mAsg, mAsgL, mFor, iR1, iR2, bnd62, mDrop, mCatS, mCatT, mCatL, mSlT, mSlL, oNone, oSome, mIsi, isiD, mIsN, mNotN, Tl.isNon, mIntOf, gIntB, mMax', mMin', gMax2, gMin2, mEqD, mNeD, mIn, mNi, inF, eqF, mSlS, mIxS, mRaise1, mRaise2, mDefX, outX, okX, callX, mSetX, mExprX, mRetX, mTry, endT, dropX, mExF, mExI, mRevL, mRepL, mStr, gStr, mZf, mRepS, uSeq, uIf, uSet, uSetI, uRet, uRetU, uSkip, callU, mDefU, startU, outU, mSetU, mList, mBand, mBor, mDixV, asDic, iZT, iEnT, mDix, mDixV, mRepT, mDsp, dCons, dNil, mDict, vCons, vNil, scD, dSet, dEnd, putD, mDm, gDm, mTupOf, iN, iV, iT, frzV, mSetTX, mCallE, mRaise0, mMulW, mInL, mCall0, mRepT2, mDgt]
  | k + 1, .tup (x0 :: xs0), hd, path, hp, hl => by
    have hl : 1 + tL (x0 :: xs0) ≤ 2000 := hl
    have hne : (x0 :: xs0) ≠ [] := by simp
    have hTD : tD (.tup (x0 :: xs0)) = 1 + tL (x0 :: xs0) := rfl
    rw [hTD]
    generalize x0 :: xs0 = xs at *
    rw [tL_sum] at hl ⊢
    obtain ⟨ps, y3, y4, e, l, q⟩ := ext_loop (m__law_paper_tuples (k + 1)) (49 - k) tD (TupAt k) (.dat (.tup xs)) path (by omega) (by omega) xs 0 [pD path] .un .un (fun x hx p hpl => tuples_ok k x (hd.2 x hx) p (by omega) (Nat.le_trans (sum_mem hx) (by omega))) (by simp only [List.length_cons, List.length_nil]; omega)
    have zl : xs.length ≤ 100 := hd.1
    refine ⟨[] :: ps, ?_, by rw [List.length_cons, l, Nat.add_comm], fun z hz => ?_⟩
    · show mDef 5 2 (b__law_paper_tuples (m__law_paper_tuples (k + 1))) _ = _
      refine v_def rfl ?_
      have B : b__law_paper_tuples (m__law_paper_tuples (k + 1)) (startC 5 [.dat (.tup xs), .dat (pD path)]) = some (.ret (.new (([] :: ps).map fun q => pD (path ++ q)))) := by
        unfold b__law_paper_tuples
        refine v_seq (ρ' := [.dat (.tup xs), .dat (pD path), .own [], .un, .un]) ?_ ?_
        · refine v_setN ?_
          simp [mLst, aNil, dats, szOk, okP_iff]
        have T : tAndM (mT (mIsi "tuple" (mVar 0))) (mT (mGt (mLen (mVar 0)) (mC (.int 0)))) [.dat (.tup xs), .dat (pD path), .own [], .un, .un] = some true := by
          have : 0 < xs.length := List.length_pos_iff.mpr hne
          simp [mDef, okP_iff, okP_iffF, okP_T, okP_F, startC, argC, argN, outR, mSeq, mIf, mT, mLt, mLe, mGt, mGe, mII, cT, mVar, mC, mLen, aCons, aNil, gLen, asInt, asBl, asDat, asStr, asTup, asLst, asTrk, mRet, retR, mRetV, mSet, setR, mIxL, mIxT, mSkip, mEqS, mNeS, eqS, mMul, mAdd, mSub, mDiv, mMod, mPow, mNeg, cMul, cDiv, cMod, cPow, mTup, mLst, dats, szOk, mCall, mAbs', gAbs, mChain, tAndM, tOrM, tNotM, mIfE, mAndV, mOrV, mNotV, mApp, mAug, gNm, gTp, gCons', gNil', mAsg, mAsgL, mFor, iR1, iR2, bnd62, mDrop, mCatS, mCatT, mCatL, mSlT, mSlL, oNone, oSome, mIsi, isiD, mIsN, mNotN, Tl.isNon, mIntOf, gIntB, mMax', mMin', gMax2, gMin2, mEqD, mNeD, mIn, mNi, inF, eqF, mSlS, mIxS, mRaise1, mRaise2, mDefX, outX, okX, callX, mSetX, mExprX, mRetX, mTry, endT, dropX, mExF, mExI, mRevL, mRepL, mStr, gStr, mZf, mRepS, uSeq, uIf, uSet, uSetI, uRet, uRetU, uSkip, callU, mDefU, startU, outU, mSetU, mList, mBand, mBor, mDixV, asDic, iZT, iEnT, mDix, mDixV, mRepT, mDsp, dCons, dNil, mDict, vCons, vNil, scD, dSet, dEnd, putD, mDm, gDm, mTupOf, iN, iV, iT, frzV, mSetTX, mCallE, mRaise0, mMulW, mInL, mCall0, mRepT2, mDgt, show xs.length ≤ 100000 by omega, this]
        refine v_seq (v_ifT T (v_seq (ρ' := [.dat (.tup xs), .dat (pD path), .own [pD path], .un, .un]) ?_ (v_for (ds := enuD xs) rfl e))) ?_
        · simp [mApp, mVar, asDat, szOk, okP_iff]
        · rw [List.map_cons, List.append_nil]
          rfl
      rw [B]
      rfl
    · rcases List.mem_cons.mp hz with rfl | hz
      · exact ⟨Nat.zero_le _, xs, rfl, hne, hd⟩
      · obtain ⟨j, x, q', rfl, h1, h2, y, h3, h4, h5⟩ := q z hz
        refine ⟨by simp; omega, y, ?_, h4, due_up _ _ h5⟩
        show (xs[0 + j]?).bind (fun x => atP x q') = _
        rw [Nat.zero_add, h1]
        exact h3
  | k, .int i, hd, path, hp, hl => ⟨[], tuples_leaf k _ path hd (by simp), rfl, fun q hq => by cases hq⟩
  | k, .bl i, hd, path, hp, hl => ⟨[], tuples_leaf k _ path hd (by simp), rfl, fun q hq => by cases hq⟩
  | k, .str i, hd, path, hp, hl => ⟨[], tuples_leaf k _ path hd (by simp), rfl, fun q hq => by cases hq⟩
  | k, .non, hd, _, _, _ => by cases k <;> exact hd.elim
  | k, .dic _, hd, _, _, _ => by cases k <;> exact hd.elim
  | 0, .tup _, hd, _, _, _ => hd.elim

end Lw

namespace Lw
open PySem PySem.Spec PyProof.Rows L2 Evl Tl TL
/-! ### another thing at a place -/
theorem cut_head (xs : List D) (i : Nat) (h : i ≤ xs.length) : Tl.cutD xs none (some (i : Int)) = xs.take i := by
  unfold Tl.cutD
  have e1 : HT.sIx xs.length 0 none = 0 := rfl
  have e2 : HT.sIx xs.length xs.length (some (i : Int)) = i := by
    unfold HT.sIx
    simp only
    rw [if_neg (by omega)]
    omega
  rw [e1, e2]
  simp
theorem cut_tail (xs : List D) (i : Nat) (h : i ≤ xs.length) : Tl.cutD xs (some (i : Int)) none = xs.drop i := by
  unfold Tl.cutD
  have e1 : HT.sIx xs.length 0 (some (i : Int)) = i := by
    unfold HT.sIx
    simp only
    rw [if_neg (by omega)]
    omega
  have e2 : HT.sIx xs.length xs.length none = xs.length := rfl
  rw [e1, e2]
  apply List.take_of_length_le
  rw [List.length_drop]
  exact Nat.le_refl _
theorem at_nat (xs : List D) (i : Nat) (x : D) (h : xs[i]? = some x) : atI xs (i : Int) = some x := atI_nat h
theorem mem_put {xs : List D} {i : Nat} {y z : D} (h : z ∈ xs.take i ++ [y] ++ xs.drop (i + 1)) : z ∈ xs ∨ z = y := by
  rcases List.mem_append.mp h with h | h
  · rcases List.mem_append.mp h with h | h
    · exact .inl (List.mem_of_mem_take h)
    · exact .inr (List.mem_singleton.mp h)
  · exact .inl (List.mem_of_mem_drop h)
theorem len_put {xs : List D} {i : Nat} {y : D} (h : i < xs.length) : (xs.take i ++ [y] ++ xs.drop (i + 1)).length = xs.length := by
  simp only [List.length_append, List.length_take, List.length_drop, List.length_cons, List.length_nil]
  omega
theorem put_ok : ∀ (q : List Nat) (k a b : Nat) (d y part : D), q.length ≤ k → q.length ≤ 50 → nice a d → nice b part → atP d q = some y → ∃ d', m__law_put_in (k + 1) [.dat d, .dat (pD q), .dat part] = some (.dat d') ∧ nice (a + b) d'
  | [], k, a, b, d, y, part, _, _, hd, hb, _ => by
    refine ⟨part, ?_, nice_le hb (by omega)⟩
    show mDef 4 3 (b__law_put_in (m__law_put_in k)) _ = _
    refine v_out rfl (v_seqR (v_ifT ?_ rfl))
    simp [mDef, okP_iff, okP_iffF, okP_T, okP_F, startC, argC, argN, outR, mSeq, mIf, mT, mLt, mLe, mGt, mGe, mII, cT, mVar, mC, mLen, aCons, aNil, gLen, asInt, asBl, asDat, asStr, asTup, asLst, asTrk, mRet, retR, mRetV, mSet, setR, mIxL, mIxT, mSkip, mEqS, mNeS, eqS, mMul, mAdd, mSub, mDiv, mMod, mPow, mNeg, cMul, cDiv, cMod, cPow, mTup, mLst, dats, szOk, mCall, mAbs', gAbs, mChain, tAndM, tOrM, tNotM, mIfE, mAndV, mOrV, mNotV, mApp, mAug, gNm, gTp, gCons', gNil', mAsg, mAsgL, mFor, iR1, iR2, bnd62, mDrop, mCatS, mCatT, mCatL, mSlT, mSlL, oNone, oSome, mIsi, isiD, mIsN, mNotN, Tl.isNon, mIntOf, gIntB, mMax', mMin', gMax2, gMin2, mEqD, mNeD, mIn, mNi, inF, eqF, mSlS, mIxS, mRaise1, mRaise2, mDefX, outX, okX, callX, mSetX, mExprX, mRetX, mTry, endT, dropX, mExF, mExI, mRevL, mRepL, mStr, gStr, mZf, mRepS, uSeq, uIf, uSet, uSetI, uRet, uRetU, uSkip, callU, mDefU, startU, outU, mSetU, mList, mBand, mBor, mDixV, asDic, iZT, iEnT, mDix, mDixV, mRepT, mDsp, dCons, dNil, mDict, vCons, vNil, scD, dSet, dEnd, putD, mDm, gDm, mTupOf, iN, iV, iT, frzV, mSetTX, mCallE, mRaise0, mMulW, mInL, mCall0, mRepT2, mDgt, pD, startC, argC]
  | i :: q, k + 1, a, b, d, y, part, hk, h50, hd, hb, h => by
    cases d with
    | tup xs =>
      obtain ⟨x, hx, hq⟩ := Option.bind_eq_some_iff.mp (show (xs[i]?).bind (fun x => atP x q) = some y from h)
      have hl := len_tup hd
      have hi : i < xs.length := lt_of_get hx
      obtain ⟨a', rfl⟩ : ∃ a', a = a' + 1 := by
        cases a with
        | zero => exact hd.elim
        | succ a => exact ⟨a, rfl⟩
      have hm : x ∈ xs := List.mem_of_getElem? hx
      simp only [List.length_cons] at hk h50
      obtain ⟨d', e, hn⟩ := put_ok q k a' b x y part (by omega) (by omega) (hd.2 x hm) hb hq
      refine ⟨.tup (xs.take i ++ [d'] ++ xs.drop (i + 1)), ?_, ?_⟩
      · show mDef 4 3 (b__law_put_in (m__law_put_in (k + 1))) _ = _
        let r4 (c : C) : Rho := [.dat (.tup xs), .dat (pD (i :: q)), .dat part, c]
        have L : mLen (mVar 1) (r4 .un) = some (.dat (.int ((q.length + 1 : Nat) : Int))) := by
          simp only [r4, mLen, aCons, aNil, mVar, pD, List.getElem?_cons_succ, List.getElem?_cons_zero, Option.bind_some, Option.map_some, gLen, List.length_map, List.length_cons, show szOk (q.length + 1) = true from okP_t (by omega), if_true]
        have T : mT (mEqS (mLen (mVar 1)) (mC (.int 0))) (r4 .un) = some false := by
          simp only [mT, mEqS, L, mC, asDat, Option.bind_some, Option.map_some, eqS, asBl, okP_f (show ¬ (((q.length + 1 : Nat) : Int) = 0) by omega)]
        refine v_out rfl (v_seq (v_ifF T rfl) (v_seq (ρ' := r4 (.dat (.int (i : Int)))) ?_ (v_ret ?_)))
        · refine v_set ?_
          show mIxT (mVar 1) (mC (.int 0)) (r4 .un) = _
          simp only [r4, mIxT, mVar, mC, asInt, asTup_pD, List.getElem?_cons_succ, List.getElem?_cons_zero, Option.bind_some, List.map_cons, atI_0, Option.map_some]
        have A1 : mIxT (mVar 0) (mVar 3) (r4 (.dat (.int (i : Int)))) = some (.dat x) := by
          simp only [r4, mIxT, mVar, asInt, asTup_tup, List.getElem?_cons_succ, List.getElem?_cons_zero, Option.bind_some, at_nat xs i x hx, Option.map_some]
        have A2 : mSlT (mVar 1) (oSome (mC (.int 1))) oNone (r4 (.dat (.int (i : Int)))) = some (.dat (pD q)) := by
          have ct := cut_tail ((i :: q).map fun i : Nat => D.int (i : Int)) 1 (by simp)
          simp only [r4, mSlT, mVar, mC, oSome, oNone, asInt, asTup_pD, List.getElem?_cons_succ, List.getElem?_cons_zero, Option.bind_some, Option.map_some]
          rw [show ((1 : Int)) = ((1 : Nat) : Int) from rfl, ct]
          rfl
        have A3 : mCall (m__law_put_in (k + 1)) (aCons (mIxT (mVar 0) (mVar 3)) (aCons (mSlT (mVar 1) (oSome (mC (.int 1))) oNone) (aCons (mVar 2) aNil))) (r4 (.dat (.int (i : Int)))) = some (.dat d') := v_call (rs := [.dat x, .dat (pD q), .dat part]) (by
          simp only [aCons, aNil, A1, A2, Option.bind_some, Option.map_some]
          rfl) e
        have A4 : mTup (aCons (mCall (m__law_put_in (k + 1)) (aCons (mIxT (mVar 0) (mVar 3)) (aCons (mSlT (mVar 1) (oSome (mC (.int 1))) oNone) (aCons (mVar 2) aNil)))) aNil) (r4 (.dat (.int (i : Int)))) = some (.dat (.tup [d'])) := by
          unfold mTup
          rw [aCons]
          simp only [A3, aNil, Option.bind_some, Option.map_some, dats, List.length_cons, List.length_nil, show szOk (0 + 1) = true from okP_t (by decide), if_true]
        have A5 : mSlT (mVar 0) oNone (oSome (mVar 3)) (r4 (.dat (.int (i : Int)))) = some (.dat (.tup (xs.take i))) := by
          simp only [r4, mSlT, mVar, oSome, oNone, asInt, asTup_tup, List.getElem?_cons_succ, List.getElem?_cons_zero, Option.bind_some, Option.map_some, cut_head xs i (by omega)]
        have A6 : mSlT (mVar 0) (oSome (mAdd (mVar 3) (mC (.int 1)))) oNone (r4 (.dat (.int (i : Int)))) = some (.dat (.tup (xs.drop (i + 1)))) := by
          have ct := cut_tail xs (i + 1) (by omega)
          simp only [r4, mSlT, mAdd, mII, cT, mVar, mC, oSome, oNone, asInt, asTup_tup, List.getElem?_cons_succ, List.getElem?_cons_zero, Option.bind_some, Option.map_some, if_true]
          rw [show ((i : Int)) + 1 = ((i + 1 : Nat) : Int) from rfl, ct]
        have c1 := @List.length_take D i xs
        have c2 := @List.length_drop D (i + 1) xs
        simp only [mCatT, A5, A4, A6, asTup_tup, Option.bind_some, List.length_append, List.length_cons, List.length_nil, show szOk ((xs.take i).length + (0 + 1)) = true from okP_t (by omega), show szOk ((xs.take i).length + (0 + 1) + (xs.drop (i + 1)).length) = true from okP_t (by omega), if_true]
      · rw [show a' + 1 + b = (a' + b) + 1 by omega]
        refine nice_tup (by rw [len_put hi]; exact hl) fun z hz => ?_
        rcases mem_put hz with h | h
        · exact nice_add _ _ _ (hd.2 z h)
        · rw [h]; exact hn
    | non => cases h
    | bl _ => cases h
    | int _ => cases h
    | str _ => cases h
    | dic _ => cases h
theorem part_loop (c1 : C) : ∀ (q : List Nat) (d y : D) (c2 : C), atP d q = some y → ∃ c2', loopM (gNm 2) f__law_part_at_1 (q.map fun i : Nat => D.int (i : Int)) [.dat d, c1, c2] = some (.nx [.dat y, c1, c2'])
  | [], d, y, c2, h => by cases h; exact ⟨c2, rfl⟩
  | i :: q, d, y, c2, h => by
    cases d with
    | tup xs =>
      obtain ⟨x, hx, hq⟩ := Option.bind_eq_some_iff.mp (show (xs[i]?).bind (fun x => atP x q) = some y from h)
      obtain ⟨c2', ih⟩ := part_loop c1 q x y (.dat (.int i)) hq
      refine ⟨c2', ?_⟩
      rw [List.map_cons, loop_nx (ρ1 := [.dat (.tup xs), c1, .dat (.int i)]) (ρ2 := [.dat x, c1, .dat (.int i)]) rfl ?_, ih]
      unfold f__law_part_at_1
      refine v_set ?_
      simp only [mIxT, mVar, asInt, asTup_tup, List.getElem?_cons_succ, List.getElem?_cons_zero, Option.bind_some, at_nat xs i x hx, Option.map_some]
    | non => cases h
    | bl _ => cases h
    | int _ => cases h
    | str _ => cases h
    | dic _ => cases h
theorem part_ok (q : List Nat) (d y : D) (h : atP d q = some y) : m__law_part_at [.dat d, .dat (pD q)] = some (.dat y) := by
  obtain ⟨c2', e⟩ := part_loop (.dat (pD q)) q d y .un h
  refine v_out rfl ?_
  unfold b__law_part_at
  exact v_seq (v_for (ds := q.map fun i : Nat => D.int (i : Int)) rfl e) rfl

end Lw

namespace Lw
open PySem PySem.Spec PyProof.Rows L2 Evl Tl TL
/-! ### the spoilt paper -/
theorem okS_of (s : String) : PyData.strOk (Str.ofString s) = true := by
  refine okS_iff.mp ?_
  rw [Str.ofString_eq_toList]
  intro c hc
  simp only [List.mem_map] at hc
  obtain ⟨x, _, rfl⟩ := hc
  have v := x.valid
  have e : x.toNat = x.val.toNat := rfl
  rcases v with v | v
  · have : x.val.toNat < 0xD800 := v
    omega
  · have : x.val.toNat < 0x110000 := v.2
    omega
noncomputable def strD : D → Str
  | .int i => Str.ofString (toString i)
  | .str z => z
  | .bl b => if b then "True" else "False"
  | _ => ""
theorem strD_ok (x : D) (h : dueOk 0 x) : PyData.strOk (strD x) = true := by
  cases x with
  | int i => exact okS_of _
  | str z => exact h
  | bl b => cases b <;> decide +kernel
  | non => exact h.elim
  | tup _ => exact h.elim
  | dic _ => exact h.elim
noncomputable def someD (x : D) : List D := [.non, .bl true, .bl false, .str "none", .str "nine", .str "carry", .tup [], .tup [x], .int (-1), .int 0, .int 1, .str (strD x)]
theorem someD_nice (x : D) (h : dueOk 0 x) : ∀ y ∈ someD x, nice 1 y := by
  intro y hy
  have hs := strD_ok x h
  simp only [someD, List.mem_cons, List.not_mem_nil, or_false] at hy
  rcases hy with rfl | rfl | rfl | rfl | rfl | rfl | rfl | rfl | rfl | rfl | rfl | rfl <;> first
    | trivial
    | exact hs
    | (show PyData.strOk _ = true; decide +kernel)
    | exact ⟨by decide, fun z hz => by simp at hz⟩
    | exact ⟨by simp, fun z hz => by rw [List.mem_singleton] at hz; subst hz; exact due_nice 0 _ h⟩
theorem strB_ok (x : D) (h : dueOk 0 x) (ρ : Rho) (hρ : mVar 0 ρ = some (.dat x)) : mStrB (mVar 0) ρ = some (.dat (.str (strD x))) := by
  unfold mStrB
  simp only [aCons, hρ, aNil, Option.bind_some, Option.map_some]
  cases x with
  | int i =>
    have hl : i.natAbs.log2 < 1000 := h
    simp only [gStrB, show okP (i.natAbs.log2 < 1920) = true from okP_t (by omega), if_true, strD]
  | str z => rfl
  | bl b => rfl
  | non => exact h.elim
  | tup _ => exact h.elim
  | dic _ => exact h.elim
theorem changed_ok (x : D) (h : dueOk 0 x) (way num : Int) (hw : 0 ≤ way ∧ way < 6) (hn : 0 ≤ num ∧ num < 1000) : ∃ y, m__law_changed [.dat x, .dat (.int way), .dat (.int num)] = some (.dat y) ∧ nice 1 y := by
  have S1 : mSet 3 (mLst (aCons (mC .non) (aCons (mC (.bl true)) (aCons (mC (.bl false)) (aCons (mC (.str "none")) (aCons (mC (.str "nine")) (aCons (mC (.str "carry")) (aCons (mTup aNil) (aCons (mTup (aCons (mVar 0) aNil)) (aCons (mNeg (mC (.int 1))) (aCons (mC (.int 0)) (aCons (mC (.int 1)) (aCons (mStrB (mVar 0)) aNil))))))))))))) [.dat x, .dat (.int way), .dat (.int num), .un] = some (.nx [.dat x, .dat (.int way), .dat (.int num), .own (someD x)]) := by
    refine v_setN (d := someD x) ?_
    have e := strB_ok x h [.dat x, .dat (.int way), .dat (.int num), .un] rfl
    simp [mLst, aCons, aNil, mC, mTup, mNeg, e, mVar, dats, szOk, okP_iff, someD, asInt]
  have dflt : ∃ y, (atI (someD x) (num % 12)) = some y ∧ nice 1 y := by
    obtain ⟨y, hy⟩ := atI_in (ns := someD x) (i := num % 12) (Int.emod_nonneg _ (by decide)) (Int.emod_lt_of_pos _ (by decide))
    obtain ⟨j, _, h5, _⟩ := atI_get hy
    exact ⟨y, hy, someD_nice x h y (List.mem_of_getElem? h5)⟩
  obtain ⟨y, hy, ny⟩ := dflt
  have R : mRet (mIxL (mVar 3) (mMod (mVar 2) (mC (.int 12)))) [.dat x, .dat (.int way), .dat (.int num), .own (someD x)] = some (.ret (.dat y)) := by
    refine v_ret ?_
    simp only [mIxL, mMod, mII, mVar, mC, asInt, asLst, List.getElem?_cons_succ, List.getElem?_cons_zero, Option.bind_some, show cMod num 12 = true from okP_t (by decide), if_true, hy, Option.map_some]
  have way4 : way = 0 ∨ way = 1 ∨ way = 2 ∨ way = 3 ∨ 3 < way := by omega
  have TG : mT (mGt (mVar 1) (mC (.int 3))) [.dat x, .dat (.int way), .dat (.int num), .own (someD x)] = some (okP (3 < way)) := by
    simp [mDef, okP_iff, okP_iffF, okP_T, okP_F, startC, argC, argN, outR, mSeq, mIf, mT, mLt, mLe, mGt, mGe, mII, cT, mVar, mC, mLen, aCons, aNil, gLen, asInt, asBl, asDat, asStr, asTup, asLst, asTrk, mRet, retR, mRetV, mSet, setR, mIxL, mIxT, mSkip, mEqS, mNeS, eqS, mMul, mAdd, mSub, mDiv, mMod, mPow, mNeg, cMul, cDiv, cMod, cPow, mTup, mLst, dats, szOk, mCall, mAbs', gAbs, mChain, tAndM, tOrM, tNotM, mIfE, mAndV, mOrV, mNotV, mApp, mAug, gNm, gTp, gCons', gNil', mAsg, mAsgL, mFor, iR1, iR2, bnd62, mDrop, mCatS, mCatT, mCatL, mSlT, mSlL, oNone, oSome, mIsi, isiD, mIsN, mNotN, Tl.isNon, mIntOf, gIntB, mMax', mMin', gMax2, gMin2, mEqD, mNeD, mIn, mNi, inF, eqF, mSlS, mIxS, mRaise1, mRaise2, mDefX, outX, okX, callX, mSetX, mExprX, mRetX, mTry, endT, dropX, mExF, mExI, mRevL, mRepL, mStr, gStr, mZf, mRepS, uSeq, uIf, uSet, uSetI, uRet, uRetU, uSkip, callU, mDefU, startU, outU, mSetU, mList, mBand, mBor, mDixV, asDic, iZT, iEnT, mDix, mDixV, mRepT, mDsp, dCons, dNil, mDict, vCons, vNil, scD, dSet, dEnd, putD, mDm, gDm, mTupOf, iN, iV, iT, frzV, mSetTX, mCallE, mRaise0, mMulW, mInL, mCall0, mRepT2, mDgt]
  by_cases q : 3 < way
  · rw [okP_t q] at TG
    refine ⟨y, v_out rfl (v_seq S1 (v_seqR (v_ifT ?_ R))), ny⟩
    unfold tOrM
    rw [TG]
    rfl
  · rw [okP_f q] at TG
    cases x with
    | int i =>
      have hl : i.natAbs.log2 < 1000 := h
      have T1 : tOrM (mT (mGt (mVar 1) (mC (.int 3)))) (tNotM (mT (mIsi "int" (mVar 0)))) [.dat (.int i), .dat (.int way), .dat (.int num), .own (someD (.int i))] = some false := by
        unfold tOrM
        rw [TG]
        rfl
      have fin : ∃ v : Int, mRet (mAdd (mVar 0) (mIxL (mLst (aCons (mC (.int 1)) (aCons (mNeg (mC (.int 1))) (aCons (mAdd (mC (.int 1)) (mVar 2)) (aCons (mC (.int 10)) aNil))))) (mVar 1))) [.dat (.int i), .dat (.int way), .dat (.int num), .own (someD (.int i))] = some (.ret (.dat (.int v))) := by
        rcases way4 with e | e | e | e | e
        · exact ⟨i + 1, by subst e; simp [mDef, okP_iff, okP_iffF, okP_T, okP_F, startC, argC, argN, outR, mSeq, mIf, mT, mLt, mLe, mGt, mGe, mII, cT, mVar, mC, mLen, aCons, aNil, gLen, asInt, asBl, asDat, asStr, asTup, asLst, asTrk, mRet, retR, mRetV, mSet, setR, mIxL, mIxT, mSkip, mEqS, mNeS, eqS, mMul, mAdd, mSub, mDiv, mMod, mPow, mNeg, cMul, cDiv, cMod, cPow, mTup, mLst, dats, szOk, mCall, mAbs', gAbs, mChain, tAndM, tOrM, tNotM, mIfE, mAndV, mOrV, mNotV, mApp, mAug, gNm, gTp, gCons', gNil', mAsg, mAsgL, mFor, iR1, iR2, bnd62, mDrop, mCatS, mCatT, mCatL, mSlT, mSlL, oNone, oSome, mIsi, isiD, mIsN, mNotN, Tl.isNon, mIntOf, gIntB, mMax', mMin', gMax2, gMin2, mEqD, mNeD, mIn, mNi, inF, eqF, mSlS, mIxS, mRaise1, mRaise2, mDefX, outX, okX, callX, mSetX, mExprX, mRetX, mTry, endT, dropX, mExF, mExI, mRevL, mRepL, mStr, gStr, mZf, mRepS, uSeq, uIf, uSet, uSetI, uRet, uRetU, uSkip, callU, mDefU, startU, outU, mSetU, mList, mBand, mBor, mDixV, asDic, iZT, iEnT, mDix, mDixV, mRepT, mDsp, dCons, dNil, mDict, vCons, vNil, scD, dSet, dEnd, putD, mDm, gDm, mTupOf, iN, iV, iT, frzV, mSetTX, mCallE, mRaise0, mMulW, mInL, mCall0, mRepT2, mDgt, atI_0]⟩
        · exact ⟨i + -1, by subst e; simp [mDef, okP_iff, okP_iffF, okP_T, okP_F, startC, argC, argN, outR, mSeq, mIf, mT, mLt, mLe, mGt, mGe, mII, cT, mVar, mC, mLen, aCons, aNil, gLen, asInt, asBl, asDat, asStr, asTup, asLst, asTrk, mRet, retR, mRetV, mSet, setR, mIxL, mIxT, mSkip, mEqS, mNeS, eqS, mMul, mAdd, mSub, mDiv, mMod, mPow, mNeg, cMul, cDiv, cMod, cPow, mTup, mLst, dats, szOk, mCall, mAbs', gAbs, mChain, tAndM, tOrM, tNotM, mIfE, mAndV, mOrV, mNotV, mApp, mAug, gNm, gTp, gCons', gNil', mAsg, mAsgL, mFor, iR1, iR2, bnd62, mDrop, mCatS, mCatT, mCatL, mSlT, mSlL, oNone, oSome, mIsi, isiD, mIsN, mNotN, Tl.isNon, mIntOf, gIntB, mMax', mMin', gMax2, gMin2, mEqD, mNeD, mIn, mNi, inF, eqF, mSlS, mIxS, mRaise1, mRaise2, mDefX, outX, okX, callX, mSetX, mExprX, mRetX, mTry, endT, dropX, mExF, mExI, mRevL, mRepL, mStr, gStr, mZf, mRepS, uSeq, uIf, uSet, uSetI, uRet, uRetU, uSkip, callU, mDefU, startU, outU, mSetU, mList, mBand, mBor, mDixV, asDic, iZT, iEnT, mDix, mDixV, mRepT, mDsp, dCons, dNil, mDict, vCons, vNil, scD, dSet, dEnd, putD, mDm, gDm, mTupOf, iN, iV, iT, frzV, mSetTX, mCallE, mRaise0, mMulW, mInL, mCall0, mRepT2, mDgt, atI_1]⟩
        · exact ⟨i + (1 + num), by subst e; simp [mDef, okP_iff, okP_iffF, okP_T, okP_F, startC, argC, argN, outR, mSeq, mIf, mT, mLt, mLe, mGt, mGe, mII, cT, mVar, mC, mLen, aCons, aNil, gLen, asInt, asBl, asDat, asStr, asTup, asLst, asTrk, mRet, retR, mRetV, mSet, setR, mIxL, mIxT, mSkip, mEqS, mNeS, eqS, mMul, mAdd, mSub, mDiv, mMod, mPow, mNeg, cMul, cDiv, cMod, cPow, mTup, mLst, dats, szOk, mCall, mAbs', gAbs, mChain, tAndM, tOrM, tNotM, mIfE, mAndV, mOrV, mNotV, mApp, mAug, gNm, gTp, gCons', gNil', mAsg, mAsgL, mFor, iR1, iR2, bnd62, mDrop, mCatS, mCatT, mCatL, mSlT, mSlL, oNone, oSome, mIsi, isiD, mIsN, mNotN, Tl.isNon, mIntOf, gIntB, mMax', mMin', gMax2, gMin2, mEqD, mNeD, mIn, mNi, inF, eqF, mSlS, mIxS, mRaise1, mRaise2, mDefX, outX, okX, callX, mSetX, mExprX, mRetX, mTry, endT, dropX, mExF, mExI, mRevL, mRepL, mStr, gStr, mZf, mRepS, uSeq, uIf, uSet, uSetI, uRet, uRetU, uSkip, callU, mDefU, startU, outU, mSetU, mList, mBand, mBor, mDixV, asDic, iZT, iEnT, mDix, mDixV, mRepT, mDsp, dCons, dNil, mDict, vCons, vNil, scD, dSet, dEnd, putD, mDm, gDm, mTupOf, iN, iV, iT, frzV, mSetTX, mCallE, mRaise0, mMulW, mInL, mCall0, mRepT2, mDgt, atI_2]⟩
        · exact ⟨i + 10, by subst e; simp [mDef, okP_iff, okP_iffF, okP_T, okP_F, startC, argC, argN, outR, mSeq, mIf, mT, mLt, mLe, mGt, mGe, mII, cT, mVar, mC, mLen, aCons, aNil, gLen, asInt, asBl, asDat, asStr, asTup, asLst, asTrk, mRet, retR, mRetV, mSet, setR, mIxL, mIxT, mSkip, mEqS, mNeS, eqS, mMul, mAdd, mSub, mDiv, mMod, mPow, mNeg, cMul, cDiv, cMod, cPow, mTup, mLst, dats, szOk, mCall, mAbs', gAbs, mChain, tAndM, tOrM, tNotM, mIfE, mAndV, mOrV, mNotV, mApp, mAug, gNm, gTp, gCons', gNil', mAsg, mAsgL, mFor, iR1, iR2, bnd62, mDrop, mCatS, mCatT, mCatL, mSlT, mSlL, oNone, oSome, mIsi, isiD, mIsN, mNotN, Tl.isNon, mIntOf, gIntB, mMax', mMin', gMax2, gMin2, mEqD, mNeD, mIn, mNi, inF, eqF, mSlS, mIxS, mRaise1, mRaise2, mDefX, outX, okX, callX, mSetX, mExprX, mRetX, mTry, endT, dropX, mExF, mExI, mRevL, mRepL, mStr, gStr, mZf, mRepS, uSeq, uIf, uSet, uSetI, uRet, uRetU, uSkip, callU, mDefU, startU, outU, mSetU, mList, mBand, mBor, mDixV, asDic, iZT, iEnT, mDix, mDixV, mRepT, mDsp, dCons, dNil, mDict, vCons, vNil, scD, dSet, dEnd, putD, mDm, gDm, mTupOf, iN, iV, iT, frzV, mSetTX, mCallE, mRaise0, mMulW, mInL, mCall0, mRepT2, mDgt, atI_3]⟩
        · exact absurd e q
      obtain ⟨v, hv⟩ := fin
      exact ⟨.int v, v_out rfl (v_seq S1 (v_seq (v_ifF T1 rfl) (v_seq (v_ifF rfl rfl) hv))), trivial⟩
    | bl b =>
      have T1 : tOrM (mT (mGt (mVar 1) (mC (.int 3)))) (tNotM (mT (mIsi "int" (mVar 0)))) [.dat (.bl b), .dat (.int way), .dat (.int num), .own (someD (.bl b))] = some false := by
        unfold tOrM
        rw [TG]
        rfl
      have fin : ∃ v : D, nice 1 v ∧ mRet (mIxL (mLst (aCons (mNotV (mVar 0)) (aCons (mIntOf (mVar 0)) (aCons (mNotV (mVar 0)) (aCons (mIntOf (mNotV (mVar 0))) aNil))))) (mVar 1)) [.dat (.bl b), .dat (.int way), .dat (.int num), .own (someD (.bl b))] = some (.ret (.dat v)) := by
        rcases way4 with e | e | e | e | e
        · exact ⟨.bl (!b), trivial, by subst e; cases b <;> simp [mDef, okP_iff, okP_iffF, okP_T, okP_F, startC, argC, argN, outR, mSeq, mIf, mT, mLt, mLe, mGt, mGe, mII, cT, mVar, mC, mLen, aCons, aNil, gLen, asInt, asBl, asDat, asStr, asTup, asLst, asTrk, mRet, retR, mRetV, mSet, setR, mIxL, mIxT, mSkip, mEqS, mNeS, eqS, mMul, mAdd, mSub, mDiv, mMod, mPow, mNeg, cMul, cDiv, cMod, cPow, mTup, mLst, dats, szOk, mCall, mAbs', gAbs, mChain, tAndM, tOrM, tNotM, mIfE, mAndV, mOrV, mNotV, mApp, mAug, gNm, gTp, gCons', gNil', mAsg, mAsgL, mFor, iR1, iR2, bnd62, mDrop, mCatS, mCatT, mCatL, mSlT, mSlL, oNone, oSome, mIsi, isiD, mIsN, mNotN, Tl.isNon, mIntOf, gIntB, mMax', mMin', gMax2, gMin2, mEqD, mNeD, mIn, mNi, inF, eqF, mSlS, mIxS, mRaise1, mRaise2, mDefX, outX, okX, callX, mSetX, mExprX, mRetX, mTry, endT, dropX, mExF, mExI, mRevL, mRepL, mStr, gStr, mZf, mRepS, uSeq, uIf, uSet, uSetI, uRet, uRetU, uSkip, callU, mDefU, startU, outU, mSetU, mList, mBand, mBor, mDixV, asDic, iZT, iEnT, mDix, mDixV, mRepT, mDsp, dCons, dNil, mDict, vCons, vNil, scD, dSet, dEnd, putD, mDm, gDm, mTupOf, iN, iV, iT, frzV, mSetTX, mCallE, mRaise0, mMulW, mInL, mCall0, mRepT2, mDgt, atI_0]⟩
        · exact ⟨.int (if b then 1 else 0), trivial, by subst e; cases b <;> simp [mDef, okP_iff, okP_iffF, okP_T, okP_F, startC, argC, argN, outR, mSeq, mIf, mT, mLt, mLe, mGt, mGe, mII, cT, mVar, mC, mLen, aCons, aNil, gLen, asInt, asBl, asDat, asStr, asTup, asLst, asTrk, mRet, retR, mRetV, mSet, setR, mIxL, mIxT, mSkip, mEqS, mNeS, eqS, mMul, mAdd, mSub, mDiv, mMod, mPow, mNeg, cMul, cDiv, cMod, cPow, mTup, mLst, dats, szOk, mCall, mAbs', gAbs, mChain, tAndM, tOrM, tNotM, mIfE, mAndV, mOrV, mNotV, mApp, mAug, gNm, gTp, gCons', gNil', mAsg, mAsgL, mFor, iR1, iR2, bnd62, mDrop, mCatS, mCatT, mCatL, mSlT, mSlL, oNone, oSome, mIsi, isiD, mIsN, mNotN, Tl.isNon, mIntOf, gIntB, mMax', mMin', gMax2, gMin2, mEqD, mNeD, mIn, mNi, inF, eqF, mSlS, mIxS, mRaise1, mRaise2, mDefX, outX, okX, callX, mSetX, mExprX, mRetX, mTry, endT, dropX, mExF, mExI, mRevL, mRepL, mStr, gStr, mZf, mRepS, uSeq, uIf, uSet, uSetI, uRet, uRetU, uSkip, callU, mDefU, startU, outU, mSetU, mList, mBand, mBor, mDixV, asDic, iZT, iEnT, mDix, mDixV, mRepT, mDsp, dCons, dNil, mDict, vCons, vNil, scD, dSet, dEnd, putD, mDm, gDm, mTupOf, iN, iV, iT, frzV, mSetTX, mCallE, mRaise0, mMulW, mInL, mCall0, mRepT2, mDgt, atI_1]⟩
        · exact ⟨.bl (!b), trivial, by subst e; cases b <;> simp [mDef, okP_iff, okP_iffF, okP_T, okP_F, startC, argC, argN, outR, mSeq, mIf, mT, mLt, mLe, mGt, mGe, mII, cT, mVar, mC, mLen, aCons, aNil, gLen, asInt, asBl, asDat, asStr, asTup, asLst, asTrk, mRet, retR, mRetV, mSet, setR, mIxL, mIxT, mSkip, mEqS, mNeS, eqS, mMul, mAdd, mSub, mDiv, mMod, mPow, mNeg, cMul, cDiv, cMod, cPow, mTup, mLst, dats, szOk, mCall, mAbs', gAbs, mChain, tAndM, tOrM, tNotM, mIfE, mAndV, mOrV, mNotV, mApp, mAug, gNm, gTp, gCons', gNil', mAsg, mAsgL, mFor, iR1, iR2, bnd62, mDrop, mCatS, mCatT, mCatL, mSlT, mSlL, oNone, oSome, mIsi, isiD, mIsN, mNotN, Tl.isNon, mIntOf, gIntB, mMax', mMin', gMax2, gMin2, mEqD, mNeD, mIn, mNi, inF, eqF, mSlS, mIxS, mRaise1, mRaise2, mDefX, outX, okX, callX, mSetX, mExprX, mRetX, mTry, endT, dropX, mExF, mExI, mRevL, mRepL, mStr, gStr, mZf, mRepS, uSeq, uIf, uSet, uSetI, uRet, uRetU, uSkip, callU, mDefU, startU, outU, mSetU, mList, mBand, mBor, mDixV, asDic, iZT, iEnT, mDix, mDixV, mRepT, mDsp, dCons, dNil, mDict, vCons, vNil, scD, dSet, dEnd, putD, mDm, gDm, mTupOf, iN, iV, iT, frzV, mSetTX, mCallE, mRaise0, mMulW, mInL, mCall0, mRepT2, mDgt, atI_2]⟩
        · exact ⟨.int (if !b then 1 else 0), trivial, by subst e; cases b <;> simp [mDef, okP_iff, okP_iffF, okP_T, okP_F, startC, argC, argN, outR, mSeq, mIf, mT, mLt, mLe, mGt, mGe, mII, cT, mVar, mC, mLen, aCons, aNil, gLen, asInt, asBl, asDat, asStr, asTup, asLst, asTrk, mRet, retR, mRetV, mSet, setR, mIxL, mIxT, mSkip, mEqS, mNeS, eqS, mMul, mAdd, mSub, mDiv, mMod, mPow, mNeg, cMul, cDiv, cMod, cPow, mTup, mLst, dats, szOk, mCall, mAbs', gAbs, mChain, tAndM, tOrM, tNotM, mIfE, mAndV, mOrV, mNotV, mApp, mAug, gNm, gTp, gCons', gNil', mAsg, mAsgL, mFor, iR1, iR2, bnd62, mDrop, mCatS, mCatT, mCatL, mSlT, mSlL, oNone, oSome, mIsi, isiD, mIsN, mNotN, Tl.isNon, mIntOf, gIntB, mMax', mMin', gMax2, gMin2, mEqD, mNeD, mIn, mNi, inF, eqF, mSlS, mIxS, mRaise1, mRaise2, mDefX, outX, okX, callX, mSetX, mExprX, mRetX, mTry, endT, dropX, mExF, mExI, mRevL, mRepL, mStr, gStr, mZf, mRepS, uSeq, uIf, uSet, uSetI, uRet, uRetU, uSkip, callU, mDefU, startU, outU, mSetU, mList, mBand, mBor, mDixV, asDic, iZT, iEnT, mDix, mDixV, mRepT, mDsp, dCons, dNil, mDict, vCons, vNil, scD, dSet, dEnd, putD, mDm, gDm, mTupOf, iN, iV, iT, frzV, mSetTX, mCallE, mRaise0, mMulW, mInL, mCall0, mRepT2, mDgt, atI_3]⟩
        · exact absurd e q
      obtain ⟨v, nv, hv⟩ := fin
      exact ⟨v, v_out rfl (v_seq S1 (v_seq (v_ifF T1 rfl) (v_seqR (v_ifT rfl hv)))), nv⟩
    | str z =>
      refine ⟨y, v_out rfl (v_seq S1 (v_seqR (v_ifT ?_ R))), ny⟩
      unfold tOrM
      rw [TG]
      rfl
    | non => exact h.elim
    | tup _ => exact h.elim
    | dic _ => exact h.elim

end Lw

namespace Lw
open PySem PySem.Spec PyProof.Rows L2 Evl Tl TL
abbrev rs (xs : List D) (way a t num : Int) (ln : D) (c6 c7 c8 c9 c10 : C) : Rho := [.dat (.tup xs), .dat (.int way), .dat (.int a), .dat (.int t), .dat (.int num), .dat ln, c6, c7, c8, c9, c10]
theorem atI_mod {α : Type} (ns : List α) (a : Int) (h : 0 < ns.length) : ∃ (j : Nat) (x : α), a % (ns.length : Int) = (j : Int) ∧ j < ns.length ∧ ns[j]? = some x ∧ atI ns (a % (ns.length : Int)) = some x := by
  have h0 := Int.emod_nonneg a (show (ns.length : Int) ≠ 0 by omega)
  have h1 := Int.emod_lt_of_pos a (show (0 : Int) < ns.length by omega)
  obtain ⟨j, hj⟩ : ∃ j : Nat, a % (ns.length : Int) = (j : Int) := ⟨(a % (ns.length : Int)).toNat, by omega⟩
  have hl : j < ns.length := by omega
  refine ⟨j, ns[j], hj, hl, List.getElem?_eq_getElem hl, ?_⟩
  rw [hj]
  exact atI_nat (List.getElem?_eq_getElem hl)
theorem lenL_ok {ρ : Rho} {i : Nat} {xs : List D} (h : ρ[i]? = some (.own xs)) (hl : xs.length ≤ 50000) : mLen (mVar i) ρ = some (.dat (.int xs.length)) := by
  simp only [mLen, aCons, aNil, mVar, h, Option.bind_some, Option.map_some, gLen]
theorem lenT_ok {ρ : Rho} {i : Nat} {xs : List D} (h : ρ[i]? = some (.dat (.tup xs))) (hl : xs.length ≤ 50000) : mLen (mVar i) ρ = some (.dat (.int xs.length)) := by
  simp only [mLen, aCons, aNil, mVar, h, Option.bind_some, Option.map_some, gLen, show szOk xs.length = true from okP_t (by omega), if_true]
theorem md_ok {f g : ME} {ρ : Rho} {a b : Int} (hf : f ρ = some (.dat (.int a))) (hg : g ρ = some (.dat (.int b))) (hb : 0 < b) : mMod f g ρ = some (.dat (.int (a % b))) := by
  simp only [mMod, mII, hf, hg, asInt, Option.bind_some, show cMod a b = true from okP_t hb, if_true]
theorem cat_ok {f g : ME} {ρ : Rho} {xs ys : List D} (hf : f ρ = some (.dat (.tup xs))) (hg : g ρ = some (.dat (.tup ys))) (hl : xs.length + ys.length ≤ 50000) : mCatT f g ρ = some (.dat (.tup (xs ++ ys))) := by
  simp only [mCatT, hf, hg, asTup_tup, Option.bind_some, show szOk (xs.length + ys.length) = true from okP_t (by omega), if_true]
theorem hd_ok {f g : ME} {ρ : Rho} {xs : List D} {i : Nat} (hf : f ρ = some (.dat (.tup xs))) (hg : g ρ = some (.dat (.int (i : Int)))) (h : i ≤ xs.length) : mSlT f oNone (oSome g) ρ = some (.dat (.tup (xs.take i))) := by
  simp only [mSlT, hf, hg, oSome, oNone, asInt, asTup_tup, Option.bind_some, Option.map_some, cut_head xs i h]
theorem tl_ok {f g : ME} {ρ : Rho} {xs : List D} {i : Nat} (hf : f ρ = some (.dat (.tup xs))) (hg : g ρ = some (.dat (.int (i : Int)))) (h : i ≤ xs.length) : mSlT f (oSome g) oNone ρ = some (.dat (.tup (xs.drop i))) := by
  simp only [mSlT, hf, hg, oSome, oNone, asInt, asTup_tup, Option.bind_some, Option.map_some, cut_tail xs i h]
theorem ix_ok {f g : ME} {ρ : Rho} {xs : List D} {i : Int} {x : D} (hf : f ρ = some (.dat (.tup xs))) (hg : g ρ = some (.dat (.int i))) (h : atI xs i = some x) : mIxT f g ρ = some (.dat x) := by
  simp only [mIxT, hf, hg, asInt, asTup_tup, Option.bind_some, h, Option.map_some]
theorem one_ok {f : ME} {ρ : Rho} {x : D} (hf : f ρ = some (.dat x)) : mTup (aCons f aNil) ρ = some (.dat (.tup [x])) := by
  simp only [mTup, aCons, aNil, hf, Option.bind_some, Option.map_some, dats, List.length_cons, List.length_nil, show szOk (0 + 1) = true from okP_t (by decide), if_true]
theorem inc_ok {f : ME} {ρ : Rho} {i : Nat} (hf : f ρ = some (.dat (.int (i : Int)))) : mAdd f (mC (.int 1)) ρ = some (.dat (.int ((i + 1 : Nat) : Int))) := by
  simp only [mAdd, mII, hf, mC, asInt, Option.bind_some, cT, if_true]
  rfl
theorem rep3_ok {f g : ME} {ρ : Rho} {xs : List D} {k : Int} (hf : f ρ = some (.dat (.tup xs))) (hg : g ρ = some (.dat (.int k))) (h1 : xs.length ≤ 1000) (h2 : -1000 ≤ k ∧ k ≤ 1000) : mRepT3 f g ρ = some (.dat (.tup (List.replicate k.toNat xs).flatten)) := by
  simp only [mRepT3, hf, hg, asTup_tup, asInt, Option.bind_some, show okP (xs.length ≤ 1000 ∧ -1000 ≤ k ∧ k ≤ 1000) = true from okP_t ⟨h1, h2⟩, if_true]
theorem nice_sub {k : Nat} {xs ys : List D} (h : nice (k + 1) (.tup xs)) (hl : ys.length ≤ 1000) (hs : ∀ y ∈ ys, y ∈ xs) : nice (k + 1) (.tup ys) := nice_tup hl fun y hy => h.2 y (hs y hy)
section
variable (xs : List D) (way a t num : Int) (ln : D) (hd : dueOk 5 (.tup xs)) (hw : 0 ≤ way ∧ way < 12) (hn : 0 ≤ num ∧ num < 1000)
theorem sp_cells (hd : dueOk 5 (.tup xs)) (hn : 0 ≤ num ∧ num < 1000) (h0 : 0 < lD (.tup xs)) (hl : lD (.tup xs) ≤ 2000) (hw : 0 ≤ way ∧ way < 6) : ∃ p, mSeq (mSet 8 (mCall (m__law_paper_cells 6) (aCons (mVar 0) (aCons (mTup aNil) aNil))))
    (mSeq (mSet 9 (mIxL (mVar 8) (mMod (mVar 2) (mLen (mVar 8)))))
    (mRet (mCall (m__law_put_in 6) (aCons (mVar 0) (aCons (mVar 9) (aCons (mCall m__law_changed (aCons (mCall m__law_part_at (aCons (mVar 0) (aCons (mVar 9) aNil))) (aCons (mVar 1) (aCons (mVar 4) aNil)))) aNil)))))) (rs xs way a t num ln .un .un .un .un .un) = some (.ret (.dat p)) ∧ nice 20 p := by
  obtain ⟨ps, e, l, q⟩ := cells_ok 5 (.tup xs) hd [] (by decide) hl
  have hlen : (ps.map fun q => pD ([] ++ q)).length = ps.length := List.length_map _
  obtain ⟨j, x, hj, hjl, hx, hat⟩ := atI_mod (ps.map fun q => pD ([] ++ q)) a (by rw [hlen, l]; exact h0)
  rw [List.getElem?_map] at hx
  obtain ⟨pq, hpq, hx⟩ := Option.map_eq_some_iff.mp hx
  rw [List.nil_append] at hx
  obtain ⟨q1, y, q2, q3⟩ := q pq (List.mem_of_getElem? hpq)
  obtain ⟨z, ez, nz⟩ := changed_ok y q3 way num hw hn
  obtain ⟨p, ep, np⟩ := put_ok pq 5 5 1 (.tup xs) y z q1 (by omega) (due_nice 5 _ hd) nz q2
  have epa := part_ok pq (.tup xs) y q2
  refine ⟨p, ?_, nice_le np (by decide)⟩
  generalize (ps.map fun q => pD ([] ++ q)) = L at *
  have hL : L.length ≤ 50000 := by rw [hlen, l]; omega
  refine v_seq (ρ' := rs xs way a t num ln .un .un (.own L) .un .un) (v_setN (v_call (rs := [.dat (.tup xs), .dat (pD [])]) ?_ e)) ?_
  · simp [aCons, aNil, mVar, mTup, dats, szOk, okP_iff, pD]
  subst hx
  refine v_seq (ρ' := rs xs way a t num ln .un .un (.own L) (.dat (pD pq)) .un) (v_set ?_) ?_
  · have m := md_ok (f := mVar 2) (g := mLen (mVar 8)) (ρ := rs xs way a t num ln .un .un (.own L) .un .un) rfl (lenL_ok rfl hL) (by omega)
    simp only [mIxL, m, mVar, asInt, asLst, List.getElem?_cons_succ, List.getElem?_cons_zero, Option.bind_some, hat, Option.map_some]
  refine v_ret ?_
  have A1 : mCall m__law_part_at (aCons (mVar 0) (aCons (mVar 9) aNil)) (rs xs way a t num ln .un .un (.own L) (.dat (pD pq)) .un) = some (.dat y) := v_call (rs := [.dat (.tup xs), .dat (pD pq)]) rfl epa
  have A2 : mCall m__law_changed (aCons (mCall m__law_part_at (aCons (mVar 0) (aCons (mVar 9) aNil))) (aCons (mVar 1) (aCons (mVar 4) aNil))) (rs xs way a t num ln .un .un (.own L) (.dat (pD pq)) .un) = some (.dat z) := v_call (rs := [.dat y, .dat (.int way), .dat (.int num)]) (by
    rw [aCons]
    simp only [A1, aCons, aNil, mVar, List.getElem?_cons_succ, List.getElem?_cons_zero, Option.bind_some, Option.map_some]) ez
  refine v_call (rs := [.dat (.tup xs), .dat (pD pq), .dat z]) ?_ ep
  simp only [aCons] at A2 ⊢
  simp only [A2, aNil, mVar, List.getElem?_cons_succ, List.getElem?_cons_zero, Option.bind_some, Option.map_some]
theorem sp_tuples (hd : dueOk 5 (.tup xs)) (h0 : 0 < tD (.tup xs)) (hl : tD (.tup xs) ≤ 2000) (hw : 6 ≤ way ∧ way ≤ 7) : ∃ p, mSeq (mSet 8 (mCall (m__law_paper_tuples 6) (aCons (mVar 0) (aCons (mTup aNil) aNil))))
    (mSeq (mSet 9 (mIxL (mVar 8) (mMod (mVar 3) (mLen (mVar 8)))))
    (mSeq (mSet 10 (mCall m__law_part_at (aCons (mVar 0) (aCons (mVar 9) aNil))))
    (mSeq (mSet 2 (mMod (mVar 2) (mLen (mVar 10))))
    (mRet (mCall (m__law_put_in 6) (aCons (mVar 0) (aCons (mVar 9) (aCons (mCatT (mCatT (mSlT (mVar 10) oNone (oSome (mVar 2))) (mRepT3 (mTup (aCons (mIxT (mVar 10) (mVar 2)) aNil)) (mSub (mMul (mC (.int 2)) (mVar 1)) (mC (.int 12))))) (mSlT (mVar 10) (oSome (mAdd (mVar 2) (mC (.int 1)))) oNone)) aNil)))))))) (rs xs way a t num ln .un .un .un .un .un) = some (.ret (.dat p)) ∧ nice 20 p := by
  obtain ⟨ps, e, l, q⟩ := tuples_ok 5 (.tup xs) hd [] (by decide) hl
  have hlen : (ps.map fun q => pD ([] ++ q)).length = ps.length := List.length_map _
  obtain ⟨j, x, hj, hjl, hx, hat⟩ := atI_mod (ps.map fun q => pD ([] ++ q)) t (by rw [hlen, l]; exact h0)
  rw [List.getElem?_map] at hx
  obtain ⟨pq, hpq, hx⟩ := Option.map_eq_some_iff.mp hx
  rw [List.nil_append] at hx
  obtain ⟨q1, ys, q2, q3, q4⟩ := q pq (List.mem_of_getElem? hpq)
  have hyl : ys.length ≤ 100 := q4.1
  obtain ⟨i, u, hi, hil, hu, hau⟩ := atI_mod ys a (List.length_pos_iff.mpr q3)
  have epa := part_ok pq (.tup xs) (.tup ys) q2
  have nys := due_nice 5 _ q4
  have nl : (List.replicate (2 * way - 12).toNat [u]).flatten.length ≤ 2 := by
    have : way = 6 ∨ way = 7 := by omega
    rcases this with h | h <;> subst h <;> simp
  have nm : ∀ z ∈ (List.replicate (2 * way - 12).toNat [u]).flatten, z = u := fun z hz => by
    have : way = 6 ∨ way = 7 := by omega
    rcases this with h | h <;> subst h <;> simpa using hz
  have c1 := @List.length_take D i ys
  have c2 := @List.length_drop D (i + 1) ys
  have nz : nice 5 (.tup (ys.take i ++ (List.replicate (2 * way - 12).toNat [u]).flatten ++ ys.drop (i + 1))) := by
    refine nice_sub nys ?_ fun z hz => ?_
    · rw [List.length_append, List.length_append]; omega
    · rcases List.mem_append.mp hz with h | h
      · rcases List.mem_append.mp h with h | h
        · exact List.mem_of_mem_take h
        · rw [nm z h]; exact List.mem_of_getElem? hu
      · exact List.mem_of_mem_drop h
  obtain ⟨p, ep, np⟩ := put_ok pq 5 5 5 (.tup xs) (.tup ys) _ q1 (by omega) (due_nice 5 _ hd) nz q2
  refine ⟨p, ?_, nice_le np (by decide)⟩
  generalize (ps.map fun q => pD ([] ++ q)) = L at *
  have hL : L.length ≤ 50000 := by rw [hlen, l]; omega
  refine v_seq (ρ' := rs xs way a t num ln .un .un (.own L) .un .un) (v_setN (v_call (rs := [.dat (.tup xs), .dat (pD [])]) ?_ e)) ?_
  · simp [aCons, aNil, mVar, mTup, dats, szOk, okP_iff, pD]
  subst hx
  refine v_seq (ρ' := rs xs way a t num ln .un .un (.own L) (.dat (pD pq)) .un) (v_set ?_) ?_
  · have m := md_ok (f := mVar 3) (g := mLen (mVar 8)) (ρ := rs xs way a t num ln .un .un (.own L) .un .un) rfl (lenL_ok rfl hL) (by omega)
    simp only [mIxL, m, mVar, asInt, asLst, List.getElem?_cons_succ, List.getElem?_cons_zero, Option.bind_some, hat, Option.map_some]
  refine v_seq (ρ' := rs xs way a t num ln .un .un (.own L) (.dat (pD pq)) (.dat (.tup ys))) (v_set (v_call (rs := [.dat (.tup xs), .dat (pD pq)]) rfl epa)) ?_
  refine v_seq (ρ' := rs xs way i t num ln .un .un (.own L) (.dat (pD pq)) (.dat (.tup ys))) ?_ (v_ret ?_)
  · have m := md_ok (f := mVar 2) (g := mLen (mVar 10)) (ρ := rs xs way a t num ln .un .un (.own L) (.dat (pD pq)) (.dat (.tup ys))) rfl (lenT_ok rfl (by omega)) (by omega)
    rw [hi] at m
    exact v_set m
  rw [hi] at hau
  have B1 := hd_ok (f := mVar 10) (g := mVar 2) (ρ := rs xs way i t num ln .un .un (.own L) (.dat (pD pq)) (.dat (.tup ys))) rfl rfl (Nat.le_of_lt hil)
  have B2 := tl_ok (f := mVar 10) (ρ := rs xs way i t num ln .un .un (.own L) (.dat (pD pq)) (.dat (.tup ys))) rfl (inc_ok (f := mVar 2) rfl) (by omega)
  have B3 := one_ok (ix_ok (f := mVar 10) (g := mVar 2) (ρ := rs xs way i t num ln .un .un (.own L) (.dat (pD pq)) (.dat (.tup ys))) rfl rfl hau)
  have B4 : mSub (mMul (mC (.int 2)) (mVar 1)) (mC (.int 12)) (rs xs way i t num ln .un .un (.own L) (.dat (pD pq)) (.dat (.tup ys))) = some (.dat (.int (2 * way - 12))) := by
    simp [mDef, okP_iff, okP_iffF, okP_T, okP_F, startC, argC, argN, outR, mSeq, mIf, mT, mLt, mLe, mGt, mGe, mII, cT, mVar, mC, mLen, aCons, aNil, gLen, asInt, asBl, asDat, asStr, asTup, asLst, asTrk, mRet, retR, mRetV, mSet, setR, mIxL, mIxT, mSkip, mEqS, mNeS, eqS, mMul, mAdd, mSub, mDiv, mMod, mPow, mNeg, cMul, cDiv, cMod, cPow, mTup, mLst, dats, szOk, mCall, mAbs', gAbs, mChain, tAndM, tOrM, tNotM, mIfE, mAndV, mOrV, mNotV, mApp, mAug, gNm, gTp, gCons', gNil', mAsg, mAsgL, mFor, iR1, iR2, bnd62, mDrop, mCatS, mCatT, mCatL, mSlT, mSlL, oNone, oSome, mIsi, isiD, mIsN, mNotN, Tl.isNon, mIntOf, gIntB, mMax', mMin', gMax2, gMin2, mEqD, mNeD, mIn, mNi, inF, eqF, mSlS, mIxS, mRaise1, mRaise2, mDefX, outX, okX, callX, mSetX, mExprX, mRetX, mTry, endT, dropX, mExF, mExI, mRevL, mRepL, mStr, gStr, mZf, mRepS, uSeq, uIf, uSet, uSetI, uRet, uRetU, uSkip, callU, mDefU, startU, outU, mSetU, mList, mBand, mBor, mDixV, asDic, iZT, iEnT, mDix, mDixV, mRepT, mDsp, dCons, dNil, mDict, vCons, vNil, scD, dSet, dEnd, putD, mDm, gDm, mTupOf, iN, iV, iT, frzV, mSetTX, mCallE, mRaise0, mMulW, mInL, mCall0, mRepT2, mDgt]
  have B5 := rep3_ok B3 B4 (by simp) (by omega)
  have B6 := cat_ok (cat_ok B1 B5 (by omega)) B2 (by rw [List.length_append]; omega)
  refine v_call (rs := [.dat (.tup xs), .dat (pD pq), .dat (.tup (ys.take i ++ (List.replicate (2 * way - 12).toNat [u]).flatten ++ ys.drop (i + 1)))]) ?_ ep
  simp only [aCons, B6, aNil, mVar, List.getElem?_cons_succ, List.getElem?_cons_zero, Option.bind_some, Option.map_some]
end

end Lw

namespace Lw
open PySem PySem.Spec PyProof.Rows L2 Evl Tl TL
noncomputable def eightD (xs : List D) : List D := [.non, .tup [], .str "paper", .int 7, .tup [.tup xs], .tup xs.reverse, .bl true, .tup (List.replicate xs.length .non)]
theorem eight_nice (xs : List D) (hd : dueOk 5 (.tup xs)) : ∀ y ∈ eightD xs, nice 6 y := by
  intro y hy
  have hx := due_nice 5 _ hd
  have hl : xs.length ≤ 100 := hd.1
  simp only [eightD, List.mem_cons, List.not_mem_nil, or_false] at hy
  rcases hy with rfl | rfl | rfl | rfl | rfl | rfl | rfl | rfl
  · trivial
  · exact ⟨by decide, fun z hz => by simp at hz⟩
  · show PyData.strOk _ = true
    decide +kernel
  · trivial
  · exact ⟨by simp, fun z hz => by rw [List.mem_singleton] at hz; subst hz; exact hx⟩
  · exact nice_up _ _ (nice_sub hx (by rw [List.length_reverse]; omega) fun z hz => List.mem_reverse.mp hz)
  · trivial
  · exact ⟨by rw [List.length_replicate]; omega, fun z hz => by rw [List.eq_of_mem_replicate hz]; trivial⟩
theorem sp_eight (xs : List D) (way a t num : Int) (ln : D) (hd : dueOk 5 (.tup xs)) : ∃ p, mRet (mIxL (mLst (aCons (mC .non) (aCons (mTup aNil) (aCons (mC (.str "paper")) (aCons (mC (.int 7)) (aCons (mTup (aCons (mVar 0) aNil)) (aCons (mRevT (mVar 0)) (aCons (mC (.bl true)) (aCons (mRepT3 (mTup (aCons (mC .non) aNil)) (mLen (mVar 0))) aNil))))))))) (mMod (mVar 4) (mC (.int 8)))) (rs xs way a t num ln .un .un .un .un .un) = some (.ret (.dat p)) ∧ nice 20 p := by
  have hl : xs.length ≤ 100 := hd.1
  obtain ⟨y, hy⟩ := atI_in (ns := eightD xs) (i := num % 8) (Int.emod_nonneg _ (by decide)) (Int.emod_lt_of_pos _ (by decide))
  obtain ⟨j, _, h5, _⟩ := atI_get hy
  refine ⟨y, v_ret ?_, nice_le (eight_nice xs hd y (List.mem_of_getElem? h5)) (by decide)⟩
  have e1 : mRevT (mVar 0) (rs xs way a t num ln .un .un .un .un .un) = some (.dat (.tup xs.reverse)) := rfl
  have e2 : mTup (aCons (mVar 0) aNil) (rs xs way a t num ln .un .un .un .un .un) = some (.dat (.tup [.tup xs])) := one_ok rfl
  have e3 : mRepT3 (mTup (aCons (mC .non) aNil)) (mLen (mVar 0)) (rs xs way a t num ln .un .un .un .un .un) = some (.dat (.tup (List.replicate xs.length .non))) := by
    have := rep3_ok (f := mTup (aCons (mC .non) aNil)) (g := mLen (mVar 0)) (ρ := rs xs way a t num ln .un .un .un .un .un) (one_ok rfl) (lenT_ok rfl (by omega)) (by simp) (by omega)
    rw [this, Int.toNat_natCast]
    congr 3
    induction xs.length with
    | zero => rfl
    | succ n ih => rw [List.replicate_succ, List.replicate_succ, List.flatten_cons, ih]; rfl
  have e4 : mTup aNil (rs xs way a t num ln .un .un .un .un .un) = some (.dat (.tup [])) := by simp [mTup, aNil, dats, szOk, okP_iff]
  have e5 : mLst (aCons (mC .non) (aCons (mTup aNil) (aCons (mC (.str "paper")) (aCons (mC (.int 7)) (aCons (mTup (aCons (mVar 0) aNil)) (aCons (mRevT (mVar 0)) (aCons (mC (.bl true)) (aCons (mRepT3 (mTup (aCons (mC .non) aNil)) (mLen (mVar 0))) aNil)))))))) (rs xs way a t num ln .un .un .un .un .un) = some (.new (eightD xs)) := by
    unfold mLst
    simp only [aCons] at e2 ⊢
    simp only [e1, e2, e3, e4, aNil, mC, Option.bind_some, Option.map_some, dats, List.length_cons, List.length_nil, show szOk (0 + 1 + 1 + 1 + 1 + 1 + 1 + 1 + 1) = true from okP_t (by decide), if_true, eightD]
  have m := md_ok (f := mVar 4) (g := mC (.int 8)) (ρ := rs xs way a t num ln .un .un .un .un .un) rfl rfl (by decide)
  unfold mIxL
  rw [e5, m]
  simp only [asLst, asInt, Option.bind_some, hy, Option.map_some]
theorem sp_lines (xs : List D) (way a t num : Int) (hd : dueOk 5 (.tup xs)) (pq : List Nat) (rows : List D) (hq : pq.length ≤ 5) (hp : atP (.tup xs) pq = some (.tup rows)) (hr : rows ≠ []) (hrd : dueOk 5 (.tup rows)) : ∃ p, mSeq (mSet 6 (mCall m__law_part_at (aCons (mVar 0) (aCons (mVar 5) aNil))))
    (mSeq (mSet 2 (mMod (mVar 2) (mLen (mVar 6))))
    (mSeq (mSet 7 (mCatT (mSlT (mVar 6) oNone (oSome (mVar 2))) (mSlT (mVar 6) (oSome (mAdd (mVar 2) (mC (.int 1)))) oNone)))
    (mSeq (mIf (mT (mEqS (mVar 1) (mC (.int 10)))) (mSeq (mSet 3 (mMod (mVar 3) (mAdd (mLen (mVar 6)) (mC (.int 1)))))
    (mSet 7 (mCatT (mCatT (mSlT (mVar 6) oNone (oSome (mVar 3))) (mTup (aCons (mIxT (mVar 6) (mVar 2)) aNil))) (mSlT (mVar 6) (oSome (mVar 3)) oNone)))) mSkip)
    (mSeq (mIf (mT (mEqS (mVar 1) (mC (.int 11)))) (mSeq (mSet 3 (mMod (mVar 3) (mLen (mVar 6))))
    (mSet 7 (mCatT (mCatT (mSlT (mVar 7) oNone (oSome (mVar 3))) (mTup (aCons (mIxT (mVar 6) (mVar 2)) aNil))) (mSlT (mVar 7) (oSome (mVar 3)) oNone)))) mSkip)
    (mRet (mCall (m__law_put_in 6) (aCons (mVar 0) (aCons (mVar 5) (aCons (mVar 7) aNil))))))))) (rs xs way a t num (pD pq) .un .un .un .un .un) = some (.ret (.dat p)) ∧ nice 20 p := by
  have hrl : rows.length ≤ 100 := hrd.1
  have nr := due_nice 5 _ hrd
  have h0 : 0 < rows.length := List.length_pos_iff.mpr hr
  obtain ⟨i, u, hi, hil, hu, hau⟩ := atI_mod rows a h0
  rw [hi] at hau
  have c1 := @List.length_take D i rows
  have c2 := @List.length_drop D (i + 1) rows
  have mu := List.mem_of_getElem? hu
  let r (t : Int) (c7 : C) : Rho := rs xs way i t num (pD pq) (.dat (.tup rows)) c7 .un .un .un
  have ix : ∀ t c7, mTup (aCons (mIxT (mVar 6) (mVar 2)) aNil) (r t c7) = some (.dat (.tup [u])) := fun t c7 => one_ok (ix_ok (f := mVar 6) (g := mVar 2) (xs := rows) rfl rfl hau)
  have s1 : mSet 6 (mCall m__law_part_at (aCons (mVar 0) (aCons (mVar 5) aNil))) (rs xs way a t num (pD pq) .un .un .un .un .un) = some (.nx (rs xs way a t num (pD pq) (.dat (.tup rows)) .un .un .un .un)) := v_set (v_call (rs := [.dat (.tup xs), .dat (pD pq)]) rfl (part_ok pq _ _ hp))
  have s2 : mSet 2 (mMod (mVar 2) (mLen (mVar 6))) (rs xs way a t num (pD pq) (.dat (.tup rows)) .un .un .un .un) = some (.nx (r t .un)) := by
    have m := md_ok (f := mVar 2) (g := mLen (mVar 6)) (ρ := rs xs way a t num (pD pq) (.dat (.tup rows)) .un .un .un .un) rfl (lenT_ok rfl (by omega)) (by omega)
    rw [hi] at m
    exact v_set m
  have s3 : mSet 7 (mCatT (mSlT (mVar 6) oNone (oSome (mVar 2))) (mSlT (mVar 6) (oSome (mAdd (mVar 2) (mC (.int 1)))) oNone)) (r t .un) = some (.nx (r t (.dat (.tup (rows.take i ++ rows.drop (i + 1)))))) :=
    v_set (cat_ok (hd_ok (f := mVar 6) (g := mVar 2) (xs := rows) rfl rfl (Nat.le_of_lt hil)) (tl_ok (f := mVar 6) (xs := rows) rfl (inc_ok (f := mVar 2) rfl) (by omega)) (by omega))
  have m1 : ∀ z ∈ rows.take i ++ rows.drop (i + 1), z ∈ rows := fun z hz => (List.mem_append.mp hz).elim List.mem_of_mem_take List.mem_of_mem_drop
  have l1 : (rows.take i ++ rows.drop (i + 1)).length + 1 = rows.length := by rw [List.length_append]; omega
  have S4 : ∃ t' f1, mIf (mT (mEqS (mVar 1) (mC (.int 10)))) (mSeq (mSet 3 (mMod (mVar 3) (mAdd (mLen (mVar 6)) (mC (.int 1))))) (mSet 7 (mCatT (mCatT (mSlT (mVar 6) oNone (oSome (mVar 3))) (mTup (aCons (mIxT (mVar 6) (mVar 2)) aNil))) (mSlT (mVar 6) (oSome (mVar 3)) oNone)))) mSkip (r t (.dat (.tup (rows.take i ++ rows.drop (i + 1))))) = some (.nx (r t' (.dat (.tup f1)))) ∧ (∀ z ∈ f1, z ∈ rows) ∧ f1.length ≤ rows.length + 1 ∧ rows.length ≤ f1.length + 1 := by
    have T : mT (mEqS (mVar 1) (mC (.int 10))) (r t (.dat (.tup (rows.take i ++ rows.drop (i + 1))))) = some (okP (way = 10)) := rfl
    by_cases q : way = 10
    · rw [okP_t q] at T
      obtain ⟨j, hj, hjl⟩ : ∃ j : Nat, t % ((rows.length + 1 : Nat) : Int) = (j : Int) ∧ j ≤ rows.length := by
        have h0 := Int.emod_nonneg t (show ((rows.length + 1 : Nat) : Int) ≠ 0 by omega)
        have h1 := Int.emod_lt_of_pos t (show (0 : Int) < ((rows.length + 1 : Nat) : Int) by omega)
        exact ⟨(t % ((rows.length + 1 : Nat) : Int)).toNat, by omega, by omega⟩
      have d1 := @List.length_take D j rows
      have d2 := @List.length_drop D j rows
      refine ⟨j, rows.take j ++ [u] ++ rows.drop j, v_ifT T (v_seq (ρ' := r j (.dat (.tup (rows.take i ++ rows.drop (i + 1))))) ?_ (v_set ?_)), fun z hz => ?_, ?_, ?_⟩
      · have m := md_ok (f := mVar 3) (g := mAdd (mLen (mVar 6)) (mC (.int 1))) (ρ := r t (.dat (.tup (rows.take i ++ rows.drop (i + 1))))) rfl (inc_ok (lenT_ok rfl (by omega))) (by omega)
        rw [hj] at m
        exact v_set m
      · exact cat_ok (cat_ok (hd_ok (f := mVar 6) (g := mVar 3) (xs := rows) rfl rfl hjl) (ix j _) (by simp only [List.length_cons, List.length_nil]; omega)) (tl_ok (f := mVar 6) (g := mVar 3) (xs := rows) rfl rfl hjl) (by simp only [List.length_append, List.length_cons, List.length_nil]; omega)
      · rcases List.mem_append.mp hz with h | h
        · rcases List.mem_append.mp h with h | h
          · exact List.mem_of_mem_take h
          · rw [List.mem_singleton.mp h]; exact mu
        · exact List.mem_of_mem_drop h
      · simp only [List.length_append, List.length_cons, List.length_nil]; omega
      · simp only [List.length_append, List.length_cons, List.length_nil]; omega
    · rw [okP_f q] at T
      exact ⟨t, _, v_ifF T rfl, m1, by omega, by omega⟩
  obtain ⟨t', f1, s4, m2, l2, l2'⟩ := S4
  have S5 : ∃ t'' f2, mIf (mT (mEqS (mVar 1) (mC (.int 11)))) (mSeq (mSet 3 (mMod (mVar 3) (mLen (mVar 6)))) (mSet 7 (mCatT (mCatT (mSlT (mVar 7) oNone (oSome (mVar 3))) (mTup (aCons (mIxT (mVar 6) (mVar 2)) aNil))) (mSlT (mVar 7) (oSome (mVar 3)) oNone)))) mSkip (r t' (.dat (.tup f1))) = some (.nx (r t'' (.dat (.tup f2)))) ∧ (∀ z ∈ f2, z ∈ rows) ∧ f2.length ≤ rows.length + 2 := by
    have T : mT (mEqS (mVar 1) (mC (.int 11))) (r t' (.dat (.tup f1))) = some (okP (way = 11)) := rfl
    by_cases q : way = 11
    · rw [okP_t q] at T
      obtain ⟨j, hj, hjl⟩ : ∃ j : Nat, t' % (rows.length : Int) = (j : Int) ∧ j < rows.length := by
        have h0 := Int.emod_nonneg t' (show (rows.length : Int) ≠ 0 by omega)
        have h1 := Int.emod_lt_of_pos t' (show (0 : Int) < (rows.length : Int) by omega)
        exact ⟨(t' % (rows.length : Int)).toNat, by omega, by omega⟩
      have d1 := @List.length_take D j f1
      have d2 := @List.length_drop D j f1
      refine ⟨j, f1.take j ++ [u] ++ f1.drop j, v_ifT T (v_seq (ρ' := r j (.dat (.tup f1))) ?_ (v_set ?_)), fun z hz => ?_, ?_⟩
      · have m := md_ok (f := mVar 3) (g := mLen (mVar 6)) (ρ := r t' (.dat (.tup f1))) rfl (lenT_ok rfl (by omega)) (by omega)
        rw [hj] at m
        exact v_set m
      · exact cat_ok (cat_ok (hd_ok (f := mVar 7) (g := mVar 3) (xs := f1) rfl rfl (by omega)) (ix j _) (by simp only [List.length_cons, List.length_nil]; omega)) (tl_ok (f := mVar 7) (g := mVar 3) (xs := f1) rfl rfl (by omega)) (by simp only [List.length_append, List.length_cons, List.length_nil]; omega)
      · rcases List.mem_append.mp hz with h | h
        · rcases List.mem_append.mp h with h | h
          · exact m2 z (List.mem_of_mem_take h)
          · rw [List.mem_singleton.mp h]; exact mu
        · exact m2 z (List.mem_of_mem_drop h)
      · simp only [List.length_append, List.length_cons, List.length_nil]; omega
    · rw [okP_f q] at T
      exact ⟨t', _, v_ifF T rfl, m2, by omega⟩
  obtain ⟨t'', f2, s5, m3, l3⟩ := S5
  obtain ⟨p, ep, np⟩ := put_ok pq 5 5 5 (.tup xs) (.tup rows) (.tup f2) hq (by omega) (due_nice 5 _ hd) (nice_sub nr (by omega) m3) hp
  exact ⟨p, v_seq s1 (v_seq s2 (v_seq s3 (v_seq s4 (v_seq s5 (v_ret (v_call (rs := [.dat (.tup xs), .dat (pD pq), .dat (.tup f2)]) rfl ep)))))), nice_le np (by decide)⟩
/-- where the lines stand: nowhere, or a tuple that isn't empty -/
def LinesOk (xs : List D) (ln : D) : Prop := ln = .non ∨ ∃ pq rows, ln = pD pq ∧ pq.length ≤ 5 ∧ atP (.tup xs) pq = some (.tup rows) ∧ rows ≠ [] ∧ dueOk 5 (.tup rows)
theorem spoilt_ok (xs : List D) (way a t num : Int) (ln : D) (hd : dueOk 5 (.tup xs)) (hn : 0 ≤ num ∧ num < 1000) (hw : 0 ≤ way) (h1 : 0 < lD (.tup xs)) (h2 : lD (.tup xs) ≤ 2000) (h3 : 0 < tD (.tup xs)) (h4 : tD (.tup xs) ≤ 2000) (hln : LinesOk xs ln) :
    ∃ p, m__law_paper_spoilt [.dat (.tup xs), .dat (.int way), .dat (.int a), .dat (.int t), .dat (.int num), .dat ln] = some (.dat p) ∧ nice 20 p := by
  have fin : ∃ p, b__law_paper_spoilt (rs xs way a t num ln .un .un .un .un .un) = some (.ret (.dat p)) ∧ nice 20 p := by
    unfold b__law_paper_spoilt
    have T1 : mT (mLt (mVar 1) (mC (.int 6))) (rs xs way a t num ln .un .un .un .un .un) = some (okP (way < 6)) := rfl
    by_cases q1 : way < 6
    · rw [okP_t q1] at T1
      obtain ⟨p, e, np⟩ := sp_cells xs way a t num ln hd hn h1 h2 ⟨hw, q1⟩
      exact ⟨p, v_seqR (v_ifT T1 e), np⟩
    rw [okP_f q1] at T1
    have T2 : ∀ b, b = okP (way = 6) → (∀ c, c = okP (way = 7) → tOrM (mT (mEqS (mVar 1) (mC (.int 6)))) (mT (mEqS (mVar 1) (mC (.int 7)))) (rs xs way a t num ln .un .un .un .un .un) = some (b || c)) := fun b hb c hc => by
      subst hb hc
      show (if okP (way = 6) = true then some true else some (okP (way = 7))) = _
      cases okP (way = 6) <;> rfl
    by_cases q2 : way = 6 ∨ way = 7
    · have T2 := T2 _ rfl _ rfl
      have e2 : (okP (way = 6) || okP (way = 7)) = true := by
        rcases q2 with h | h
        · rw [okP_t h]; rfl
        · rw [okP_t h, Bool.or_true]
      rw [e2] at T2
      obtain ⟨p, e, np⟩ := sp_tuples xs way a t num ln hd h3 h4 (by omega)
      exact ⟨p, v_seq (v_ifF T1 rfl) (v_seqR (v_ifT T2 e)), np⟩
    have T2 := T2 _ rfl _ rfl
    rw [okP_f (fun z => q2 (.inl z)), okP_f (fun z => q2 (.inr z))] at T2
    by_cases q3 : way = 8 ∨ ln = .non
    · have T3 : tOrM (mT (mEqS (mVar 1) (mC (.int 8)))) (mT (mIsN (mVar 5))) (rs xs way a t num ln .un .un .un .un .un) = some true := by
        show (if okP (way = 8) = true then some true else mT (mIsN (mVar 5)) (rs xs way a t num ln .un .un .un .un .un)) = _
        by_cases z : way = 8
        · rw [okP_t z]; rfl
        · rw [okP_f z]
          rcases q3 with h | h
          · exact absurd h z
          · subst h; rfl
      obtain ⟨p, e, np⟩ := sp_eight xs way a t num ln hd
      exact ⟨p, v_seq (v_ifF T1 rfl) (v_seq (v_ifF T2 rfl) (v_seqR (v_ifT T3 e))), np⟩
    · rcases hln with h | ⟨pq, rows, rfl, g1, g2, g3, g4⟩
      · exact absurd (.inr h) q3
      have T3 : tOrM (mT (mEqS (mVar 1) (mC (.int 8)))) (mT (mIsN (mVar 5))) (rs xs way a t num (pD pq) .un .un .un .un .un) = some false := by
        show (if okP (way = 8) = true then some true else mT (mIsN (mVar 5)) (rs xs way a t num (pD pq) .un .un .un .un .un)) = _
        rw [okP_f fun z => q3 (.inl z)]
        rfl
      obtain ⟨p, e, np⟩ := sp_lines xs way a t num hd pq rows g1 g2 g3 g4
      exact ⟨p, v_seq (v_ifF T1 rfl) (v_seq (v_ifF T2 rfl) (v_seq (v_ifF T3 rfl) e)), np⟩
  obtain ⟨p, e, np⟩ := fin
  exact ⟨p, v_out rfl e, np⟩

end Lw

namespace Lw
open PySem PySem.Spec PyProof.Rows L2 Evl Tl TL
def stT (o : Int) (a : List D × Int × Int) (t : Int) : List D × Int × Int := if t * o ≤ a.2.2 then (a.1 ++ [.tup [.int t, .int (t * o), .bl true]], a.2.1 + t, a.2.2 - t * o) else (a.1 ++ [.tup [.int t, .int (t * o), .bl false]], a.2.1, a.2.2)
def ftT (o : Int) (a : List D × Int × Int) (ts : List Int) : List D × Int × Int := ts.foldl (stT o) a
def lnT (o ahead : Int) : D := .tup [.int ahead, .tup (ftT o ([], 0, ahead) [8, 4, 2, 1]).1, .int (ftT o ([], 0, ahead) [8, 4, 2, 1]).2.1, .int (ftT o ([], 0, ahead) [8, 4, 2, 1]).2.2]
def lfT (o ahead : Int) : Int := (ftT o ([], 0, ahead) [8, 4, 2, 1]).2.2
def lsT (o : Int) : List Nat → Int → List D
  | [], _ => []
  | c :: cs, left => lnT o (10 * left + ((c : Int) - 48)) :: lsT o cs (lfT o (10 * left + ((c : Int) - 48)))
def lrT (o : Int) : List Nat → Int → Int
  | [], left => left
  | c :: cs, left => lrT o cs (lfT o (10 * left + ((c : Int) - 48)))
theorem lsT_len (o : Int) : ∀ (cs : List Nat) (l : Int), (lsT o cs l).length = cs.length
  | [], _ => rfl
  | c :: cs, l => congrArg (· + 1) (lsT_len o cs _)
theorem st_nice (o : Int) (a : List D × Int × Int) (t : Int) (h : ∀ d ∈ a.1, nice 1 d) : ∀ d ∈ (stT o a t).1, nice 1 d := by
  unfold stT
  have key : ∀ b, ∀ d ∈ a.1 ++ [D.tup [.int t, .int (t * o), .bl b]], nice 1 d := fun b d hd => by
    rcases List.mem_append.mp hd with hd | hd
    · exact h d hd
    · rw [List.mem_singleton] at hd
      subst hd
      refine ⟨by simp, fun x hx => ?_⟩
      simp only [List.mem_cons, List.not_mem_nil, or_false] at hx
      rcases hx with rfl | rfl | rfl
      · exact nice_int
      · exact nice_int
      · exact nice_bl
  split <;> exact key _
theorem st_len (o : Int) (a : List D × Int × Int) (t : Int) : (stT o a t).1.length = a.1.length + 1 := by
  unfold stT
  split <;> simp
theorem ln_nice (o ahead : Int) : nice 3 (lnT o ahead) := by
  refine ⟨by simp [lnT], fun x hx => ?_⟩
  simp only [lnT, List.mem_cons, List.not_mem_nil, or_false] at hx
  rcases hx with rfl | rfl | rfl | rfl
  · exact nice_int
  · refine ⟨?_, ?_⟩
    · simp only [ftT, List.foldl, st_len]; simp
    · simp only [ftT, List.foldl]
      exact st_nice _ _ _ (st_nice _ _ _ (st_nice _ _ _ (st_nice _ _ _ (by simp))))
  · exact nice_int
  · exact nice_int
theorem ls_nice (o : Int) : ∀ (cs : List Nat) (l : Int), ∀ d ∈ lsT o cs l, nice 3 d
  | [], _, d, h => by cases h
  | c :: cs, l, d, h => by
    rcases List.mem_cons.mp h with rfl | h
    · exact ln_nice _ _
    · exact ls_nice o cs _ d h
theorem loop_four (s0 : C) (o : Int) : ∀ (ts : List Int) (a : List D × Int × Int) (x y z : C), (∀ t ∈ ts, 0 < t ∧ t < 10) → a.1.length + ts.length ≤ 1000 → ∃ x' y' z', loopM (gNm 5) f_line_of_tries_1 (ts.map .int) [s0, .dat (.int o), .own a.1, .dat (.int a.2.1), .dat (.int a.2.2), x, y, z] = some (.nx [s0, .dat (.int o), .own (ftT o a ts).1, .dat (.int (ftT o a ts).2.1), .dat (.int (ftT o a ts).2.2), x', y', z'])
  | [], a, x, y, z, _, _ => ⟨x, y, z, rfl⟩
  | t :: ts, a, x, y, z, h, hl => by
    have ht := h t (by simp)
    simp only [List.length_cons] at hl
    have cm : cMul t o = true := okP_t (.inl (by omega))
    obtain ⟨x', y', z', e⟩ := loop_four s0 o ts (stT o a t) (.dat (.int t)) (.dat (.int (t * o))) (.dat (.bl (okP (t * o ≤ a.2.2)))) (fun u hu => h u (by simp [hu])) (by rw [st_len]; omega)
    refine ⟨x', y', z', ?_⟩
    have hz : a.1.length + 1 ≤ 100000 := by omega
    have hz' : a.1.length ≤ 99999 := by omega
    rw [List.map_cons, loop_nx (ρ1 := [s0, .dat (.int o), .own a.1, .dat (.int a.2.1), .dat (.int a.2.2), .dat (.int t), y, z]) (ρ2 := [s0, .dat (.int o), .own (stT o a t).1, .dat (.int (stT o a t).2.1), .dat (.int (stT o a t).2.2), .dat (.int t), .dat (.int (t * o)), .dat (.bl (okP (t * o ≤ a.2.2)))]) rfl (by
      unfold stT
      by_cases q : t * o ≤ a.2.2
      · simp [f_line_of_tries_1, mDef, okP_iff, okP_iffF, okP_T, okP_F, startC, argC, argN, outR, mSeq, mIf, mT, mLt, mLe, mGt, mGe, mII, cT, mVar, mC, mLen, aCons, aNil, gLen, asInt, asBl, asDat, asStr, asTup, asLst, asTrk, mRet, retR, mRetV, mSet, setR, mIxL, mIxT, mSkip, mEqS, mNeS, eqS, mMul, mAdd, mSub, mDiv, mMod, mNeg, cDiv, mTup, mLst, dats, szOk, mCall, mAbs', gAbs, mChain, tAndM, tOrM, tNotM, mIfE, mAndV, mOrV, mNotV, mApp, mAug, gNm, gTp, gCons', gNil', mAsg, mAsgL, mFor, iR1, iR2, bnd62, mDrop, mCatS, mCatT, mCatL, mSlT, mSlL, oNone, oSome, mIsi, isiD, mIsN, mNotN, Tl.isNon, mIntOf, gIntB, mMax', mMin', gMax2, gMin2, mEqD, mNeD, mIn, mNi, inF, eqF, mSlS, mIxS, mRaise1, mRaise2, mDefX, outX, okX, callX, mSetX, mExprX, mRetX, mTry, endT, dropX, mExF, mExI, mRevL, mRepL, mStr, gStr, mZf, mRepS, uSeq, uIf, uSet, uSetI, uRet, uRetU, uSkip, callU, mDefU, startU, outU, mSetU, mList, mBand, mBor, mDixV, asDic, iZT, iEnT, mDix, mDixV, mRepT, mDsp, dCons, dNil, mDict, vCons, vNil, scD, dSet, dEnd, putD, mDm, gDm, mTupOf, iN, iV, iT, frzV, mSetTX, mCallE, mRaise0, mMulW, mInL, mCall0, mRepT2, mDgt, cm, hz, hz', q]
      · simp [f_line_of_tries_1, mDef, okP_iff, okP_iffF, okP_T, okP_F, startC, argC, argN, outR, mSeq, mIf, mT, mLt, mLe, mGt, mGe, mII, cT, mVar, mC, mLen, aCons, aNil, gLen, asInt, asBl, asDat, asStr, asTup, asLst, asTrk, mRet, retR, mRetV, mSet, setR, mIxL, mIxT, mSkip, mEqS, mNeS, eqS, mMul, mAdd, mSub, mDiv, mMod, mNeg, cDiv, mTup, mLst, dats, szOk, mCall, mAbs', gAbs, mChain, tAndM, tOrM, tNotM, mIfE, mAndV, mOrV, mNotV, mApp, mAug, gNm, gTp, gCons', gNil', mAsg, mAsgL, mFor, iR1, iR2, bnd62, mDrop, mCatS, mCatT, mCatL, mSlT, mSlL, oNone, oSome, mIsi, isiD, mIsN, mNotN, Tl.isNon, mIntOf, gIntB, mMax', mMin', gMax2, gMin2, mEqD, mNeD, mIn, mNi, inF, eqF, mSlS, mIxS, mRaise1, mRaise2, mDefX, outX, okX, callX, mSetX, mExprX, mRetX, mTry, endT, dropX, mExF, mExI, mRevL, mRepL, mStr, gStr, mZf, mRepS, uSeq, uIf, uSet, uSetI, uRet, uRetU, uSkip, callU, mDefU, startU, outU, mSetU, mList, mBand, mBor, mDixV, asDic, iZT, iEnT, mDix, mDixV, mRepT, mDsp, dCons, dNil, mDict, vCons, vNil, scD, dSet, dEnd, putD, mDm, gDm, mTupOf, iN, iV, iT, frzV, mSetTX, mCallE, mRaise0, mMulW, mInL, mCall0, mRepT2, mDgt, cm, hz, hz', q]), e]
    rfl
theorem line_ok (ahead o : Int) : m_line_of_tries [.dat (.int ahead), .dat (.int o)] = some (.dat (lnT o ahead)) := by
  obtain ⟨x', y', z', e⟩ := loop_four (.dat (.int ahead)) o [8, 4, 2, 1] ([], 0, ahead) .un .un .un (by intro t ht; simp only [List.mem_cons, List.not_mem_nil, or_false] at ht; rcases ht with rfl | rfl | rfl | rfl <;> decide) (by simp)
  refine v_out rfl ?_
  unfold b_line_of_tries
  refine v_seq (ρ' := [.dat (.int ahead), .dat (.int o), .own [], .un, .un, .un, .un, .un]) (by simp [mDef, okP_iff, okP_iffF, okP_T, okP_F, startC, argC, argN, outR, mSeq, mIf, mT, mLt, mLe, mGt, mGe, mII, cT, mVar, mC, mLen, aCons, aNil, gLen, asInt, asBl, asDat, asStr, asTup, asLst, asTrk, mRet, retR, mRetV, mSet, setR, mIxL, mIxT, mSkip, mEqS, mNeS, eqS, mMul, mAdd, mSub, mDiv, mMod, mPow, mNeg, cMul, cDiv, cMod, cPow, mTup, mLst, dats, szOk, mCall, mAbs', gAbs, mChain, tAndM, tOrM, tNotM, mIfE, mAndV, mOrV, mNotV, mApp, mAug, gNm, gTp, gCons', gNil', mAsg, mAsgL, mFor, iR1, iR2, bnd62, mDrop, mCatS, mCatT, mCatL, mSlT, mSlL, oNone, oSome, mIsi, isiD, mIsN, mNotN, Tl.isNon, mIntOf, gIntB, mMax', mMin', gMax2, gMin2, mEqD, mNeD, mIn, mNi, inF, eqF, mSlS, mIxS, mRaise1, mRaise2, mDefX, outX, okX, callX, mSetX, mExprX, mRetX, mTry, endT, dropX, mExF, mExI, mRevL, mRepL, mStr, gStr, mZf, mRepS, uSeq, uIf, uSet, uSetI, uRet, uRetU, uSkip, callU, mDefU, startU, outU, mSetU, mList, mBand, mBor, mDixV, asDic, iZT, iEnT, mDix, mDixV, mRepT, mDsp, dCons, dNil, mDict, vCons, vNil, scD, dSet, dEnd, putD, mDm, gDm, mTupOf, iN, iV, iT, frzV, mSetTX, mCallE, mRaise0, mMulW, mInL, mCall0, mRepT2, mDgt]) ?_
  refine v_seq (ρ' := [.dat (.int ahead), .dat (.int o), .own [], .dat (.int 0), .un, .un, .un, .un]) (by simp [mDef, okP_iff, okP_iffF, okP_T, okP_F, startC, argC, argN, outR, mSeq, mIf, mT, mLt, mLe, mGt, mGe, mII, cT, mVar, mC, mLen, aCons, aNil, gLen, asInt, asBl, asDat, asStr, asTup, asLst, asTrk, mRet, retR, mRetV, mSet, setR, mIxL, mIxT, mSkip, mEqS, mNeS, eqS, mMul, mAdd, mSub, mDiv, mMod, mPow, mNeg, cMul, cDiv, cMod, cPow, mTup, mLst, dats, szOk, mCall, mAbs', gAbs, mChain, tAndM, tOrM, tNotM, mIfE, mAndV, mOrV, mNotV, mApp, mAug, gNm, gTp, gCons', gNil', mAsg, mAsgL, mFor, iR1, iR2, bnd62, mDrop, mCatS, mCatT, mCatL, mSlT, mSlL, oNone, oSome, mIsi, isiD, mIsN, mNotN, Tl.isNon, mIntOf, gIntB, mMax', mMin', gMax2, gMin2, mEqD, mNeD, mIn, mNi, inF, eqF, mSlS, mIxS, mRaise1, mRaise2, mDefX, outX, okX, callX, mSetX, mExprX, mRetX, mTry, endT, dropX, mExF, mExI, mRevL, mRepL, mStr, gStr, mZf, mRepS, uSeq, uIf, uSet, uSetI, uRet, uRetU, uSkip, callU, mDefU, startU, outU, mSetU, mList, mBand, mBor, mDixV, asDic, iZT, iEnT, mDix, mDixV, mRepT, mDsp, dCons, dNil, mDict, vCons, vNil, scD, dSet, dEnd, putD, mDm, gDm, mTupOf, iN, iV, iT, frzV, mSetTX, mCallE, mRaise0, mMulW, mInL, mCall0, mRepT2, mDgt]) ?_
  refine v_seq (ρ' := [.dat (.int ahead), .dat (.int o), .own [], .dat (.int 0), .dat (.int ahead), .un, .un, .un]) (by simp [mDef, okP_iff, okP_iffF, okP_T, okP_F, startC, argC, argN, outR, mSeq, mIf, mT, mLt, mLe, mGt, mGe, mII, cT, mVar, mC, mLen, aCons, aNil, gLen, asInt, asBl, asDat, asStr, asTup, asLst, asTrk, mRet, retR, mRetV, mSet, setR, mIxL, mIxT, mSkip, mEqS, mNeS, eqS, mMul, mAdd, mSub, mDiv, mMod, mPow, mNeg, cMul, cDiv, cMod, cPow, mTup, mLst, dats, szOk, mCall, mAbs', gAbs, mChain, tAndM, tOrM, tNotM, mIfE, mAndV, mOrV, mNotV, mApp, mAug, gNm, gTp, gCons', gNil', mAsg, mAsgL, mFor, iR1, iR2, bnd62, mDrop, mCatS, mCatT, mCatL, mSlT, mSlL, oNone, oSome, mIsi, isiD, mIsN, mNotN, Tl.isNon, mIntOf, gIntB, mMax', mMin', gMax2, gMin2, mEqD, mNeD, mIn, mNi, inF, eqF, mSlS, mIxS, mRaise1, mRaise2, mDefX, outX, okX, callX, mSetX, mExprX, mRetX, mTry, endT, dropX, mExF, mExI, mRevL, mRepL, mStr, gStr, mZf, mRepS, uSeq, uIf, uSet, uSetI, uRet, uRetU, uSkip, callU, mDefU, startU, outU, mSetU, mList, mBand, mBor, mDixV, asDic, iZT, iEnT, mDix, mDixV, mRepT, mDsp, dCons, dNil, mDict, vCons, vNil, scD, dSet, dEnd, putD, mDm, gDm, mTupOf, iN, iV, iT, frzV, mSetTX, mCallE, mRaise0, mMulW, mInL, mCall0, mRepT2, mDgt]) ?_
  refine v_seq (v_for (ds := [8, 4, 2, 1].map .int) (ρ' := [.dat (.int ahead), .dat (.int o), .own [], .dat (.int 0), .dat (.int ahead), .un, .un, .un]) (by simp [mDef, okP_iff, okP_iffF, okP_T, okP_F, startC, argC, argN, outR, mSeq, mIf, mT, mLt, mLe, mGt, mGe, mII, cT, mVar, mC, mLen, aCons, aNil, gLen, asInt, asBl, asDat, asStr, asTup, asLst, asTrk, mRet, retR, mRetV, mSet, setR, mIxL, mIxT, mSkip, mEqS, mNeS, eqS, mMul, mAdd, mSub, mDiv, mMod, mPow, mNeg, cMul, cDiv, cMod, cPow, mTup, mLst, dats, szOk, mCall, mAbs', gAbs, mChain, tAndM, tOrM, tNotM, mIfE, mAndV, mOrV, mNotV, mApp, mAug, gNm, gTp, gCons', gNil', mAsg, mAsgL, mFor, iR1, iR2, bnd62, mDrop, mCatS, mCatT, mCatL, mSlT, mSlL, oNone, oSome, mIsi, isiD, mIsN, mNotN, Tl.isNon, mIntOf, gIntB, mMax', mMin', gMax2, gMin2, mEqD, mNeD, mIn, mNi, inF, eqF, mSlS, mIxS, mRaise1, mRaise2, mDefX, outX, okX, callX, mSetX, mExprX, mRetX, mTry, endT, dropX, mExF, mExI, mRevL, mRepL, mStr, gStr, mZf, mRepS, uSeq, uIf, uSet, uSetI, uRet, uRetU, uSkip, callU, mDefU, startU, outU, mSetU, mList, mBand, mBor, mDixV, asDic, iZT, iEnT, mDix, mDixV, mRepT, mDsp, dCons, dNil, mDict, vCons, vNil, scD, dSet, dEnd, putD, mDm, gDm, mTupOf, iN, iV, iT, frzV, mSetTX, mCallE, mRaise0, mMulW, mInL, mCall0, mRepT2, mDgt]) e) ?_
  simp [mDef, okP_iff, okP_iffF, okP_T, okP_F, startC, argC, argN, outR, mSeq, mIf, mT, mLt, mLe, mGt, mGe, mII, cT, mVar, mC, mLen, aCons, aNil, gLen, asInt, asBl, asDat, asStr, asTup, asLst, asTrk, mRet, retR, mRetV, mSet, setR, mIxL, mIxT, mSkip, mEqS, mNeS, eqS, mMul, mAdd, mSub, mDiv, mMod, mPow, mNeg, cMul, cDiv, cMod, cPow, mTup, mLst, dats, szOk, mCall, mAbs', gAbs, mChain, tAndM, tOrM, tNotM, mIfE, mAndV, mOrV, mNotV, mApp, mAug, gNm, gTp, gCons', gNil', mAsg, mAsgL, mFor, iR1, iR2, bnd62, mDrop, mCatS, mCatT, mCatL, mSlT, mSlL, oNone, oSome, mIsi, isiD, mIsN, mNotN, Tl.isNon, mIntOf, gIntB, mMax', mMin', gMax2, gMin2, mEqD, mNeD, mIn, mNi, inF, eqF, mSlS, mIxS, mRaise1, mRaise2, mDefX, outX, okX, callX, mSetX, mExprX, mRetX, mTry, endT, dropX, mExF, mExI, mRevL, mRepL, mStr, gStr, mZf, mRepS, uSeq, uIf, uSet, uSetI, uRet, uRetU, uSkip, callU, mDefU, startU, outU, mSetU, mList, mBand, mBor, mDixV, asDic, iZT, iEnT, mDix, mDixV, mRepT, mDsp, dCons, dNil, mDict, vCons, vNil, scD, dSet, dEnd, putD, mDm, gDm, mTupOf, iN, iV, iT, frzV, mSetTX, mCallE, mRaise0, mMulW, mInL, mCall0, mRepT2, mDgt, lnT]
theorem dig_int {c : Nat} (h : 48 ≤ c ∧ c ≤ 57) : PySem.intText? ⟨#[c]⟩ = some ((c : Int) - 48) := by
  have e : c = 48 ∨ c = 49 ∨ c = 50 ∨ c = 51 ∨ c = 52 ∨ c = 53 ∨ c = 54 ∨ c = 55 ∨ c = 56 ∨ c = 57 := by omega
  rcases e with rfl | rfl | rfl | rfl | rfl | rfl | rfl | rfl | rfl | rfl <;> decide +kernel
theorem atI_last4 {a b c d : D} : atI [a, b, c, d] (-1) = some d := rfl
theorem dig_len (c : Nat) : okP ((⟨#[c]⟩ : Str).length ≤ 640) = true := okP_t (by show 1 ≤ 640; decide)
theorem cm10 (a : Int) : cMul 10 a = true := okP_t (.inl (by decide))
theorem loop_tries (s0 s2 : C) (o : Int) : ∀ (cs : List Nat) (left : Int) (acc : List D) (x y : C), (∀ c ∈ cs, 48 ≤ c ∧ c ≤ 57) → acc.length + cs.length ≤ 1000 → ∃ x' y', loopM (gNm 5) f_tries_1 (cs.map fun c => .str ⟨#[c]⟩) [s0, .dat (.int o), s2, .own acc, .dat (.int left), x, y] = some (.nx [s0, .dat (.int o), s2, .own (acc ++ lsT o cs left), .dat (.int (lrT o cs left)), x', y'])
  | [], left, acc, x, y, _, _ => ⟨x, y, by simp [loopM, lsT, lrT]⟩
  | c :: cs, left, acc, x, y, h, hl => by
    have hc := h c (by simp)
    simp only [List.length_cons] at hl
    have t1 := dig_int hc
    have t2 := line_ok (10 * left + ((c : Int) - 48)) o
    have hz : acc.length + 1 ≤ 100000 := by omega
    have hz' : acc.length ≤ 99999 := by omega
    have dl := dig_len c
    have cm := cm10 left
    obtain ⟨x', y', e⟩ := loop_tries s0 s2 o cs (lfT o (10 * left + ((c : Int) - 48))) (acc ++ [lnT o (10 * left + ((c : Int) - 48))]) (.dat (.str ⟨#[c]⟩)) (.dat (lnT o (10 * left + ((c : Int) - 48)))) (fun u hu => h u (by simp [hu])) (by simp; omega)
    refine ⟨x', y', ?_⟩
    have ei : mIntS (mVar 5) [s0, .dat (.int o), s2, .own acc, .dat (.int left), .dat (.str ⟨#[c]⟩), y] = some (.dat (.int ((c : Int) - 48))) := by simp only [mIntS, mVar, List.getElem?_cons_succ, List.getElem?_cons_zero, asStr, Option.bind_some, dl, if_true, t1, Option.map_some]
    rw [List.map_cons, loop_nx (ρ1 := [s0, .dat (.int o), s2, .own acc, .dat (.int left), .dat (.str ⟨#[c]⟩), y]) (ρ2 := [s0, .dat (.int o), s2, .own (acc ++ [lnT o (10 * left + ((c : Int) - 48))]), .dat (.int (lfT o (10 * left + ((c : Int) - 48)))), .dat (.str ⟨#[c]⟩), .dat (lnT o (10 * left + ((c : Int) - 48)))]) rfl (by
      unfold f_tries_1
      refine v_seq (ρ' := [s0, .dat (.int o), s2, .own acc, .dat (.int left), .dat (.str ⟨#[c]⟩), .dat (lnT o (10 * left + ((c : Int) - 48)))]) (by simp [mDef, okP_iff, okP_iffF, okP_T, okP_F, startC, argC, argN, outR, mSeq, mIf, mT, mLt, mLe, mGt, mGe, mII, cT, mVar, mC, mLen, aCons, aNil, gLen, asInt, asBl, asDat, asStr, asTup, asLst, asTrk, mRet, retR, mRetV, mSet, setR, mIxL, mIxT, mSkip, mEqS, mNeS, eqS, mMul, mAdd, mSub, mDiv, mMod, mNeg, cDiv, mTup, mLst, dats, szOk, mCall, mAbs', gAbs, mChain, tAndM, tOrM, tNotM, mIfE, mAndV, mOrV, mNotV, mApp, mAug, gNm, gTp, gCons', gNil', mAsg, mAsgL, mFor, iR1, iR2, bnd62, mDrop, mCatS, mCatT, mCatL, mSlT, mSlL, oNone, oSome, mIsi, isiD, mIsN, mNotN, Tl.isNon, mIntOf, gIntB, mMax', mMin', gMax2, gMin2, mEqD, mNeD, mIn, mNi, inF, eqF, mSlS, mIxS, mRaise1, mRaise2, mDefX, outX, okX, callX, mSetX, mExprX, mRetX, mTry, endT, dropX, mExF, mExI, mRevL, mRepL, mStr, gStr, mZf, mRepS, uSeq, uIf, uSet, uSetI, uRet, uRetU, uSkip, callU, mDefU, startU, outU, mSetU, mList, mBand, mBor, mDixV, asDic, iZT, iEnT, mDix, mDixV, mRepT, mDsp, dCons, dNil, mDict, vCons, vNil, scD, dSet, dEnd, putD, mDm, gDm, mTupOf, iN, iV, iT, frzV, mSetTX, mCallE, mRaise0, mMulW, mInL, mCall0, mRepT2, mDgt, ei, cm, t2]) ?_
      unfold lfT lnT
      simp [mDef, okP_iff, okP_iffF, okP_T, okP_F, startC, argC, argN, outR, mSeq, mIf, mT, mLt, mLe, mGt, mGe, mII, cT, mVar, mC, mLen, aCons, aNil, gLen, asInt, asBl, asDat, asStr, asTup, asLst, asTrk, mRet, retR, mRetV, mSet, setR, mIxL, mIxT, mSkip, mEqS, mNeS, eqS, mMul, mAdd, mSub, mDiv, mMod, mNeg, cDiv, mTup, mLst, dats, szOk, mCall, mAbs', gAbs, mChain, tAndM, tOrM, tNotM, mIfE, mAndV, mOrV, mNotV, mApp, mAug, gNm, gTp, gCons', gNil', mAsg, mAsgL, mFor, iR1, iR2, bnd62, mDrop, mCatS, mCatT, mCatL, mSlT, mSlL, oNone, oSome, mIsi, isiD, mIsN, mNotN, Tl.isNon, mIntOf, gIntB, mMax', mMin', gMax2, gMin2, mEqD, mNeD, mIn, mNi, inF, eqF, mSlS, mIxS, mRaise1, mRaise2, mDefX, outX, okX, callX, mSetX, mExprX, mRetX, mTry, endT, dropX, mExF, mExI, mRevL, mRepL, mStr, gStr, mZf, mRepS, uSeq, uIf, uSet, uSetI, uRet, uRetU, uSkip, callU, mDefU, startU, outU, mSetU, mList, mBand, mBor, mDixV, asDic, iZT, iEnT, mDix, mDixV, mRepT, mDsp, dCons, dNil, mDict, vCons, vNil, scD, dSet, dEnd, putD, mDm, gDm, mTupOf, iN, iV, iT, frzV, mSetTX, mCallE, mRaise0, mMulW, mInL, mCall0, mRepT2, mDgt, hz, hz', atI_last4]), e]
    simp [lsT, lrT]
theorem beyond_ok (x lo hi : Int) (h : lo ≤ x ∧ x ≤ hi) : m_refuse_beyond [.dat (.int x), .dat (.int lo), .dat (.int hi)] = some (.ok (.dat .non)) := by
  refine v_defX rfl ?_
  simp [b_refuse_beyond, mDef, okP_iff, okP_iffF, okP_T, okP_F, startC, argC, argN, outR, mSeq, mIf, mT, mLt, mLe, mGt, mGe, mII, cT, mVar, mC, mLen, aCons, aNil, gLen, asInt, asBl, asDat, asStr, asTup, asLst, asTrk, mRet, retR, mRetV, mSet, setR, mIxL, mIxT, mSkip, mEqS, mNeS, eqS, mMul, mAdd, mSub, mDiv, mMod, mPow, mNeg, cMul, cDiv, cMod, cPow, mTup, mLst, dats, szOk, mCall, mAbs', gAbs, mChain, tAndM, tOrM, tNotM, mIfE, mAndV, mOrV, mNotV, mApp, mAug, gNm, gTp, gCons', gNil', mAsg, mAsgL, mFor, iR1, iR2, bnd62, mDrop, mCatS, mCatT, mCatL, mSlT, mSlL, oNone, oSome, mIsi, isiD, mIsN, mNotN, Tl.isNon, mIntOf, gIntB, mMax', mMin', gMax2, gMin2, mEqD, mNeD, mIn, mNi, inF, eqF, mSlS, mIxS, mRaise1, mRaise2, mDefX, outX, okX, callX, mSetX, mExprX, mRetX, mTry, endT, dropX, mExF, mExI, mRevL, mRepL, mStr, gStr, mZf, mRepS, uSeq, uIf, uSet, uSetI, uRet, uRetU, uSkip, callU, mDefU, startU, outU, mSetU, mList, mBand, mBor, mDixV, asDic, iZT, iEnT, mDix, mDixV, mRepT, mDsp, dCons, dNil, mDict, vCons, vNil, scD, dSet, dEnd, putD, mDm, gDm, mTupOf, iN, iV, iT, frzV, mSetTX, mCallE, mRaise0, mMulW, mInL, mCall0, mRepT2, mDgt, h.1, h.2]
theorem str_ok (n : Nat) (hn : n < 10 ^ 60) (ρ : Rho) (h : ρ[0]? = some (.dat (.int n))) : iS (mStr (mVar 0)) ρ = some ((numL n).map (fun c => .str ⟨#[c]⟩), ρ) := by
  have hl : okP ((n : Int).natAbs.log2 < 1920) = true := okP_t (log_small hn)
  simp only [iS, mStr, aCons, aNil, mVar, h, Option.bind_some, Option.map_some, gStr, hl, if_true, asStr, num_S]
  rfl
theorem numL_short : ∀ (f n : Nat), n < 10 ^ (f + 1) → (numL n).length ≤ f + 1
  | 0, n, h => by
    have : (10 : Nat) ^ (0 + 1) = 10 := rfl
    rw [numL_lt (by omega)]
    simp
  | f + 1, n, h => by
    by_cases q : n < 10
    · rw [numL_lt q]; simp
    · have e10 : (10 : Nat) ^ (f + 1 + 1) = 10 * 10 ^ (f + 1) := by rw [Nat.pow_succ, Nat.mul_comm]
      have := numL_short f (n / 10) (by omega)
      rw [numL_step (n := n) (by omega), List.length_append]
      simp
      omega
theorem p12 : (10 : Int) ^ 12 = 1000000000000 := by decide
theorem n12 {n : Nat} (h : n < 1000000000000) : n < 10 ^ 60 := Nat.lt_trans h (by decide)
theorem tries_ok (n : Nat) (o : Int) (hn : n < 1000000000000) (ho : 1 ≤ o ∧ o < 1000000000000) : m_tries [.dat (.int n), .dat (.int o)] = some (.ok (.dat (.tup (lsT o (numL n) 0)))) := by
  have tt := ten_ok 12 (by decide)
  have e12 : ((12 : Nat) : Int) = 12 := rfl
  rw [p12, e12] at tt
  have b1 := beyond_ok n 0 (1000000000000 - 1) (by omega)
  have b2 := beyond_ok o 1 (1000000000000 - 1) (by omega)
  generalize (1000000000000 : Int) = W at tt b1 b2
  have nl := numL_short 11 n hn
  obtain ⟨x', y', e⟩ := loop_tries (.dat (.int n)) (.dat (.int (W - 1))) o (numL n) 0 [] .un .un (fun c hc => numL_digits n c hc) (by simp; omega)
  rw [List.nil_append] at e
  refine v_outX rfl ?_
  unfold b_tries
  refine v_seq (ρ' := [.dat (.int n), .dat (.int o), .un, .un, .un, .un, .un]) (by simp [mDef, okP_iff, okP_iffF, okP_T, okP_F, startC, argC, argN, outR, mSeq, mIf, mT, mLt, mLe, mGt, mGe, mII, cT, mVar, mC, mLen, aCons, aNil, gLen, asInt, asBl, asDat, asStr, asTup, asLst, asTrk, mRet, retR, mRetV, mSet, setR, mIxL, mIxT, mSkip, mEqS, mNeS, eqS, mMul, mAdd, mSub, mDiv, mMod, mPow, mNeg, cMul, cDiv, cMod, cPow, mTup, mLst, dats, szOk, mCall, mAbs', gAbs, mChain, tAndM, tOrM, tNotM, mIfE, mAndV, mOrV, mNotV, mApp, mAug, gNm, gTp, gCons', gNil', mAsg, mAsgL, mFor, iR1, iR2, bnd62, mDrop, mCatS, mCatT, mCatL, mSlT, mSlL, oNone, oSome, mIsi, isiD, mIsN, mNotN, Tl.isNon, mIntOf, gIntB, mMax', mMin', gMax2, gMin2, mEqD, mNeD, mIn, mNi, inF, eqF, mSlS, mIxS, mRaise1, mRaise2, mDefX, outX, okX, callX, mSetX, mExprX, mRetX, mTry, endT, dropX, mExF, mExI, mRevL, mRepL, mStr, gStr, mZf, mRepS, uSeq, uIf, uSet, uSetI, uRet, uRetU, uSkip, callU, mDefU, startU, outU, mSetU, mList, mBand, mBor, mDixV, asDic, iZT, iEnT, mDix, mDixV, mRepT, mDsp, dCons, dNil, mDict, vCons, vNil, scD, dSet, dEnd, putD, mDm, gDm, mTupOf, iN, iV, iT, frzV, mSetTX, mCallE, mRaise0, mMulW, mInL, mCall0, mRepT2, mDgt, show ¬ o = 0 by omega]) ?_
  refine v_seq (ρ' := [.dat (.int n), .dat (.int o), .dat (.int (W - 1)), .un, .un, .un, .un]) (by simp [mDef, okP_iff, okP_iffF, okP_T, okP_F, startC, argC, argN, outR, mSeq, mIf, mT, mLt, mLe, mGt, mGe, mII, cT, mVar, mC, mLen, aCons, aNil, gLen, asInt, asBl, asDat, asStr, asTup, asLst, asTrk, mRet, retR, mRetV, mSet, setR, mIxL, mIxT, mSkip, mEqS, mNeS, eqS, mMul, mAdd, mSub, mDiv, mMod, mPow, mNeg, cMul, cDiv, cMod, cPow, mTup, mLst, dats, szOk, mCall, mAbs', gAbs, mChain, tAndM, tOrM, tNotM, mIfE, mAndV, mOrV, mNotV, mApp, mAug, gNm, gTp, gCons', gNil', mAsg, mAsgL, mFor, iR1, iR2, bnd62, mDrop, mCatS, mCatT, mCatL, mSlT, mSlL, oNone, oSome, mIsi, isiD, mIsN, mNotN, Tl.isNon, mIntOf, gIntB, mMax', mMin', gMax2, gMin2, mEqD, mNeD, mIn, mNi, inF, eqF, mSlS, mIxS, mRaise1, mRaise2, mDefX, outX, okX, callX, mSetX, mExprX, mRetX, mTry, endT, dropX, mExF, mExI, mRevL, mRepL, mStr, gStr, mZf, mRepS, uSeq, uIf, uSet, uSetI, uRet, uRetU, uSkip, callU, mDefU, startU, outU, mSetU, mList, mBand, mBor, mDixV, asDic, iZT, iEnT, mDix, mDixV, mRepT, mDsp, dCons, dNil, mDict, vCons, vNil, scD, dSet, dEnd, putD, mDm, gDm, mTupOf, iN, iV, iT, frzV, mSetTX, mCallE, mRaise0, mMulW, mInL, mCall0, mRepT2, mDgt, tt]) ?_
  refine v_seq (ρ' := [.dat (.int n), .dat (.int o), .dat (.int (W - 1)), .un, .un, .un, .un]) (by simp [mDef, okP_iff, okP_iffF, okP_T, okP_F, startC, argC, argN, outR, mSeq, mIf, mT, mLt, mLe, mGt, mGe, mII, cT, mVar, mC, mLen, aCons, aNil, gLen, asInt, asBl, asDat, asStr, asTup, asLst, asTrk, mRet, retR, mRetV, mSet, setR, mIxL, mIxT, mSkip, mEqS, mNeS, eqS, mMul, mAdd, mSub, mDiv, mMod, mPow, mNeg, cMul, cDiv, cMod, cPow, mTup, mLst, dats, szOk, mCall, mAbs', gAbs, mChain, tAndM, tOrM, tNotM, mIfE, mAndV, mOrV, mNotV, mApp, mAug, gNm, gTp, gCons', gNil', mAsg, mAsgL, mFor, iR1, iR2, bnd62, mDrop, mCatS, mCatT, mCatL, mSlT, mSlL, oNone, oSome, mIsi, isiD, mIsN, mNotN, Tl.isNon, mIntOf, gIntB, mMax', mMin', gMax2, gMin2, mEqD, mNeD, mIn, mNi, inF, eqF, mSlS, mIxS, mRaise1, mRaise2, mDefX, outX, okX, callX, mSetX, mExprX, mRetX, mTry, endT, dropX, mExF, mExI, mRevL, mRepL, mStr, gStr, mZf, mRepS, uSeq, uIf, uSet, uSetI, uRet, uRetU, uSkip, callU, mDefU, startU, outU, mSetU, mList, mBand, mBor, mDixV, asDic, iZT, iEnT, mDix, mDixV, mRepT, mDsp, dCons, dNil, mDict, vCons, vNil, scD, dSet, dEnd, putD, mDm, gDm, mTupOf, iN, iV, iT, frzV, mSetTX, mCallE, mRaise0, mMulW, mInL, mCall0, mRepT2, mDgt, b1]) ?_
  refine v_seq (ρ' := [.dat (.int n), .dat (.int o), .dat (.int (W - 1)), .un, .un, .un, .un]) (by simp [mDef, okP_iff, okP_iffF, okP_T, okP_F, startC, argC, argN, outR, mSeq, mIf, mT, mLt, mLe, mGt, mGe, mII, cT, mVar, mC, mLen, aCons, aNil, gLen, asInt, asBl, asDat, asStr, asTup, asLst, asTrk, mRet, retR, mRetV, mSet, setR, mIxL, mIxT, mSkip, mEqS, mNeS, eqS, mMul, mAdd, mSub, mDiv, mMod, mPow, mNeg, cMul, cDiv, cMod, cPow, mTup, mLst, dats, szOk, mCall, mAbs', gAbs, mChain, tAndM, tOrM, tNotM, mIfE, mAndV, mOrV, mNotV, mApp, mAug, gNm, gTp, gCons', gNil', mAsg, mAsgL, mFor, iR1, iR2, bnd62, mDrop, mCatS, mCatT, mCatL, mSlT, mSlL, oNone, oSome, mIsi, isiD, mIsN, mNotN, Tl.isNon, mIntOf, gIntB, mMax', mMin', gMax2, gMin2, mEqD, mNeD, mIn, mNi, inF, eqF, mSlS, mIxS, mRaise1, mRaise2, mDefX, outX, okX, callX, mSetX, mExprX, mRetX, mTry, endT, dropX, mExF, mExI, mRevL, mRepL, mStr, gStr, mZf, mRepS, uSeq, uIf, uSet, uSetI, uRet, uRetU, uSkip, callU, mDefU, startU, outU, mSetU, mList, mBand, mBor, mDixV, asDic, iZT, iEnT, mDix, mDixV, mRepT, mDsp, dCons, dNil, mDict, vCons, vNil, scD, dSet, dEnd, putD, mDm, gDm, mTupOf, iN, iV, iT, frzV, mSetTX, mCallE, mRaise0, mMulW, mInL, mCall0, mRepT2, mDgt, b2]) ?_
  refine v_seq (ρ' := [.dat (.int n), .dat (.int o), .dat (.int (W - 1)), .own [], .un, .un, .un]) (by simp [mDef, okP_iff, okP_iffF, okP_T, okP_F, startC, argC, argN, outR, mSeq, mIf, mT, mLt, mLe, mGt, mGe, mII, cT, mVar, mC, mLen, aCons, aNil, gLen, asInt, asBl, asDat, asStr, asTup, asLst, asTrk, mRet, retR, mRetV, mSet, setR, mIxL, mIxT, mSkip, mEqS, mNeS, eqS, mMul, mAdd, mSub, mDiv, mMod, mPow, mNeg, cMul, cDiv, cMod, cPow, mTup, mLst, dats, szOk, mCall, mAbs', gAbs, mChain, tAndM, tOrM, tNotM, mIfE, mAndV, mOrV, mNotV, mApp, mAug, gNm, gTp, gCons', gNil', mAsg, mAsgL, mFor, iR1, iR2, bnd62, mDrop, mCatS, mCatT, mCatL, mSlT, mSlL, oNone, oSome, mIsi, isiD, mIsN, mNotN, Tl.isNon, mIntOf, gIntB, mMax', mMin', gMax2, gMin2, mEqD, mNeD, mIn, mNi, inF, eqF, mSlS, mIxS, mRaise1, mRaise2, mDefX, outX, okX, callX, mSetX, mExprX, mRetX, mTry, endT, dropX, mExF, mExI, mRevL, mRepL, mStr, gStr, mZf, mRepS, uSeq, uIf, uSet, uSetI, uRet, uRetU, uSkip, callU, mDefU, startU, outU, mSetU, mList, mBand, mBor, mDixV, asDic, iZT, iEnT, mDix, mDixV, mRepT, mDsp, dCons, dNil, mDict, vCons, vNil, scD, dSet, dEnd, putD, mDm, gDm, mTupOf, iN, iV, iT, frzV, mSetTX, mCallE, mRaise0, mMulW, mInL, mCall0, mRepT2, mDgt]) ?_
  refine v_seq (ρ' := [.dat (.int n), .dat (.int o), .dat (.int (W - 1)), .own [], .dat (.int 0), .un, .un]) (by simp [mDef, okP_iff, okP_iffF, okP_T, okP_F, startC, argC, argN, outR, mSeq, mIf, mT, mLt, mLe, mGt, mGe, mII, cT, mVar, mC, mLen, aCons, aNil, gLen, asInt, asBl, asDat, asStr, asTup, asLst, asTrk, mRet, retR, mRetV, mSet, setR, mIxL, mIxT, mSkip, mEqS, mNeS, eqS, mMul, mAdd, mSub, mDiv, mMod, mPow, mNeg, cMul, cDiv, cMod, cPow, mTup, mLst, dats, szOk, mCall, mAbs', gAbs, mChain, tAndM, tOrM, tNotM, mIfE, mAndV, mOrV, mNotV, mApp, mAug, gNm, gTp, gCons', gNil', mAsg, mAsgL, mFor, iR1, iR2, bnd62, mDrop, mCatS, mCatT, mCatL, mSlT, mSlL, oNone, oSome, mIsi, isiD, mIsN, mNotN, Tl.isNon, mIntOf, gIntB, mMax', mMin', gMax2, gMin2, mEqD, mNeD, mIn, mNi, inF, eqF, mSlS, mIxS, mRaise1, mRaise2, mDefX, outX, okX, callX, mSetX, mExprX, mRetX, mTry, endT, dropX, mExF, mExI, mRevL, mRepL, mStr, gStr, mZf, mRepS, uSeq, uIf, uSet, uSetI, uRet, uRetU, uSkip, callU, mDefU, startU, outU, mSetU, mList, mBand, mBor, mDixV, asDic, iZT, iEnT, mDix, mDixV, mRepT, mDsp, dCons, dNil, mDict, vCons, vNil, scD, dSet, dEnd, putD, mDm, gDm, mTupOf, iN, iV, iT, frzV, mSetTX, mCallE, mRaise0, mMulW, mInL, mCall0, mRepT2, mDgt]) ?_
  refine v_seq (v_for (str_ok n (n12 hn) _ rfl) e) ?_
  simp [mDef, okP_iff, okP_iffF, okP_T, okP_F, startC, argC, argN, outR, mSeq, mIf, mT, mLt, mLe, mGt, mGe, mII, cT, mVar, mC, mLen, aCons, aNil, gLen, asInt, asBl, asDat, asStr, asTup, asLst, asTrk, mRet, retR, mRetV, mSet, setR, mIxL, mIxT, mSkip, mEqS, mNeS, eqS, mMul, mAdd, mSub, mDiv, mMod, mPow, mNeg, cMul, cDiv, cMod, cPow, mTup, mLst, dats, szOk, mCall, mAbs', gAbs, mChain, tAndM, tOrM, tNotM, mIfE, mAndV, mOrV, mNotV, mApp, mAug, gNm, gTp, gCons', gNil', mAsg, mAsgL, mFor, iR1, iR2, bnd62, mDrop, mCatS, mCatT, mCatL, mSlT, mSlL, oNone, oSome, mIsi, isiD, mIsN, mNotN, Tl.isNon, mIntOf, gIntB, mMax', mMin', gMax2, gMin2, mEqD, mNeD, mIn, mNi, inF, eqF, mSlS, mIxS, mRaise1, mRaise2, mDefX, outX, okX, callX, mSetX, mExprX, mRetX, mTry, endT, dropX, mExF, mExI, mRevL, mRepL, mStr, gStr, mZf, mRepS, uSeq, uIf, uSet, uSetI, uRet, uRetU, uSkip, callU, mDefU, startU, outU, mSetU, mList, mBand, mBor, mDixV, asDic, iZT, iEnT, mDix, mDixV, mRepT, mDsp, dCons, dNil, mDict, vCons, vNil, scD, dSet, dEnd, putD, mDm, gDm, mTupOf, iN, iV, iT, frzV, mSetTX, mCallE, mRaise0, mMulW, mInL, mCall0, mRepT2, mDgt]
theorem loop_fourL (s0 s2 s4 s5 : C) (o : Int) : ∀ (ts : List Int) (a : List D × Int × Int) (x y : C), (∀ t ∈ ts, 0 < t ∧ t < 10) → a.1.length + ts.length ≤ 1000 → ∃ x' y', loopM (gNm 8) f__law_tries_1 (ts.map .int) [s0, .dat (.int o), s2, .dat (.int a.2.2), s4, s5, .dat (.int a.2.1), .own a.1, x, y] = some (.nx [s0, .dat (.int o), s2, .dat (.int (ftT o a ts).2.2), s4, s5, .dat (.int (ftT o a ts).2.1), .own (ftT o a ts).1, x', y'])
  | [], a, x, y, _, _ => ⟨x, y, rfl⟩
  | t :: ts, a, x, y, h, hl => by
    have ht := h t (by simp)
    simp only [List.length_cons] at hl
    have cm : cMul t o = true := okP_t (.inl (by omega))
    obtain ⟨x', y', e⟩ := loop_fourL s0 s2 s4 s5 o ts (stT o a t) (.dat (.int t)) (.dat (.bl (okP (t * o ≤ a.2.2)))) (fun u hu => h u (by simp [hu])) (by rw [st_len]; omega)
    refine ⟨x', y', ?_⟩
    have hz : a.1.length + 1 ≤ 100000 := by omega
    have hz' : a.1.length ≤ 99999 := by omega
    rw [List.map_cons, loop_nx (ρ1 := [s0, .dat (.int o), s2, .dat (.int a.2.2), s4, s5, .dat (.int a.2.1), .own a.1, .dat (.int t), y]) (ρ2 := [s0, .dat (.int o), s2, .dat (.int (stT o a t).2.2), s4, s5, .dat (.int (stT o a t).2.1), .own (stT o a t).1, .dat (.int t), .dat (.bl (okP (t * o ≤ a.2.2)))]) rfl (by
      unfold stT
      by_cases q : t * o ≤ a.2.2
      · simp [f__law_tries_1, mDef, okP_iff, okP_iffF, okP_T, okP_F, startC, argC, argN, outR, mSeq, mIf, mT, mLt, mLe, mGt, mGe, mII, cT, mVar, mC, mLen, aCons, aNil, gLen, asInt, asBl, asDat, asStr, asTup, asLst, asTrk, mRet, retR, mRetV, mSet, setR, mIxL, mIxT, mSkip, mEqS, mNeS, eqS, mMul, mAdd, mSub, mDiv, mMod, mNeg, cDiv, mTup, mLst, dats, szOk, mCall, mAbs', gAbs, mChain, tAndM, tOrM, tNotM, mIfE, mAndV, mOrV, mNotV, mApp, mAug, gNm, gTp, gCons', gNil', mAsg, mAsgL, mFor, iR1, iR2, bnd62, mDrop, mCatS, mCatT, mCatL, mSlT, mSlL, oNone, oSome, mIsi, isiD, mIsN, mNotN, Tl.isNon, mIntOf, gIntB, mMax', mMin', gMax2, gMin2, mEqD, mNeD, mIn, mNi, inF, eqF, mSlS, mIxS, mRaise1, mRaise2, mDefX, outX, okX, callX, mSetX, mExprX, mRetX, mTry, endT, dropX, mExF, mExI, mRevL, mRepL, mStr, gStr, mZf, mRepS, uSeq, uIf, uSet, uSetI, uRet, uRetU, uSkip, callU, mDefU, startU, outU, mSetU, mList, mBand, mBor, mDixV, asDic, iZT, iEnT, mDix, mDixV, mRepT, mDsp, dCons, dNil, mDict, vCons, vNil, scD, dSet, dEnd, putD, mDm, gDm, mTupOf, iN, iV, iT, frzV, mSetTX, mCallE, mRaise0, mMulW, mInL, mCall0, mRepT2, mDgt, cm, hz, hz', q]
      · simp [f__law_tries_1, mDef, okP_iff, okP_iffF, okP_T, okP_F, startC, argC, argN, outR, mSeq, mIf, mT, mLt, mLe, mGt, mGe, mII, cT, mVar, mC, mLen, aCons, aNil, gLen, asInt, asBl, asDat, asStr, asTup, asLst, asTrk, mRet, retR, mRetV, mSet, setR, mIxL, mIxT, mSkip, mEqS, mNeS, eqS, mMul, mAdd, mSub, mDiv, mMod, mNeg, cDiv, mTup, mLst, dats, szOk, mCall, mAbs', gAbs, mChain, tAndM, tOrM, tNotM, mIfE, mAndV, mOrV, mNotV, mApp, mAug, gNm, gTp, gCons', gNil', mAsg, mAsgL, mFor, iR1, iR2, bnd62, mDrop, mCatS, mCatT, mCatL, mSlT, mSlL, oNone, oSome, mIsi, isiD, mIsN, mNotN, Tl.isNon, mIntOf, gIntB, mMax', mMin', gMax2, gMin2, mEqD, mNeD, mIn, mNi, inF, eqF, mSlS, mIxS, mRaise1, mRaise2, mDefX, outX, okX, callX, mSetX, mExprX, mRetX, mTry, endT, dropX, mExF, mExI, mRevL, mRepL, mStr, gStr, mZf, mRepS, uSeq, uIf, uSet, uSetI, uRet, uRetU, uSkip, callU, mDefU, startU, outU, mSetU, mList, mBand, mBor, mDixV, asDic, iZT, iEnT, mDix, mDixV, mRepT, mDsp, dCons, dNil, mDict, vCons, vNil, scD, dSet, dEnd, putD, mDm, gDm, mTupOf, iN, iV, iT, frzV, mSetTX, mCallE, mRaise0, mMulW, mInL, mCall0, mRepT2, mDgt, cm, hz, hz', q]), e]
    rfl
theorem loop_triesL (s0 : C) (o : Int) : ∀ (cs : List Nat) (left : Int) (acc : List D) (x4 x5 x6 x7 x8 x9 : C), (∀ c ∈ cs, 48 ≤ c ∧ c ≤ 57) → acc.length + cs.length ≤ 1000 → ∃ y4 y5 y6 y7 y8 y9, loopM (gNm 4) f__law_tries_2 (cs.map fun c => .str ⟨#[c]⟩) [s0, .dat (.int o), .own acc, .dat (.int left), x4, x5, x6, x7, x8, x9] = some (.nx [s0, .dat (.int o), .own (acc ++ lsT o cs left), .dat (.int (lrT o cs left)), y4, y5, y6, y7, y8, y9])
  | [], left, acc, x4, x5, x6, x7, x8, x9, _, _ => ⟨x4, x5, x6, x7, x8, x9, by simp [loopM, lsT, lrT]⟩
  | c :: cs, left, acc, x4, x5, x6, x7, x8, x9, h, hl => by
    have hc := h c (by simp)
    simp only [List.length_cons] at hl
    have t1 := dig_int hc
    have hz : acc.length + 1 ≤ 100000 := by omega
    have hz' : acc.length ≤ 99999 := by omega
    have dl := dig_len c
    have cm := cm10 left
    have ei : mIntS (mVar 4) [s0, .dat (.int o), .own acc, .dat (.int left), .dat (.str ⟨#[c]⟩), x5, x6, x7, x8, x9] = some (.dat (.int ((c : Int) - 48))) := by simp only [mIntS, mVar, List.getElem?_cons_succ, List.getElem?_cons_zero, asStr, Option.bind_some, dl, if_true, t1, Option.map_some]
    generalize hA : 10 * left + ((c : Int) - 48) = ahead
    obtain ⟨z8, z9, e4⟩ := loop_fourL s0 (.own acc) (.dat (.str ⟨#[c]⟩)) (.dat (.int ahead)) o [8, 4, 2, 1] ([], 0, ahead) x8 x9 (by intro t ht; simp only [List.mem_cons, List.not_mem_nil, or_false] at ht; rcases ht with rfl | rfl | rfl | rfl <;> decide) (by simp)
    obtain ⟨y4, y5, y6, y7, y8, y9, e⟩ := loop_triesL s0 o cs (lfT o ahead) (acc ++ [lnT o ahead]) (.dat (.str ⟨#[c]⟩)) (.dat (.int ahead)) (.dat (.int (ftT o ([], 0, ahead) [8, 4, 2, 1]).2.1)) (.own (ftT o ([], 0, ahead) [8, 4, 2, 1]).1) z8 z9 (fun u hu => h u (by simp [hu])) (by simp; omega)
    refine ⟨y4, y5, y6, y7, y8, y9, ?_⟩
    rw [List.map_cons, loop_nx (ρ1 := [s0, .dat (.int o), .own acc, .dat (.int left), .dat (.str ⟨#[c]⟩), x5, x6, x7, x8, x9]) (ρ2 := [s0, .dat (.int o), .own (acc ++ [lnT o ahead]), .dat (.int (lfT o ahead)), .dat (.str ⟨#[c]⟩), .dat (.int ahead), .dat (.int (ftT o ([], 0, ahead) [8, 4, 2, 1]).2.1), .own (ftT o ([], 0, ahead) [8, 4, 2, 1]).1, z8, z9]) rfl (by
      unfold f__law_tries_2
      refine v_seq (ρ' := [s0, .dat (.int o), .own acc, .dat (.int left), .dat (.str ⟨#[c]⟩), .dat (.int ahead), x6, x7, x8, x9]) (by simp [mDef, okP_iff, okP_iffF, okP_T, okP_F, startC, argC, argN, outR, mSeq, mIf, mT, mLt, mLe, mGt, mGe, mII, cT, mVar, mC, mLen, aCons, aNil, gLen, asInt, asBl, asDat, asStr, asTup, asLst, asTrk, mRet, retR, mRetV, mSet, setR, mIxL, mIxT, mSkip, mEqS, mNeS, eqS, mMul, mAdd, mSub, mDiv, mMod, mNeg, cDiv, mTup, mLst, dats, szOk, mCall, mAbs', gAbs, mChain, tAndM, tOrM, tNotM, mIfE, mAndV, mOrV, mNotV, mApp, mAug, gNm, gTp, gCons', gNil', mAsg, mAsgL, mFor, iR1, iR2, bnd62, mDrop, mCatS, mCatT, mCatL, mSlT, mSlL, oNone, oSome, mIsi, isiD, mIsN, mNotN, Tl.isNon, mIntOf, gIntB, mMax', mMin', gMax2, gMin2, mEqD, mNeD, mIn, mNi, inF, eqF, mSlS, mIxS, mRaise1, mRaise2, mDefX, outX, okX, callX, mSetX, mExprX, mRetX, mTry, endT, dropX, mExF, mExI, mRevL, mRepL, mStr, gStr, mZf, mRepS, uSeq, uIf, uSet, uSetI, uRet, uRetU, uSkip, callU, mDefU, startU, outU, mSetU, mList, mBand, mBor, mDixV, asDic, iZT, iEnT, mDix, mDixV, mRepT, mDsp, dCons, dNil, mDict, vCons, vNil, scD, dSet, dEnd, putD, mDm, gDm, mTupOf, iN, iV, iT, frzV, mSetTX, mCallE, mRaise0, mMulW, mInL, mCall0, mRepT2, mDgt, ei, cm, hA]) ?_
      refine v_seq (ρ' := [s0, .dat (.int o), .own acc, .dat (.int ahead), .dat (.str ⟨#[c]⟩), .dat (.int ahead), x6, x7, x8, x9]) (by simp [mDef, okP_iff, okP_iffF, okP_T, okP_F, startC, argC, argN, outR, mSeq, mIf, mT, mLt, mLe, mGt, mGe, mII, cT, mVar, mC, mLen, aCons, aNil, gLen, asInt, asBl, asDat, asStr, asTup, asLst, asTrk, mRet, retR, mRetV, mSet, setR, mIxL, mIxT, mSkip, mEqS, mNeS, eqS, mMul, mAdd, mSub, mDiv, mMod, mNeg, cDiv, mTup, mLst, dats, szOk, mCall, mAbs', gAbs, mChain, tAndM, tOrM, tNotM, mIfE, mAndV, mOrV, mNotV, mApp, mAug, gNm, gTp, gCons', gNil', mAsg, mAsgL, mFor, iR1, iR2, bnd62, mDrop, mCatS, mCatT, mCatL, mSlT, mSlL, oNone, oSome, mIsi, isiD, mIsN, mNotN, Tl.isNon, mIntOf, gIntB, mMax', mMin', gMax2, gMin2, mEqD, mNeD, mIn, mNi, inF, eqF, mSlS, mIxS, mRaise1, mRaise2, mDefX, outX, okX, callX, mSetX, mExprX, mRetX, mTry, endT, dropX, mExF, mExI, mRevL, mRepL, mStr, gStr, mZf, mRepS, uSeq, uIf, uSet, uSetI, uRet, uRetU, uSkip, callU, mDefU, startU, outU, mSetU, mList, mBand, mBor, mDixV, asDic, iZT, iEnT, mDix, mDixV, mRepT, mDsp, dCons, dNil, mDict, vCons, vNil, scD, dSet, dEnd, putD, mDm, gDm, mTupOf, iN, iV, iT, frzV, mSetTX, mCallE, mRaise0, mMulW, mInL, mCall0, mRepT2, mDgt]) ?_
      refine v_seq (ρ' := [s0, .dat (.int o), .own acc, .dat (.int ahead), .dat (.str ⟨#[c]⟩), .dat (.int ahead), .dat (.int 0), x7, x8, x9]) (by simp [mDef, okP_iff, okP_iffF, okP_T, okP_F, startC, argC, argN, outR, mSeq, mIf, mT, mLt, mLe, mGt, mGe, mII, cT, mVar, mC, mLen, aCons, aNil, gLen, asInt, asBl, asDat, asStr, asTup, asLst, asTrk, mRet, retR, mRetV, mSet, setR, mIxL, mIxT, mSkip, mEqS, mNeS, eqS, mMul, mAdd, mSub, mDiv, mMod, mNeg, cDiv, mTup, mLst, dats, szOk, mCall, mAbs', gAbs, mChain, tAndM, tOrM, tNotM, mIfE, mAndV, mOrV, mNotV, mApp, mAug, gNm, gTp, gCons', gNil', mAsg, mAsgL, mFor, iR1, iR2, bnd62, mDrop, mCatS, mCatT, mCatL, mSlT, mSlL, oNone, oSome, mIsi, isiD, mIsN, mNotN, Tl.isNon, mIntOf, gIntB, mMax', mMin', gMax2, gMin2, mEqD, mNeD, mIn, mNi, inF, eqF, mSlS, mIxS, mRaise1, mRaise2, mDefX, outX, okX, callX, mSetX, mExprX, mRetX, mTry, endT, dropX, mExF, mExI, mRevL, mRepL, mStr, gStr, mZf, mRepS, uSeq, uIf, uSet, uSetI, uRet, uRetU, uSkip, callU, mDefU, startU, outU, mSetU, mList, mBand, mBor, mDixV, asDic, iZT, iEnT, mDix, mDixV, mRepT, mDsp, dCons, dNil, mDict, vCons, vNil, scD, dSet, dEnd, putD, mDm, gDm, mTupOf, iN, iV, iT, frzV, mSetTX, mCallE, mRaise0, mMulW, mInL, mCall0, mRepT2, mDgt]) ?_
      refine v_seq (ρ' := [s0, .dat (.int o), .own acc, .dat (.int ahead), .dat (.str ⟨#[c]⟩), .dat (.int ahead), .dat (.int 0), .own [], x8, x9]) (by simp [mDef, okP_iff, okP_iffF, okP_T, okP_F, startC, argC, argN, outR, mSeq, mIf, mT, mLt, mLe, mGt, mGe, mII, cT, mVar, mC, mLen, aCons, aNil, gLen, asInt, asBl, asDat, asStr, asTup, asLst, asTrk, mRet, retR, mRetV, mSet, setR, mIxL, mIxT, mSkip, mEqS, mNeS, eqS, mMul, mAdd, mSub, mDiv, mMod, mNeg, cDiv, mTup, mLst, dats, szOk, mCall, mAbs', gAbs, mChain, tAndM, tOrM, tNotM, mIfE, mAndV, mOrV, mNotV, mApp, mAug, gNm, gTp, gCons', gNil', mAsg, mAsgL, mFor, iR1, iR2, bnd62, mDrop, mCatS, mCatT, mCatL, mSlT, mSlL, oNone, oSome, mIsi, isiD, mIsN, mNotN, Tl.isNon, mIntOf, gIntB, mMax', mMin', gMax2, gMin2, mEqD, mNeD, mIn, mNi, inF, eqF, mSlS, mIxS, mRaise1, mRaise2, mDefX, outX, okX, callX, mSetX, mExprX, mRetX, mTry, endT, dropX, mExF, mExI, mRevL, mRepL, mStr, gStr, mZf, mRepS, uSeq, uIf, uSet, uSetI, uRet, uRetU, uSkip, callU, mDefU, startU, outU, mSetU, mList, mBand, mBor, mDixV, asDic, iZT, iEnT, mDix, mDixV, mRepT, mDsp, dCons, dNil, mDict, vCons, vNil, scD, dSet, dEnd, putD, mDm, gDm, mTupOf, iN, iV, iT, frzV, mSetTX, mCallE, mRaise0, mMulW, mInL, mCall0, mRepT2, mDgt]) ?_
      refine v_seq (v_for (ds := [8, 4, 2, 1].map .int) (ρ' := [s0, .dat (.int o), .own acc, .dat (.int ahead), .dat (.str ⟨#[c]⟩), .dat (.int ahead), .dat (.int 0), .own [], x8, x9]) (by simp [mDef, okP_iff, okP_iffF, okP_T, okP_F, startC, argC, argN, outR, mSeq, mIf, mT, mLt, mLe, mGt, mGe, mII, cT, mVar, mC, mLen, aCons, aNil, gLen, asInt, asBl, asDat, asStr, asTup, asLst, asTrk, mRet, retR, mRetV, mSet, setR, mIxL, mIxT, mSkip, mEqS, mNeS, eqS, mMul, mAdd, mSub, mDiv, mMod, mNeg, cDiv, mTup, mLst, dats, szOk, mCall, mAbs', gAbs, mChain, tAndM, tOrM, tNotM, mIfE, mAndV, mOrV, mNotV, mApp, mAug, gNm, gTp, gCons', gNil', mAsg, mAsgL, mFor, iR1, iR2, bnd62, mDrop, mCatS, mCatT, mCatL, mSlT, mSlL, oNone, oSome, mIsi, isiD, mIsN, mNotN, Tl.isNon, mIntOf, gIntB, mMax', mMin', gMax2, gMin2, mEqD, mNeD, mIn, mNi, inF, eqF, mSlS, mIxS, mRaise1, mRaise2, mDefX, outX, okX, callX, mSetX, mExprX, mRetX, mTry, endT, dropX, mExF, mExI, mRevL, mRepL, mStr, gStr, mZf, mRepS, uSeq, uIf, uSet, uSetI, uRet, uRetU, uSkip, callU, mDefU, startU, outU, mSetU, mList, mBand, mBor, mDixV, asDic, iZT, iEnT, mDix, mDixV, mRepT, mDsp, dCons, dNil, mDict, vCons, vNil, scD, dSet, dEnd, putD, mDm, gDm, mTupOf, iN, iV, iT, frzV, mSetTX, mCallE, mRaise0, mMulW, mInL, mCall0, mRepT2, mDgt]) e4) ?_
      simp [mDef, okP_iff, okP_iffF, okP_T, okP_F, startC, argC, argN, outR, mSeq, mIf, mT, mLt, mLe, mGt, mGe, mII, cT, mVar, mC, mLen, aCons, aNil, gLen, asInt, asBl, asDat, asStr, asTup, asLst, asTrk, mRet, retR, mRetV, mSet, setR, mIxL, mIxT, mSkip, mEqS, mNeS, eqS, mMul, mAdd, mSub, mDiv, mMod, mNeg, cDiv, mTup, mLst, dats, szOk, mCall, mAbs', gAbs, mChain, tAndM, tOrM, tNotM, mIfE, mAndV, mOrV, mNotV, mApp, mAug, gNm, gTp, gCons', gNil', mAsg, mAsgL, mFor, iR1, iR2, bnd62, mDrop, mCatS, mCatT, mCatL, mSlT, mSlL, oNone, oSome, mIsi, isiD, mIsN, mNotN, Tl.isNon, mIntOf, gIntB, mMax', mMin', gMax2, gMin2, mEqD, mNeD, mIn, mNi, inF, eqF, mSlS, mIxS, mRaise1, mRaise2, mDefX, outX, okX, callX, mSetX, mExprX, mRetX, mTry, endT, dropX, mExF, mExI, mRevL, mRepL, mStr, gStr, mZf, mRepS, uSeq, uIf, uSet, uSetI, uRet, uRetU, uSkip, callU, mDefU, startU, outU, mSetU, mList, mBand, mBor, mDixV, asDic, iZT, iEnT, mDix, mDixV, mRepT, mDsp, dCons, dNil, mDict, vCons, vNil, scD, dSet, dEnd, putD, mDm, gDm, mTupOf, iN, iV, iT, frzV, mSetTX, mCallE, mRaise0, mMulW, mInL, mCall0, mRepT2, mDgt, hz, hz', lfT, lnT]), e]
    simp [lsT, lrT, hA]
theorem triesL_ok (n : Nat) (o : Int) (hn : n < 1000000000000) : m__law_tries [.dat (.int n), .dat (.int o)] = some (.dat (.tup (lsT o (numL n) 0))) := by
  have nl := numL_short 11 n hn
  obtain ⟨y4, y5, y6, y7, y8, y9, e⟩ := loop_triesL (.dat (.int n)) o (numL n) 0 [] .un .un .un .un .un .un (fun c hc => numL_digits n c hc) (by simp; omega)
  rw [List.nil_append] at e
  refine v_out rfl ?_
  unfold b__law_tries
  refine v_seq (ρ' := [.dat (.int n), .dat (.int o), .own [], .un, .un, .un, .un, .un, .un, .un]) (by simp [mDef, okP_iff, okP_iffF, okP_T, okP_F, startC, argC, argN, outR, mSeq, mIf, mT, mLt, mLe, mGt, mGe, mII, cT, mVar, mC, mLen, aCons, aNil, gLen, asInt, asBl, asDat, asStr, asTup, asLst, asTrk, mRet, retR, mRetV, mSet, setR, mIxL, mIxT, mSkip, mEqS, mNeS, eqS, mMul, mAdd, mSub, mDiv, mMod, mPow, mNeg, cMul, cDiv, cMod, cPow, mTup, mLst, dats, szOk, mCall, mAbs', gAbs, mChain, tAndM, tOrM, tNotM, mIfE, mAndV, mOrV, mNotV, mApp, mAug, gNm, gTp, gCons', gNil', mAsg, mAsgL, mFor, iR1, iR2, bnd62, mDrop, mCatS, mCatT, mCatL, mSlT, mSlL, oNone, oSome, mIsi, isiD, mIsN, mNotN, Tl.isNon, mIntOf, gIntB, mMax', mMin', gMax2, gMin2, mEqD, mNeD, mIn, mNi, inF, eqF, mSlS, mIxS, mRaise1, mRaise2, mDefX, outX, okX, callX, mSetX, mExprX, mRetX, mTry, endT, dropX, mExF, mExI, mRevL, mRepL, mStr, gStr, mZf, mRepS, uSeq, uIf, uSet, uSetI, uRet, uRetU, uSkip, callU, mDefU, startU, outU, mSetU, mList, mBand, mBor, mDixV, asDic, iZT, iEnT, mDix, mDixV, mRepT, mDsp, dCons, dNil, mDict, vCons, vNil, scD, dSet, dEnd, putD, mDm, gDm, mTupOf, iN, iV, iT, frzV, mSetTX, mCallE, mRaise0, mMulW, mInL, mCall0, mRepT2, mDgt]) ?_
  refine v_seq (ρ' := [.dat (.int n), .dat (.int o), .own [], .dat (.int 0), .un, .un, .un, .un, .un, .un]) (by simp [mDef, okP_iff, okP_iffF, okP_T, okP_F, startC, argC, argN, outR, mSeq, mIf, mT, mLt, mLe, mGt, mGe, mII, cT, mVar, mC, mLen, aCons, aNil, gLen, asInt, asBl, asDat, asStr, asTup, asLst, asTrk, mRet, retR, mRetV, mSet, setR, mIxL, mIxT, mSkip, mEqS, mNeS, eqS, mMul, mAdd, mSub, mDiv, mMod, mPow, mNeg, cMul, cDiv, cMod, cPow, mTup, mLst, dats, szOk, mCall, mAbs', gAbs, mChain, tAndM, tOrM, tNotM, mIfE, mAndV, mOrV, mNotV, mApp, mAug, gNm, gTp, gCons', gNil', mAsg, mAsgL, mFor, iR1, iR2, bnd62, mDrop, mCatS, mCatT, mCatL, mSlT, mSlL, oNone, oSome, mIsi, isiD, mIsN, mNotN, Tl.isNon, mIntOf, gIntB, mMax', mMin', gMax2, gMin2, mEqD, mNeD, mIn, mNi, inF, eqF, mSlS, mIxS, mRaise1, mRaise2, mDefX, outX, okX, callX, mSetX, mExprX, mRetX, mTry, endT, dropX, mExF, mExI, mRevL, mRepL, mStr, gStr, mZf, mRepS, uSeq, uIf, uSet, uSetI, uRet, uRetU, uSkip, callU, mDefU, startU, outU, mSetU, mList, mBand, mBor, mDixV, asDic, iZT, iEnT, mDix, mDixV, mRepT, mDsp, dCons, dNil, mDict, vCons, vNil, scD, dSet, dEnd, putD, mDm, gDm, mTupOf, iN, iV, iT, frzV, mSetTX, mCallE, mRaise0, mMulW, mInL, mCall0, mRepT2, mDgt]) ?_
  refine v_seq (v_for (str_ok n (n12 hn) _ rfl) e) ?_
  simp [mDef, okP_iff, okP_iffF, okP_T, okP_F, startC, argC, argN, outR, mSeq, mIf, mT, mLt, mLe, mGt, mGe, mII, cT, mVar, mC, mLen, aCons, aNil, gLen, asInt, asBl, asDat, asStr, asTup, asLst, asTrk, mRet, retR, mRetV, mSet, setR, mIxL, mIxT, mSkip, mEqS, mNeS, eqS, mMul, mAdd, mSub, mDiv, mMod, mPow, mNeg, cMul, cDiv, cMod, cPow, mTup, mLst, dats, szOk, mCall, mAbs', gAbs, mChain, tAndM, tOrM, tNotM, mIfE, mAndV, mOrV, mNotV, mApp, mAug, gNm, gTp, gCons', gNil', mAsg, mAsgL, mFor, iR1, iR2, bnd62, mDrop, mCatS, mCatT, mCatL, mSlT, mSlL, oNone, oSome, mIsi, isiD, mIsN, mNotN, Tl.isNon, mIntOf, gIntB, mMax', mMin', gMax2, gMin2, mEqD, mNeD, mIn, mNi, inF, eqF, mSlS, mIxS, mRaise1, mRaise2, mDefX, outX, okX, callX, mSetX, mExprX, mRetX, mTry, endT, dropX, mExF, mExI, mRevL, mRepL, mStr, gStr, mZf, mRepS, uSeq, uIf, uSet, uSetI, uRet, uRetU, uSkip, callU, mDefU, startU, outU, mSetU, mList, mBand, mBor, mDixV, asDic, iZT, iEnT, mDix, mDixV, mRepT, mDsp, dCons, dNil, mDict, vCons, vNil, scD, dSet, dEnd, putD, mDm, gDm, mTupOf, iN, iV, iT, frzV, mSetTX, mCallE, mRaise0, mMulW, mInL, mCall0, mRepT2, mDgt]
theorem pw12 {n : Nat} (h : n ≤ 12) : (10 : Int) ^ n ≤ 1000000000000 := by
  have e : n = 0 ∨ n = 1 ∨ n = 2 ∨ n = 3 ∨ n = 4 ∨ n = 5 ∨ n = 6 ∨ n = 7 ∨ n = 8 ∨ n = 9 ∨ n = 10 ∨ n = 11 ∨ n = 12 := by omega
  rcases e with rfl | rfl | rfl | rfl | rfl | rfl | rfl | rfl | rfl | rfl | rfl | rfl | rfl <;> decide
theorem swhole_ok (way far : Int) (n : Nat) (h1 : 1 ≤ n) (h2 : n ≤ 100) (hw : 0 ≤ way) (hf : 0 ≤ far) : ∃ x, (0 ≤ x ∧ x < 10 ^ n) ∧ m__law_some_whole [.dat (.int way), .dat (.int far), .dat (.int n)] = some (.dat (.int x)) := by
  have f0 := Int.emod_nonneg far (b := (n : Int)) (by omega)
  have f1 := Int.emod_lt_of_pos far (b := (n : Int)) (by omega)
  obtain ⟨k, hk⟩ : ∃ k : Nat, far % (n : Int) = (k : Int) := ⟨(far % (n : Int)).toNat, by omega⟩
  have t1 := pow_ok n (by omega)
  have t2 := pow_ok k (by omega)
  have p0 := pw_pos n
  generalize (10 : Int) ^ n = W at *
  generalize (10 : Int) ^ k = s at *
  have mr : ∀ v : Int, 0 ≤ v % W ∧ v % W < W := fun v => ⟨Int.emod_nonneg _ (by omega), Int.emod_lt_of_pos _ p0⟩
  have cm : ∀ (a b : Int), (-(2 ^ 64) < a ∧ a < 2 ^ 64) → cMul a b = true := fun a b h => okP_t (.inl h)
  have cW : ∀ v, cMod v W = true := fun v => okP_t p0
  have cn : cMod far (n : Int) = true := okP_t (by omega)
  by_cases h8 : way < 8
  · obtain ⟨v, hv⟩ := atI_ints (ns := [0, W - 1, 5 * s, s, s - 1, W - s, W / 2, 9 * s + 1]) (i := way) hw (by simp; omega)
    simp only [List.map_cons, List.map_nil] at hv
    refine ⟨v % W, mr v, ?_⟩
    refine v_def rfl ?_
    simp [b__law_some_whole, mDef, okP_iff, okP_iffF, okP_T, okP_F, startC, argC, argN, outR, mSeq, mIf, mT, mLt, mLe, mGt, mGe, mII, cT, mVar, mC, mLen, aCons, aNil, gLen, asInt, asBl, asDat, asStr, asTup, asLst, asTrk, mRet, retR, mRetV, mSet, setR, mIxL, mIxT, mSkip, mEqS, mNeS, eqS, mMul, mAdd, mSub, mDiv, mMod, mNeg, cDiv, mTup, mLst, dats, szOk, mCall, mAbs', gAbs, mChain, tAndM, tOrM, tNotM, mIfE, mAndV, mOrV, mNotV, mApp, mAug, gNm, gTp, gCons', gNil', mAsg, mAsgL, mFor, iR1, iR2, bnd62, mDrop, mCatS, mCatT, mCatL, mSlT, mSlL, oNone, oSome, mIsi, isiD, mIsN, mNotN, Tl.isNon, mIntOf, gIntB, mMax', mMin', gMax2, gMin2, mEqD, mNeD, mIn, mNi, inF, eqF, mSlS, mIxS, mRaise1, mRaise2, mDefX, outX, okX, callX, mSetX, mExprX, mRetX, mTry, endT, dropX, mExF, mExI, mRevL, mRepL, mStr, gStr, mZf, mRepS, uSeq, uIf, uSet, uSetI, uRet, uRetU, uSkip, callU, mDefU, startU, outU, mSetU, mList, mBand, mBor, mDixV, asDic, iZT, iEnT, mDix, mDixV, mRepT, mDsp, dCons, dNil, mDict, vCons, vNil, scD, dSet, dEnd, putD, mDm, gDm, mTupOf, iN, iV, iT, frzV, mSetTX, mCallE, mRaise0, mMulW, mInL, mCall0, mRepT2, mDgt, t1, t2, hk, cn, cW, cm 5 s (by decide), cm 9 s (by decide), h8, hv, show Nat.log2 2 < 9000 by decide]
  · refine ⟨far % W, mr far, ?_⟩
    refine v_def rfl ?_
    simp [b__law_some_whole, mDef, okP_iff, okP_iffF, okP_T, okP_F, startC, argC, argN, outR, mSeq, mIf, mT, mLt, mLe, mGt, mGe, mII, cT, mVar, mC, mLen, aCons, aNil, gLen, asInt, asBl, asDat, asStr, asTup, asLst, asTrk, mRet, retR, mRetV, mSet, setR, mIxL, mIxT, mSkip, mEqS, mNeS, eqS, mMul, mAdd, mSub, mDiv, mMod, mNeg, cDiv, mTup, mLst, dats, szOk, mCall, mAbs', gAbs, mChain, tAndM, tOrM, tNotM, mIfE, mAndV, mOrV, mNotV, mApp, mAug, gNm, gTp, gCons', gNil', mAsg, mAsgL, mFor, iR1, iR2, bnd62, mDrop, mCatS, mCatT, mCatL, mSlT, mSlL, oNone, oSome, mIsi, isiD, mIsN, mNotN, Tl.isNon, mIntOf, gIntB, mMax', mMin', gMax2, gMin2, mEqD, mNeD, mIn, mNi, inF, eqF, mSlS, mIxS, mRaise1, mRaise2, mDefX, outX, okX, callX, mSetX, mExprX, mRetX, mTry, endT, dropX, mExF, mExI, mRevL, mRepL, mStr, gStr, mZf, mRepS, uSeq, uIf, uSet, uSetI, uRet, uRetU, uSkip, callU, mDefU, startU, outU, mSetU, mList, mBand, mBor, mDixV, asDic, iZT, iEnT, mDix, mDixV, mRepT, mDsp, dCons, dNil, mDict, vCons, vNil, scD, dSet, dEnd, putD, mDm, gDm, mTupOf, iN, iV, iT, frzV, mSetTX, mCallE, mRaise0, mMulW, mInL, mCall0, mRepT2, mDgt, t1, t2, hk, cn, cW, cm 5 s (by decide), cm 9 s (by decide), h8, show Nat.log2 2 < 9000 by decide]
/-! ### due papers -/
theorem log_of {i : Int} (h0 : 0 ≤ i) (h : i < 2 ^ 200) : i.natAbs.log2 < 1000 := by
  have e : i.natAbs < 2 ^ 200 := by
    have : ((i.natAbs : Nat) : Int) < ((2 ^ 200 : Nat) : Int) := by
      rw [Int.natAbs_of_nonneg h0]
      exact_mod_cast h
    exact_mod_cast this
  have := PySem.Flt.log2_lt_of (k := 200) (by decide) e
  omega
theorem due_int {k : Nat} {i : Int} (h0 : 0 ≤ i) (h : i < 2 ^ 200) : dueOk k (.int i) := by cases k <;> exact log_of h0 h
theorem due_bl {k : Nat} {b : Bool} : dueOk k (.bl b) := by cases k <;> trivial
theorem due_str {k : Nat} {x : Str} (h : PyData.strOk x = true) : dueOk k (.str x) := by cases k <;> exact h
theorem due_tup {k : Nat} {xs : List D} (h : xs.length ≤ 100) (h2 : ∀ x ∈ xs, dueOk k x) : dueOk (k + 1) (.tup xs) := ⟨h, h2⟩
theorem lL_const (c : Nat) : ∀ xs : List D, (∀ x ∈ xs, lD x = c) → lL xs = c * xs.length
  | [], _ => rfl
  | x :: xs, h => by
    show lD x + lL xs = _
    rw [h x (by simp), lL_const c xs fun y hy => h y (by simp [hy]), List.length_cons, Nat.mul_add, Nat.mul_one, Nat.add_comm]
theorem tL_const (c : Nat) : ∀ xs : List D, (∀ x ∈ xs, tD x = c) → tL xs = c * xs.length
  | [], _ => rfl
  | x :: xs, h => by
    show tD x + tL xs = _
    rw [h x (by simp), tL_const c xs fun y hy => h y (by simp [hy]), List.length_cons, Nat.mul_add, Nat.mul_one, Nat.add_comm]
theorem tD_cons {xs : List D} (h : xs ≠ []) : tD (.tup xs) = 1 + tL xs := by
  cases xs with
  | nil => exact absurd rfl h
  | cons x xs => rfl
/-- what the law asks behind the two ways of comparing -/
theorem end_ok (f : ME) (ρ : Rho) (i : Nat) (b : Bool) (h : ρ[i]? = some (.dat (.bl b))) (hf : f ρ = some (.dat (.bl b))) : mRet (mAndV (mIsi "bool" (mVar i)) (mEqS (mVar i) f)) ρ = some (.ret (.dat (.bl true))) := by
  refine v_ret (v_andT ?_ ?_)
  · simp only [mIsi, mVar, h, asDat, Option.bind_some, isiD, Option.map_some]
  · simp only [mEqS, mVar, h, hf, asDat, Option.bind_some, Option.map_some]
    cases b <;> rfl
theorem wok_mid {w : Int} (h : 0 < w) (h2 : w < 100000) : WOk w := wok_of (b := 20) h (by omega) (by decide) (by decide)
theorem lL_snoc (x : D) : ∀ xs : List D, lL (xs ++ [x]) = lL xs + lD x
  | [] => by simp [lL]
  | y :: ys => by
    show lD y + lL (ys ++ [x]) = lD y + lL ys + lD x
    rw [lL_snoc x ys]; omega
theorem tL_snoc (x : D) : ∀ xs : List D, tL (xs ++ [x]) = tL xs + tD x
  | [] => by simp [tL]
  | y :: ys => by
    show tD y + tL (ys ++ [x]) = tD y + tL ys + tD x
    rw [tL_snoc x ys]; omega
theorem st_cnt (o : Int) (a : List D × Int × Int) (t : Int) : lL (stT o a t).1 = lL a.1 + 3 ∧ tL (stT o a t).1 = tL a.1 + 1 := by
  unfold stT
  split
  · exact ⟨lL_snoc _ _, tL_snoc _ _⟩
  · exact ⟨lL_snoc _ _, tL_snoc _ _⟩
structure StOk (M : Int) (f : Int) (a : List D × Int × Int) : Prop where
  d : ∀ x ∈ a.1, dueOk 1 x
  f0 : 0 ≤ a.2.1
  f1 : a.2.1 ≤ f
  l0 : 0 ≤ a.2.2
  l1 : a.2.2 ≤ M
theorem st_due (o M f : Int) (a : List D × Int × Int) (t : Int) (ho : 0 ≤ o ∧ o < 1000000000000) (ht : 0 < t ∧ t < 10) (h : StOk M f a) : StOk M (f + 10) (stT o a t) := by
  have p0 : 0 ≤ t * o := Int.mul_nonneg (by omega) ho.1
  have p1 : t * o ≤ 10 * 1000000000000 := Int.mul_le_mul (by omega) (by omega) ho.1 (by omega)
  have key : ∀ b, ∀ d ∈ a.1 ++ [D.tup [.int t, .int (t * o), .bl b]], dueOk 1 d := fun b d hd => by
    rcases List.mem_append.mp hd with hd | hd
    · exact h.d d hd
    · rw [List.mem_singleton] at hd
      subst hd
      have big : (10 : Int) * 1000000000000 < 2 ^ 200 := by decide
      refine due_tup (by simp) fun x hx => ?_
      simp only [List.mem_cons, List.not_mem_nil, or_false] at hx
      generalize (2 : Int) ^ 200 = P at *
      rcases hx with rfl | rfl | rfl
      · exact due_int (by omega) (by have : (10 : Int) < 2 ^ 200 := by decide
                                     omega)
      · exact due_int p0 (Int.lt_of_le_of_lt p1 (by decide))
      · exact due_bl
  obtain ⟨h1, h2, h3, h4, h5⟩ := h
  unfold stT
  split
  · exact ⟨key _, by show 0 ≤ a.2.1 + t; omega, by show a.2.1 + t ≤ f + 10; omega, by show 0 ≤ a.2.2 - t * o; omega, by show a.2.2 - t * o ≤ M; omega⟩
  · exact ⟨key _, h2, by show a.2.1 ≤ f + 10; omega, h4, h5⟩
theorem ln_due (o ahead M : Int) (ho : 0 ≤ o ∧ o < 1000000000000) (h0 : 0 ≤ ahead) (h1 : ahead ≤ M) (hM : M < 2 ^ 150) : dueOk 3 (lnT o ahead) ∧ (0 ≤ lfT o ahead ∧ lfT o ahead ≤ ahead) ∧ lD (lnT o ahead) = 15 ∧ tD (lnT o ahead) = 6 := by
  have s0 : StOk ahead 0 ([], 0, ahead) := ⟨fun x hx => (by cases hx), Int.le_refl _, Int.le_refl _, h0, Int.le_refl _⟩
  have s1 := st_due o ahead 0 _ 8 ho (by decide) s0
  have s2 := st_due o ahead _ _ 4 ho (by decide) s1
  have s3 := st_due o ahead _ _ 2 ho (by decide) s2
  have s4 := st_due o ahead _ _ 1 ho (by decide) s3
  have c1 := st_cnt o ([], 0, ahead) 8
  have c2 := st_cnt o (stT o ([], 0, ahead) 8) 4
  have c3 := st_cnt o (stT o (stT o ([], 0, ahead) 8) 4) 2
  have c4 := st_cnt o (stT o (stT o (stT o ([], 0, ahead) 8) 4) 2) 1
  have l4 : (stT o (stT o (stT o (stT o ([], 0, ahead) 8) 4) 2) 1).1.length = 4 := by simp [st_len]
  have e : ftT o ([], 0, ahead) [8, 4, 2, 1] = stT o (stT o (stT o (stT o ([], 0, ahead) 8) 4) 2) 1 := rfl
  unfold lnT lfT
  rw [e]
  generalize stT o (stT o (stT o (stT o ([], 0, ahead) 8) 4) 2) 1 = F at *
  generalize stT o (stT o (stT o ([], 0, ahead) 8) 4) 2 = F3 at *
  generalize stT o (stT o ([], 0, ahead) 8) 4 = F2 at *
  generalize stT o ([], 0, ahead) 8 = F1 at *
  have z1 : lL F1.1 = 3 := c1.1
  have z2 : tL F1.1 = 1 := c1.2
  obtain ⟨g1, g2, g3, g4, g5⟩ := s4
  have big : (2 : Int) ^ 150 < 2 ^ 200 := by decide
  have big2 : (40 : Int) < 2 ^ 200 := by decide
  refine ⟨due_tup (by simp) fun x hx => ?_, ⟨g4, g5⟩, ?_, ?_⟩
  · simp only [List.mem_cons, List.not_mem_nil, or_false] at hx
    generalize (2 : Int) ^ 150 = P at *
    rcases hx with rfl | rfl | rfl | rfl
    · exact due_int h0 (by omega)
    · exact due_tup (by omega) fun y hy => g1 y hy
    · exact due_int g2 (by omega)
    · exact due_int g4 (by omega)
  · show 1 + (lL F.1 + (1 + (1 + 0))) = 15
    omega
  · show 1 + (0 + (tD (.tup F.1) + (0 + (0 + 0)))) = 6
    rw [tD_cons (by intro z; rw [z] at l4; simp at l4)]
    omega
theorem ls_due (o : Int) (ho : 0 ≤ o ∧ o < 1000000000000) : ∀ (cs : List Nat) (l B : Int), (∀ c ∈ cs, 48 ≤ c ∧ c ≤ 57) → 0 ≤ l → l + 1 ≤ B → B * 10 ^ cs.length < 2 ^ 150 → ∀ d ∈ lsT o cs l, dueOk 3 d ∧ lD d = 15 ∧ tD d = 6
  | [], _, _, _, _, _, _, d, h => by cases h
  | c :: cs, l, B, hc, hl, hB, hP, d, h => by
    have c1 := hc c (by simp)
    have e : B * 10 ^ (c :: cs).length = (10 * B) * 10 ^ cs.length := by
      rw [List.length_cons, Int.pow_succ, Int.mul_comm (10 ^ cs.length) 10, ← Int.mul_assoc, Int.mul_comm B 10]
    rw [e] at hP
    have p1 : (1 : Int) ≤ 10 ^ cs.length := by
      have := Int.pow_pos (n := 10) (m := cs.length) (by decide)
      omega
    have p2 : 10 * B * 1 ≤ 10 * B * 10 ^ cs.length := Int.mul_le_mul_of_nonneg_left p1 (by omega)
    obtain ⟨g1, g2, g3, g4⟩ := ln_due o (10 * l + ((c : Int) - 48)) (10 * B) ho (by omega) (by omega) (by omega)
    rcases List.mem_cons.mp h with rfl | h
    · exact ⟨g1, g3, g4⟩
    · exact ls_due o ho cs _ (10 * B) (fun z hz => hc z (List.mem_cons_of_mem _ hz)) g2.1 (by omega) hP d h
theorem tr_due (n : Nat) (o : Int) (hn : n < 1000000000000) (ho : 1 ≤ o ∧ o < 1000000000000) : dueOk 4 (.tup (lsT o (numL n) 0)) ∧ lsT o (numL n) 0 ≠ [] ∧ (lsT o (numL n) 0).length ≤ 12 ∧ lL (lsT o (numL n) 0) = 15 * (lsT o (numL n) 0).length ∧ tL (lsT o (numL n) 0) = 6 * (lsT o (numL n) 0).length := by
  have sh := numL_short 11 n (by omega)
  have hp : (10 : Int) ^ (numL n).length ≤ 10 ^ 12 := by
    obtain ⟨k, hk⟩ : ∃ k, k = (numL n).length := ⟨_, rfl⟩
    rw [← hk] at sh ⊢
    have : k = 0 ∨ k = 1 ∨ k = 2 ∨ k = 3 ∨ k = 4 ∨ k = 5 ∨ k = 6 ∨ k = 7 ∨ k = 8 ∨ k = 9 ∨ k = 10 ∨ k = 11 ∨ k = 12 := by omega
    rcases this with e | e | e | e | e | e | e | e | e | e | e | e | e <;> subst e <;> decide
  have A := ls_due o ⟨by omega, ho.2⟩ (numL n) 0 1 (fun c hc => numL_digits n c hc) (by decide) (by decide) (by rw [Int.one_mul]; exact Int.lt_of_le_of_lt hp (by decide))
  have ll := lsT_len o (numL n) 0
  refine ⟨due_tup (by omega) fun x hx => (A x hx).1, fun z => ?_, by omega, lL_const 15 _ fun d hd => (A d hd).2.1, tL_const 6 _ fun d hd => (A d hd).2.2⟩
  rw [z] at ll
  have l0 : 0 < (numL n).length := by
    by_cases q : n < 10
    · rw [numL_lt q]; simp
    · rw [numL_step (n := n) (by omega), List.length_append]; simp
  simp only [List.length_nil] at ll
  omega
theorem law_true (ns : List Int) (h : ns.length ≤ 63) : m_law [.ro (ns.map D.int)] = some (.dat (.bl true)) := by
  obtain ⟨c0, hc0⟩ := cell_ok ns 0 (by decide)
  obtain ⟨c1, hc1⟩ := cell_ok ns 1 (by decide)
  obtain ⟨c2, hc2⟩ := cell_ok ns 2 (by decide)
  obtain ⟨ds, hd, hds⟩ := draws_ok c0 461 [4, 13, 12, 6, 10, 10] (by
    intro w hw
    simp only [List.mem_cons, List.not_mem_nil, or_false] at hw
    exact wok_mid (by omega) (by omega)) (by decide)
  obtain ⟨es, he, hes⟩ := draws_ok c1 463 [9973, 97, 89] (by
    intro w hw
    simp only [List.mem_cons, List.not_mem_nil, or_false] at hw
    exact wok_mid (by omega) (by omega)) (by decide)
  obtain ⟨fs, hf, hfs⟩ := draws_ok c2 465 [10 ^ (14 : Int).toNat, 10 ^ (14 : Int).toNat] (by
    intro w hw
    simp only [List.mem_cons, List.not_mem_nil, or_false, or_self] at hw
    subst hw
    exact wok_of (b := 60) (by decide) (by decide) (by decide) (by decide)) (by decide)
  cases hd with
  | cons a0 b0 hd =>
  cases hd with
  | cons a1 b1 hd =>
  cases hd with
  | cons a2 b2 hd =>
  cases hd with
  | cons a3 b3 hd =>
  cases hd with
  | cons a4 b4 hd =>
  cases hd with
  | cons a5 b5 hd =>
  cases hd
  cases he with
  | cons p0 q0 he =>
  cases he with
  | cons p1 q1 he =>
  cases he with
  | cons p2 q2 he =>
  cases he
  cases hf with
  | cons a6 b6 hf =>
  cases hf with
  | cons a7 b7 hf =>
  cases hf
  rename_i d0 d1 d2 d3 d4 d5 g0 g1 g2 f0 f1
  simp only [List.map_cons, List.map_nil] at hds hes hfs
  have q14 : ∀ ρ, mPow (mC (.int 10)) (mC (.int 14)) ρ = some (.dat (.int (10 ^ (14 : Int).toNat))) := fun ρ => by simp only [mPow, mII, mC, asInt, Option.bind_some, show cPow 10 14 = true from okP_t (by decide), if_true]
  clear b6 b7
  generalize (10 : Int) ^ (14 : Int).toNat = p14 at hfs q14
  obtain ⟨n, hn⟩ : ∃ n : Nat, 1 + d2 = (n : Int) := ⟨(1 + d2).toNat, by omega⟩
  obtain ⟨m, hm⟩ : ∃ n : Nat, 1 + d3 = (n : Int) := ⟨(1 + d3).toNat, by omega⟩
  obtain ⟨x, hx, tx⟩ := swhole_ok d4 f0 n (by omega) (by omega) a4 a6
  obtain ⟨y, hy, ty⟩ := swhole_ok d5 f1 m (by omega) (by omega) a5 a7
  have px := pw12 (n := n) (by omega)
  have py := pw12 (n := m) (by omega)
  have hx2 : 0 ≤ x ∧ x < 1000000000000 := by omega
  have hy2 : 0 ≤ y ∧ y < 1000000000000 := by omega
  clear hx hy px py
  obtain ⟨o, ho, eo⟩ : ∃ y1, (1 ≤ y1 ∧ y1 < 1000000000000) ∧ (if y > 1 then y else 1) = y1 := by
    by_cases q : y > 1
    · exact ⟨y, by omega, if_pos q⟩
    · exact ⟨1, by omega, if_neg q⟩
  obtain ⟨N, rfl⟩ : ∃ N : Nat, x = (N : Int) := ⟨x.toNat, by omega⟩
  have s1 := tries_ok N o (by omega) ho
  have s2 := triesL_ok N o (by omega)
  have s3 := triesL_ok 0 o (by decide)
  obtain ⟨du, rne, rl, rlD, rtD⟩ := tr_due N o (by omega) ho
  obtain ⟨du0, _, rl0', _, _⟩ := tr_due 0 o (by decide) ho
  generalize lsT o (numL N) 0 = rows at *
  generalize lsT o (numL 0) 0 = rows0 at *
  have du5 := due_mono du (show 4 ≤ 5 by decide)
  have rl0 : 0 < rows.length := List.length_pos_iff.mpr rne
  let r (c1 c2 c3 c4 c5 c6 : C) : Rho := [.bor (ns.map .int), c1, c2, c3, c4, c5, c6, .dat (.int d0), .dat (.int d1), .dat (.int d2), .dat (.int d3), .dat (.int d4), .dat (.int d5), .dat (.int g0), .dat (.int g1), .dat (.int g2)]
  refine v_out rfl ?_
  unfold b_law
  refine v_seq (ρ' := [.bor (ns.map .int), .un, .un, .un, .un, .un, .un, .dat (.int d0), .dat (.int d1), .dat (.int d2), .dat (.int d3), .dat (.int d4), .dat (.int d5), .un, .un, .un]) (by simp [mDef, okP_iff, okP_iffF, okP_T, okP_F, startC, argC, argN, outR, mSeq, mIf, mT, mLt, mLe, mGt, mGe, mII, cT, mVar, mC, mLen, aCons, aNil, gLen, asInt, asBl, asDat, asStr, asTup, asLst, asTrk, mRet, retR, mRetV, mSet, setR, mIxL, mIxT, mSkip, mEqS, mNeS, eqS, mMul, mAdd, mSub, mDiv, mMod, mPow, mNeg, cMul, cDiv, cMod, cPow, mTup, mLst, dats, szOk, mCall, mAbs', gAbs, mChain, tAndM, tOrM, tNotM, mIfE, mAndV, mOrV, mNotV, mApp, mAug, gNm, gTp, gCons', gNil', mAsg, mAsgL, mFor, iR1, iR2, bnd62, mDrop, mCatS, mCatT, mCatL, mSlT, mSlL, oNone, oSome, mIsi, isiD, mIsN, mNotN, Tl.isNon, mIntOf, gIntB, mMax', mMin', gMax2, gMin2, mEqD, mNeD, mIn, mNi, inF, eqF, mSlS, mIxS, mRaise1, mRaise2, mDefX, outX, okX, callX, mSetX, mExprX, mRetX, mTry, endT, dropX, mExF, mExI, mRevL, mRepL, mStr, gStr, mZf, mRepS, uSeq, uIf, uSet, uSetI, uRet, uRetU, uSkip, callU, mDefU, startU, outU, mSetU, mList, mBand, mBor, mDixV, asDic, iZT, iEnT, mDix, mDixV, mRepT, mDsp, dCons, dNil, mDict, vCons, vNil, scD, dSet, dEnd, putD, mDm, gDm, mTupOf, iN, iV, iT, frzV, mSetTX, mCallE, mRaise0, mMulW, mInL, mCall0, mRepT2, mDgt, hc0, hds]) ?_
  refine v_seq (ρ' := r .un .un .un .un .un .un) (by simp [mDef, okP_iff, okP_iffF, okP_T, okP_F, startC, argC, argN, outR, mSeq, mIf, mT, mLt, mLe, mGt, mGe, mII, cT, mVar, mC, mLen, aCons, aNil, gLen, asInt, asBl, asDat, asStr, asTup, asLst, asTrk, mRet, retR, mRetV, mSet, setR, mIxL, mIxT, mSkip, mEqS, mNeS, eqS, mMul, mAdd, mSub, mDiv, mMod, mPow, mNeg, cMul, cDiv, cMod, cPow, mTup, mLst, dats, szOk, mCall, mAbs', gAbs, mChain, tAndM, tOrM, tNotM, mIfE, mAndV, mOrV, mNotV, mApp, mAug, gNm, gTp, gCons', gNil', mAsg, mAsgL, mFor, iR1, iR2, bnd62, mDrop, mCatS, mCatT, mCatL, mSlT, mSlL, oNone, oSome, mIsi, isiD, mIsN, mNotN, Tl.isNon, mIntOf, gIntB, mMax', mMin', gMax2, gMin2, mEqD, mNeD, mIn, mNi, inF, eqF, mSlS, mIxS, mRaise1, mRaise2, mDefX, outX, okX, callX, mSetX, mExprX, mRetX, mTry, endT, dropX, mExF, mExI, mRevL, mRepL, mStr, gStr, mZf, mRepS, uSeq, uIf, uSet, uSetI, uRet, uRetU, uSkip, callU, mDefU, startU, outU, mSetU, mList, mBand, mBor, mDixV, asDic, iZT, iEnT, mDix, mDixV, mRepT, mDsp, dCons, dNil, mDict, vCons, vNil, scD, dSet, dEnd, putD, mDm, gDm, mTupOf, iN, iV, iT, frzV, mSetTX, mCallE, mRaise0, mMulW, mInL, mCall0, mRepT2, mDgt, hc1, hes, r]) ?_
  refine v_seq (ρ' := r (.own [.int f0, .int f1]) .un .un .un .un .un) (by simp [mDef, okP_iff, okP_iffF, okP_T, okP_F, startC, argC, argN, outR, mSeq, mIf, mT, mLt, mLe, mGt, mGe, mII, cT, mVar, mC, mLen, aCons, aNil, gLen, asInt, asBl, asDat, asStr, asTup, asLst, asTrk, mRet, retR, mRetV, mSet, setR, mIxL, mIxT, mSkip, mEqS, mNeS, eqS, mMul, mAdd, mSub, mDiv, mMod, mNeg, cDiv, mTup, mLst, dats, szOk, mCall, mAbs', gAbs, mChain, tAndM, tOrM, tNotM, mIfE, mAndV, mOrV, mNotV, mApp, mAug, gNm, gTp, gCons', gNil', mAsg, mAsgL, mFor, iR1, iR2, bnd62, mDrop, mCatS, mCatT, mCatL, mSlT, mSlL, oNone, oSome, mIsi, isiD, mIsN, mNotN, Tl.isNon, mIntOf, gIntB, mMax', mMin', gMax2, gMin2, mEqD, mNeD, mIn, mNi, inF, eqF, mSlS, mIxS, mRaise1, mRaise2, mDefX, outX, okX, callX, mSetX, mExprX, mRetX, mTry, endT, dropX, mExF, mExI, mRevL, mRepL, mStr, gStr, mZf, mRepS, uSeq, uIf, uSet, uSetI, uRet, uRetU, uSkip, callU, mDefU, startU, outU, mSetU, mList, mBand, mBor, mDixV, asDic, iZT, iEnT, mDix, mDixV, mRepT, mDsp, dCons, dNil, mDict, vCons, vNil, scD, dSet, dEnd, putD, mDm, gDm, mTupOf, iN, iV, iT, frzV, mSetTX, mCallE, mRaise0, mMulW, mInL, mCall0, mRepT2, mDgt, q14, hc2, hfs, r]) ?_
  refine v_seq (ρ' := r (.own [.int f0, .int f1]) (.dat (.int N)) .un .un .un .un) (by simp [mDef, okP_iff, okP_iffF, okP_T, okP_F, startC, argC, argN, outR, mSeq, mIf, mT, mLt, mLe, mGt, mGe, mII, cT, mVar, mC, mLen, aCons, aNil, gLen, asInt, asBl, asDat, asStr, asTup, asLst, asTrk, mRet, retR, mRetV, mSet, setR, mIxL, mIxT, mSkip, mEqS, mNeS, eqS, mMul, mAdd, mSub, mDiv, mMod, mPow, mNeg, cMul, cDiv, cMod, cPow, mTup, mLst, dats, szOk, mCall, mAbs', gAbs, mChain, tAndM, tOrM, tNotM, mIfE, mAndV, mOrV, mNotV, mApp, mAug, gNm, gTp, gCons', gNil', mAsg, mAsgL, mFor, iR1, iR2, bnd62, mDrop, mCatS, mCatT, mCatL, mSlT, mSlL, oNone, oSome, mIsi, isiD, mIsN, mNotN, Tl.isNon, mIntOf, gIntB, mMax', mMin', gMax2, gMin2, mEqD, mNeD, mIn, mNi, inF, eqF, mSlS, mIxS, mRaise1, mRaise2, mDefX, outX, okX, callX, mSetX, mExprX, mRetX, mTry, endT, dropX, mExF, mExI, mRevL, mRepL, mStr, gStr, mZf, mRepS, uSeq, uIf, uSet, uSetI, uRet, uRetU, uSkip, callU, mDefU, startU, outU, mSetU, mList, mBand, mBor, mDixV, asDic, iZT, iEnT, mDix, mDixV, mRepT, mDsp, dCons, dNil, mDict, vCons, vNil, scD, dSet, dEnd, putD, mDm, gDm, mTupOf, iN, iV, iT, frzV, mSetTX, mCallE, mRaise0, mMulW, mInL, mCall0, mRepT2, mDgt, atI_0, hn, tx, r]) ?_
  refine v_seq (ρ' := r (.own [.int f0, .int f1]) (.dat (.int N)) (.dat (.int o)) .un .un .un) (by simp [mDef, okP_iff, okP_iffF, okP_T, okP_F, startC, argC, argN, outR, mSeq, mIf, mT, mLt, mLe, mGt, mGe, mII, cT, mVar, mC, mLen, aCons, aNil, gLen, asInt, asBl, asDat, asStr, asTup, asLst, asTrk, mRet, retR, mRetV, mSet, setR, mIxL, mIxT, mSkip, mEqS, mNeS, eqS, mMul, mAdd, mSub, mDiv, mMod, mPow, mNeg, cMul, cDiv, cMod, cPow, mTup, mLst, dats, szOk, mCall, mAbs', gAbs, mChain, tAndM, tOrM, tNotM, mIfE, mAndV, mOrV, mNotV, mApp, mAug, gNm, gTp, gCons', gNil', mAsg, mAsgL, mFor, iR1, iR2, bnd62, mDrop, mCatS, mCatT, mCatL, mSlT, mSlL, oNone, oSome, mIsi, isiD, mIsN, mNotN, Tl.isNon, mIntOf, gIntB, mMax', mMin', gMax2, gMin2, mEqD, mNeD, mIn, mNi, inF, eqF, mSlS, mIxS, mRaise1, mRaise2, mDefX, outX, okX, callX, mSetX, mExprX, mRetX, mTry, endT, dropX, mExF, mExI, mRevL, mRepL, mStr, gStr, mZf, mRepS, uSeq, uIf, uSet, uSetI, uRet, uRetU, uSkip, callU, mDefU, startU, outU, mSetU, mList, mBand, mBor, mDixV, asDic, iZT, iEnT, mDix, mDixV, mRepT, mDsp, dCons, dNil, mDict, vCons, vNil, scD, dSet, dEnd, putD, mDm, gDm, mTupOf, iN, iV, iT, frzV, mSetTX, mCallE, mRaise0, mMulW, mInL, mCall0, mRepT2, mDgt, atI_1, hm, ty, eo, r]) ?_
  refine v_seq (ρ' := r (.own [.int f0, .int f1]) (.dat (.int N)) (.dat (.int o)) (.dat (.tup rows)) .un .un) (v_set (v_call (rs := [.dat (.int N), .dat (.int o)]) rfl s2)) ?_
  refine v_seq (ρ' := r (.own [.int f0, .int f1]) (.dat (.int N)) (.dat (.int o)) (.dat (.tup rows)) (.dat (.tup rows)) .un) rfl ?_
  let R (p : D) (c6 : C) : Rho := r (.own [.int f0, .int f1]) (.dat (.int N)) (.dat (.int o)) (.dat (.tup rows)) (.dat p) c6
  obtain ⟨p1, ep1, np1⟩ := spoilt_ok rows d1 g0 g1 g2 (pD []) du5 ⟨p2, by omega⟩ a1 (by show 0 < lL rows; omega) (by show lL rows ≤ 2000; omega) (by rw [tD_cons rne]; omega) (by rw [tD_cons rne]; omega) (.inr ⟨[], rows, rfl, by decide, rfl, rne, du5⟩)
  have A1 : ∃ p, nice 20 p ∧ mIf (tAndM (mT (mGt (mVar 7) (mC (.int 0)))) (mT (mLt (mVar 8) (mC (.int 12))))) (mSet 5 (mCall m__law_paper_spoilt (aCons (mVar 4) (aCons (mVar 8) (aCons (mVar 13) (aCons (mVar 14) (aCons (mVar 15) (aCons (mTup aNil) aNil)))))))) mSkip (R (.tup rows) .un) = some (.nx (R p .un)) := by
    cases hb : tAndM (mT (mGt (mVar 7) (mC (.int 0)))) (mT (mLt (mVar 8) (mC (.int 12)))) (R (.tup rows) .un) with
    | none =>
      exfalso
      simp [R, r, tAndM, mT, mGt, mLt, mII, mVar, mC, asInt, cT, asBl] at hb
      split at hb <;> cases hb
    | some b =>
      cases b with
      | false => exact ⟨.tup rows, nice_le (due_nice 4 _ du) (by decide), v_ifF hb rfl⟩
      | true => exact ⟨p1, np1, v_ifT hb (v_set (v_call (rs := [.dat (.tup rows), .dat (.int d1), .dat (.int g0), .dat (.int g1), .dat (.int g2), .dat (.tup [])]) (by simp [R, r, aCons, aNil, mVar, mTup, dats, szOk, okP_iff]) ep1))⟩
  obtain ⟨p2', np2, A1⟩ := A1
  refine v_seq A1 ?_
  have A2 : ∃ p, nice 20 p ∧ mIf (tAndM (mT (mGt (mVar 7) (mC (.int 0)))) (mT (mEqS (mVar 8) (mC (.int 12))))) (mSet 5 (mCatT (mCall m__law_tries (aCons (mC (.int 0)) (aCons (mVar 3) aNil))) (mVar 4))) mSkip (R p2' .un) = some (.nx (R p .un)) := by
    cases hb : tAndM (mT (mGt (mVar 7) (mC (.int 0)))) (mT (mEqS (mVar 8) (mC (.int 12)))) (R p2' .un) with
    | none =>
      exfalso
      simp [R, r, tAndM, mT, mGt, mEqS, eqS, mII, mVar, mC, asInt, asDat, cT, asBl] at hb
      split at hb <;> cases hb
    | some b =>
      cases b with
      | false => exact ⟨p2', np2, v_ifF hb rfl⟩
      | true =>
        refine ⟨.tup (rows0 ++ rows), nice_le (k := 4) (nice_tup (by rw [List.length_append]; omega) fun z hz => ?_) (by decide), v_ifT hb (v_set (cat_ok (v_call (rs := [.dat (.int 0), .dat (.int o)]) rfl s3) rfl (by omega)))⟩
        rcases List.mem_append.mp hz with hz | hz
        · exact due_nice 3 _ (du0.2 z hz)
        · exact due_nice 3 _ (du.2 z hz)
  obtain ⟨p3, np3, A2⟩ := A2
  refine v_seq A2 ?_
  have B1 := same_jb 5 (.tup rows) p3 20 du5 np3 (by decide) (by decide)
  have B2 := just_jb 5 (.tup rows) p3 20 du5 np3 (by decide) (by decide)
  have H1 : m_tries_hold [.dat (.int N), .dat (.int o), .dat p3] = some (.dat (.bl (jb (.tup rows) p3))) := by
    generalize jb (.tup rows) p3 = J at *
    refine v_def rfl ?_
    simp [b_tries_hold, mDef, okP_iff, okP_iffF, okP_T, okP_F, startC, argC, argN, outR, mSeq, mIf, mT, mLt, mLe, mGt, mGe, mII, cT, mVar, mC, mLen, aCons, aNil, gLen, asInt, asBl, asDat, asStr, asTup, asLst, asTrk, mRet, retR, mRetV, mSet, setR, mIxL, mIxT, mSkip, mEqS, mNeS, eqS, mMul, mAdd, mSub, mDiv, mMod, mPow, mNeg, cMul, cDiv, cMod, cPow, mTup, mLst, dats, szOk, mCall, mAbs', gAbs, mChain, tAndM, tOrM, tNotM, mIfE, mAndV, mOrV, mNotV, mApp, mAug, gNm, gTp, gCons', gNil', mAsg, mAsgL, mFor, iR1, iR2, bnd62, mDrop, mCatS, mCatT, mCatL, mSlT, mSlL, oNone, oSome, mIsi, isiD, mIsN, mNotN, Tl.isNon, mIntOf, gIntB, mMax', mMin', gMax2, gMin2, mEqD, mNeD, mIn, mNi, inF, eqF, mSlS, mIxS, mRaise1, mRaise2, mDefX, outX, okX, callX, mSetX, mExprX, mRetX, mTry, endT, dropX, mExF, mExI, mRevL, mRepL, mStr, gStr, mZf, mRepS, uSeq, uIf, uSet, uSetI, uRet, uRetU, uSkip, callU, mDefU, startU, outU, mSetU, mList, mBand, mBor, mDixV, asDic, iZT, iEnT, mDix, mDixV, mRepT, mDsp, dCons, dNil, mDict, vCons, vNil, scD, dSet, dEnd, putD, mDm, gDm, mTupOf, iN, iV, iT, frzV, mSetTX, mCallE, mRaise0, mMulW, mInL, mCall0, mRepT2, mDgt, s1, B1]
  refine v_seq (ρ' := R p3 (.dat (.bl (jb (.tup rows) p3)))) (v_set (v_call (rs := [.dat (.int N), .dat (.int o), .dat p3]) rfl H1)) ?_
  exact end_ok _ _ 6 _ rfl (v_call (rs := [.dat p3, .dat (.tup rows)]) rfl B2)

end Lw

namespace Lw
open PySem PySem.Spec PyProof.Rows L2 Evl Tl
theorem all_mk {l : PySem.W.OpenLaw} {w : World} {K : PySem.W.Frag} {h : Heap} {mg : Str → Option Value} {fa : Addr} (X : K.In h) (G : h.Ns mainGlobals mg) (hfa : mg "law" = some (.ref fa))
    (hlaw : ∀ ns : List Int, ns.length ≤ 63 → m_law [.ro (ns.map Tl.D.int)] = some (.dat (.bl true))) (tb0 : TabsB mg h "same")
    {f0 : Addr} {od0 an0 : Option Addr} {sl0 : Array (Option Value)} {oc0 kV0 dc0 pm0 cd0 ct0 : Value} {f1 : Addr} {od1 an1 : Option Addr} {sl1 : Array (Option Value)} {oc1 kV1 dc1 pm1 cd1 ct1 : Value} {f2 : Addr} {od2 an2 : Option Addr} {sl2 : Array (Option Value)} {oc2 kV2 dc2 pm2 cd2 ct2 : Value} {f3 : Addr} {od3 an3 : Option Addr} {sl3 : Array (Option Value)} {oc3 kV3 dc3 pm3 cd3 ct3 : Value} {f4 : Addr} {od4 an4 : Option Addr} {sl4 : Array (Option Value)} {oc4 kV4 dc4 pm4 cd4 ct4 : Value} {f5 : Addr} {od5 an5 : Option Addr} {sl5 : Array (Option Value)} {oc5 kV5 dc5 pm5 cd5 ct5 : Value} {f6 : Addr} {od6 an6 : Option Addr} {sl6 : Array (Option Value)} {oc6 kV6 dc6 pm6 cd6 ct6 : Value} {f7 : Addr} {od7 an7 : Option Addr} {sl7 : Array (Option Value)} {oc7 kV7 dc7 pm7 cd7 ct7 : Value} {f8 : Addr} {od8 an8 : Option Addr} {sl8 : Array (Option Value)} {oc8 kV8 dc8 pm8 cd8 ct8 : Value} {f9 : Addr} {od9 an9 : Option Addr} {sl9 : Array (Option Value)} {oc9 kV9 dc9 pm9 cd9 ct9 : Value} {f10 : Addr} {od10 an10 : Option Addr} {sl10 : Array (Option Value)} {oc10 kV10 dc10 pm10 cd10 ct10 : Value} {f11 : Addr} {od11 an11 : Option Addr} {sl11 : Array (Option Value)} {oc11 kV11 dc11 pm11 cd11 ct11 : Value} {f12 : Addr} {od12 an12 : Option Addr} {sl12 : Array (Option Value)} {oc12 kV12 dc12 pm12 cd12 ct12 : Value} {f13 : Addr} {od13 an13 : Option Addr} {sl13 : Array (Option Value)} {oc13 kV13 dc13 pm13 cd13 ct13 : Value} {f14 : Addr} {od14 an14 : Option Addr} {sl14 : Array (Option Value)} {oc14 kV14 dc14 pm14 cd14 ct14 : Value} {f15 : Addr} {od15 an15 : Option Addr} {sl15 : Array (Option Value)} {oc15 kV15 dc15 pm15 cd15 ct15 : Value} {f16 : Addr} {od16 an16 : Option Addr} {sl16 : Array (Option Value)} {oc16 kV16 dc16 pm16 cd16 ct16 : Value} {f17 : Addr} {od17 an17 : Option Addr} {sl17 : Array (Option Value)} {oc17 kV17 dc17 pm17 cd17 ct17 : Value} {f18 : Addr} {od18 an18 : Option Addr} {sl18 : Array (Option Value)} {oc18 kV18 dc18 pm18 cd18 ct18 : Value} {f19 : Addr} {od19 an19 : Option Addr} {sl19 : Array (Option Value)} {oc19 kV19 dc19 pm19 cd19 ct19 : Value} {A_NoFit : Addr} {A_Nought : Addr} {A_LoftError : Addr} {nm_NoFit qn_NoFit : Str} {N_NoFit : Addr} {bs_NoFit : List Value} {sn_NoFit : List Str} {sb_NoFit : List Value} {ab_NoFit : Bool} {co_NoFit : Option Bool} {dd_NoFit : Option Addr} {m0_NoFit m1_NoFit m2_NoFit m3_NoFit m5_NoFit : Option Value} {fi_NoFit : Addr} {odi_NoFit ani_NoFit : Option Addr} {sli_NoFit : Array (Option Value)} {oci_NoFit kVi_NoFit dci_NoFit pmi_NoFit cdi_NoFit cti_NoFit : Value} {nm_Nought qn_Nought : Str} {N_Nought : Addr} {bs_Nought : List Value} {sn_Nought : List Str} {sb_Nought : List Value} {ab_Nought : Bool} {co_Nought : Option Bool} {dd_Nought : Option Addr} {m0_Nought m1_Nought m2_Nought m3_Nought m5_Nought : Option Value} {a_TRIES : Addr} {dd_TRIES : Option Addr} {n_TRIES : Nat} {sl_TRIES : Array (Option Value)} {t_TRIES_0 t_TRIES_1 t_TRIES_2 t_TRIES_3 : Tok} {t_MOST_FIGURES : Tok} {ca0 T0 : Addr} {odc0 : Option Addr} {vs0 : Array Value} {slc0 : Array (Option Value)}
    (a0 : PySem.W.nsIn K mainGlobals "same" = some (some (.ref f0))) (l0 : K.lookup f0 = some ⟨oc0, od0, .func (PySem.W.fnOf "same" "same" (defArgs s_same) (defBody s_same) (defScope s_same) .none kV0 dc0 pm0 an0 cd0 ct0), sl0⟩) (c0 : PySem.W.codeIn K cd0 "same" = true) (k0 : PySem.W.keepIn K (.ref f0) = true)
    (a1 : PySem.W.nsIn K mainGlobals "ten_to" = some (some (.ref f1))) (l1 : K.lookup f1 = some ⟨oc1, od1, .func (PySem.W.fnOf "ten_to" "ten_to" (defArgs s_ten_to) (defBody s_ten_to) (defScope s_ten_to) .none kV1 dc1 pm1 an1 cd1 ct1), sl1⟩) (c1 : PySem.W.codeIn K cd1 "ten_to" = true) (k1 : PySem.W.keepIn K (.ref f1) = true)
    (a2 : PySem.W.nsIn K mainGlobals "refuse_beyond" = some (some (.ref f2))) (l2 : K.lookup f2 = some ⟨oc2, od2, .func (PySem.W.fnOf "refuse_beyond" "refuse_beyond" (defArgs s_refuse_beyond) (defBody s_refuse_beyond) (defScope s_refuse_beyond) .none kV2 dc2 pm2 an2 cd2 ct2), sl2⟩) (c2 : PySem.W.codeIn K cd2 "refuse_beyond" = true) (k2 : PySem.W.keepIn K (.ref f2) = true)
    (a3 : PySem.W.nsIn K mainGlobals "line_of_tries" = some (some (.ref f3))) (l3 : K.lookup f3 = some ⟨oc3, od3, .func (PySem.W.fnOf "line_of_tries" "line_of_tries" (defArgs s_line_of_tries) (defBody s_line_of_tries) (defScope s_line_of_tries) .none kV3 dc3 pm3 an3 cd3 ct3), sl3⟩) (c3 : PySem.W.codeIn K cd3 "line_of_tries" = true) (k3 : PySem.W.keepIn K (.ref f3) = true)
    (a4 : PySem.W.nsIn K mainGlobals "tries" = some (some (.ref f4))) (l4 : K.lookup f4 = some ⟨oc4, od4, .func (PySem.W.fnOf "tries" "tries" (defArgs s_tries) (defBody s_tries) (defScope s_tries) .none kV4 dc4 pm4 an4 cd4 ct4), sl4⟩) (c4 : PySem.W.codeIn K cd4 "tries" = true) (k4 : PySem.W.keepIn K (.ref f4) = true)
    (a5 : PySem.W.nsIn K mainGlobals "tries_hold" = some (some (.ref f5))) (l5 : K.lookup f5 = some ⟨oc5, od5, .func (PySem.W.fnOf "tries_hold" "tries_hold" (defArgs s_tries_hold) (defBody s_tries_hold) (defScope s_tries_hold) .none kV5 dc5 pm5 an5 cd5 ct5), sl5⟩) (c5 : PySem.W.codeIn K cd5 "tries_hold" = true) (k5 : PySem.W.keepIn K (.ref f5) = true)
    (a6 : PySem.W.nsIn K mainGlobals "_law_cell" = some (some (.ref f6))) (l6 : K.lookup f6 = some ⟨oc6, od6, .func (PySem.W.fnOf "_law_cell" "_law_cell" (defArgs s__law_cell) (defBody s__law_cell) (defScope s__law_cell) .none kV6 dc6 pm6 an6 cd6 ct6), sl6⟩) (c6 : PySem.W.codeIn K cd6 "_law_cell" = true) (k6 : PySem.W.keepIn K (.ref f6) = true)
    (a7 : PySem.W.nsIn K mainGlobals "_law_mixed" = some (some (.ref f7))) (l7 : K.lookup f7 = some ⟨oc7, od7, .func (PySem.W.fnOf "_law_mixed" "_law_mixed" (defArgs s__law_mixed) (defBody s__law_mixed) (defScope s__law_mixed) .none kV7 dc7 pm7 an7 cd7 ct7), sl7⟩) (c7 : PySem.W.codeIn K cd7 "_law_mixed" = true) (k7 : PySem.W.keepIn K (.ref f7) = true)
    (a8 : PySem.W.nsIn K mainGlobals "_law_draws" = some (some (.ref f8))) (l8 : K.lookup f8 = some ⟨oc8, od8, .func (PySem.W.fnOf "_law_draws" "_law_draws" (defArgs s__law_draws) (defBody s__law_draws) (defScope s__law_draws) .none kV8 dc8 pm8 an8 cd8 ct8), sl8⟩) (c8 : PySem.W.codeIn K cd8 "_law_draws" = true) (k8 : PySem.W.keepIn K (.ref f8) = true)
    (a9 : PySem.W.nsIn K mainGlobals "_law_power" = some (some (.ref f9))) (l9 : K.lookup f9 = some ⟨oc9, od9, .func (PySem.W.fnOf "_law_power" "_law_power" (defArgs s__law_power) (defBody s__law_power) (defScope s__law_power) .none kV9 dc9 pm9 an9 cd9 ct9), sl9⟩) (c9 : PySem.W.codeIn K cd9 "_law_power" = true) (k9 : PySem.W.keepIn K (.ref f9) = true)
    (a10 : PySem.W.nsIn K mainGlobals "_law_just" = some (some (.ref f10))) (l10 : K.lookup f10 = some ⟨oc10, od10, .func (PySem.W.fnOf "_law_just" "_law_just" (defArgs s__law_just) (defBody s__law_just) (defScope s__law_just) .none kV10 dc10 pm10 an10 cd10 ct10), sl10⟩) (c10 : PySem.W.codeIn K cd10 "_law_just" = true) (k10 : PySem.W.keepIn K (.ref f10) = true)
    (a11 : PySem.W.nsIn K mainGlobals "_law_paper_cells" = some (some (.ref f11))) (l11 : K.lookup f11 = some ⟨oc11, od11, .func (PySem.W.fnOf "_law_paper_cells" "_law_paper_cells" (defArgs s__law_paper_cells) (defBody s__law_paper_cells) (defScope s__law_paper_cells) .none kV11 dc11 pm11 an11 cd11 ct11), sl11⟩) (c11 : PySem.W.codeIn K cd11 "_law_paper_cells" = true) (k11 : PySem.W.keepIn K (.ref f11) = true)
    (a12 : PySem.W.nsIn K mainGlobals "_law_paper_tuples" = some (some (.ref f12))) (l12 : K.lookup f12 = some ⟨oc12, od12, .func (PySem.W.fnOf "_law_paper_tuples" "_law_paper_tuples" (defArgs s__law_paper_tuples) (defBody s__law_paper_tuples) (defScope s__law_paper_tuples) .none kV12 dc12 pm12 an12 cd12 ct12), sl12⟩) (c12 : PySem.W.codeIn K cd12 "_law_paper_tuples" = true) (k12 : PySem.W.keepIn K (.ref f12) = true)
    (a13 : PySem.W.nsIn K mainGlobals "_law_put_in" = some (some (.ref f13))) (l13 : K.lookup f13 = some ⟨oc13, od13, .func (PySem.W.fnOf "_law_put_in" "_law_put_in" (defArgs s__law_put_in) (defBody s__law_put_in) (defScope s__law_put_in) .none kV13 dc13 pm13 an13 cd13 ct13), sl13⟩) (c13 : PySem.W.codeIn K cd13 "_law_put_in" = true) (k13 : PySem.W.keepIn K (.ref f13) = true)
    (a14 : PySem.W.nsIn K mainGlobals "_law_part_at" = some (some (.ref f14))) (l14 : K.lookup f14 = some ⟨oc14, od14, .func (PySem.W.fnOf "_law_part_at" "_law_part_at" (defArgs s__law_part_at) (defBody s__law_part_at) (defScope s__law_part_at) .none kV14 dc14 pm14 an14 cd14 ct14), sl14⟩) (c14 : PySem.W.codeIn K cd14 "_law_part_at" = true) (k14 : PySem.W.keepIn K (.ref f14) = true)
    (a15 : PySem.W.nsIn K mainGlobals "_law_changed" = some (some (.ref f15))) (l15 : K.lookup f15 = some ⟨oc15, od15, .func (PySem.W.fnOf "_law_changed" "_law_changed" (defArgs s__law_changed) (defBody s__law_changed) (defScope s__law_changed) .none kV15 dc15 pm15 an15 cd15 ct15), sl15⟩) (c15 : PySem.W.codeIn K cd15 "_law_changed" = true) (k15 : PySem.W.keepIn K (.ref f15) = true)
    (a16 : PySem.W.nsIn K mainGlobals "_law_paper_spoilt" = some (some (.ref f16))) (l16 : K.lookup f16 = some ⟨oc16, od16, .func (PySem.W.fnOf "_law_paper_spoilt" "_law_paper_spoilt" (defArgs s__law_paper_spoilt) (defBody s__law_paper_spoilt) (defScope s__law_paper_spoilt) .none kV16 dc16 pm16 an16 cd16 ct16), sl16⟩) (c16 : PySem.W.codeIn K cd16 "_law_paper_spoilt" = true) (k16 : PySem.W.keepIn K (.ref f16) = true)
    (a17 : PySem.W.nsIn K mainGlobals "_law_tries" = some (some (.ref f17))) (l17 : K.lookup f17 = some ⟨oc17, od17, .func (PySem.W.fnOf "_law_tries" "_law_tries" (defArgs s__law_tries) (defBody s__law_tries) (defScope s__law_tries) .none kV17 dc17 pm17 an17 cd17 ct17), sl17⟩) (c17 : PySem.W.codeIn K cd17 "_law_tries" = true) (k17 : PySem.W.keepIn K (.ref f17) = true)
    (a18 : PySem.W.nsIn K mainGlobals "_law_some_whole" = some (some (.ref f18))) (l18 : K.lookup f18 = some ⟨oc18, od18, .func (PySem.W.fnOf "_law_some_whole" "_law_some_whole" (defArgs s__law_some_whole) (defBody s__law_some_whole) (defScope s__law_some_whole) .none kV18 dc18 pm18 an18 cd18 ct18), sl18⟩) (c18 : PySem.W.codeIn K cd18 "_law_some_whole" = true) (k18 : PySem.W.keepIn K (.ref f18) = true)
    (a19 : PySem.W.nsIn K mainGlobals "law" = some (some (.ref f19))) (l19 : K.lookup f19 = some ⟨oc19, od19, .func (PySem.W.fnOf "law" "law" (defArgs s_law) (defBody s_law) (defScope s_law) .none kV19 dc19 pm19 an19 cd19 ct19), sl19⟩) (c19 : PySem.W.codeIn K cd19 "law" = true) (k19 : PySem.W.keepIn K (.ref f19) = true)
    (g_NoFit : PySem.W.nsIn K mainGlobals "NoFit" = some (some (.ref A_NoFit)))
    (g_Nought : PySem.W.nsIn K mainGlobals "Nought" = some (some (.ref A_Nought)))
    (g_LoftError : PySem.W.nsIn K mainGlobals "LoftError" = some (some (.ref A_LoftError)))
    (xL_NoFit : K.lookup A_NoFit = some (excClassObj nm_NoFit qn_NoFit A_NoFit N_NoFit bs_NoFit [.ref A_LoftError, .type "ValueError", .type "Exception", .type "BaseException", .type "object"] true sn_NoFit sb_NoFit ab_NoFit co_NoFit dd_NoFit m0_NoFit m1_NoFit m2_NoFit m3_NoFit m5_NoFit "ValueError.__new__"))
    (sa_NoFit : PySem.W.findIn K (.ref A_NoFit) "__setattr__" = some (some (.builtin "object.__setattr__")))
    (ga_NoFit : PySem.W.findIn K (.ref A_NoFit) "__getattribute__" = some (some (.builtin "BaseException.__getattribute__")))
    (gg_NoFit : PySem.W.findIn K (.ref A_NoFit) "__getattr__" = some none)
    (kC_NoFit : PySem.W.keepIn K (.ref A_NoFit) = true)
    (eC_NoFit : PySem.W.subIn K (.ref A_NoFit) (.type "BaseException") = some true)
    (tC_NoFit : PySem.W.typeIn K (.ref A_NoFit) = some (.type "type"))
    (hC_NoFit : PySem.W.hasDictIn K A_NoFit = true)
    (iC_NoFit : PySem.W.isClsIn K A_NoFit = true)
    (sC_NoFit : PySem.W.subIn K (.ref A_NoFit) (.ref A_NoFit) = some true)
    (wa_NoFit : PySem.W.findIn K (.ref A_NoFit) "__class__" = some (some (.builtin "object.__class__")))
    (wm_NoFit : PySem.W.mroIn K A_NoFit (.type "object") = some true)
    (no_NoFit_number : PySem.W.findIn K (.ref A_NoFit) "number" = some none)
    (ia_NoFit : PySem.W.findIn K (.ref A_NoFit) "__init__" = some (some (.ref fi_NoFit)))
    (it_NoFit : PySem.W.typeIn K (.ref fi_NoFit) = some (.type "function"))
    (il_NoFit : K.lookup fi_NoFit = some ⟨oci_NoFit, odi_NoFit, .func (PySem.W.fnOf "__init__" "NoFit.__init__" (defArgs si_NoFit) (defBody si_NoFit) (defScope si_NoFit) .none kVi_NoFit dci_NoFit pmi_NoFit ani_NoFit cdi_NoFit cti_NoFit), sli_NoFit⟩)
    (ic_NoFit : PySem.W.codeIn K cdi_NoFit "NoFit.__init__" = true)
    (ik_NoFit : PySem.W.keepIn K (.ref fi_NoFit) = true)
    (xL_Nought : K.lookup A_Nought = some (excClassObj nm_Nought qn_Nought A_Nought N_Nought bs_Nought [.ref A_LoftError, .type "ValueError", .type "Exception", .type "BaseException", .type "object"] true sn_Nought sb_Nought ab_Nought co_Nought dd_Nought m0_Nought m1_Nought m2_Nought m3_Nought m5_Nought "ValueError.__new__"))
    (sa_Nought : PySem.W.findIn K (.ref A_Nought) "__setattr__" = some (some (.builtin "object.__setattr__")))
    (ga_Nought : PySem.W.findIn K (.ref A_Nought) "__getattribute__" = some (some (.builtin "BaseException.__getattribute__")))
    (gg_Nought : PySem.W.findIn K (.ref A_Nought) "__getattr__" = some none)
    (kC_Nought : PySem.W.keepIn K (.ref A_Nought) = true)
    (eC_Nought : PySem.W.subIn K (.ref A_Nought) (.type "BaseException") = some true)
    (tC_Nought : PySem.W.typeIn K (.ref A_Nought) = some (.type "type"))
    (hC_Nought : PySem.W.hasDictIn K A_Nought = true)
    (iC_Nought : PySem.W.isClsIn K A_Nought = true)
    (sC_Nought : PySem.W.subIn K (.ref A_Nought) (.ref A_Nought) = some true)
    (wa_Nought : PySem.W.findIn K (.ref A_Nought) "__class__" = some (some (.builtin "object.__class__")))
    (wm_Nought : PySem.W.mroIn K A_Nought (.type "object") = some true)
    (xi_Nought : PySem.W.excIn K A_Nought [.type "ValueError", .type "Exception", .type "BaseException", .type "object"] "ValueError.__new__" = true)
    (hn : PySem.W.specialIn K (.builtin "object.__class__") "__get__" = some (some (.builtin "getset_descriptor.__get__")))
    (ht : PySem.W.takesIn K (.builtin "object.__class__") = some true)
    (y_isinstance : PySem.W.nsIn K mainGlobals "isinstance" = some none)
    (y_tuple : PySem.W.nsIn K mainGlobals "tuple" = some none)
    (y_len : PySem.W.nsIn K mainGlobals "len" = some none)
    (y_all : PySem.W.nsIn K mainGlobals "all" = some none)
    (y_zip : PySem.W.nsIn K mainGlobals "zip" = some none)
    (y_bool : PySem.W.nsIn K mainGlobals "bool" = some none)
    (y_range : PySem.W.nsIn K mainGlobals "range" = some none)
    (y_str : PySem.W.nsIn K mainGlobals "str" = some none)
    (y_int : PySem.W.nsIn K mainGlobals "int" = some none)
    (y_abs : PySem.W.nsIn K mainGlobals "abs" = some none)
    (y_enumerate : PySem.W.nsIn K mainGlobals "enumerate" = some none)
    (y_max : PySem.W.nsIn K mainGlobals "max" = some none)
    (v_TRIES : PySem.W.nsIn K mainGlobals "TRIES" = some (some (.ref a_TRIES))) (w_TRIES : K.lookup a_TRIES = some ⟨.type "tuple", dd_TRIES, .seq (List.toArray [.int 8 t_TRIES_0, .int 4 t_TRIES_1, .int 2 t_TRIES_2, .int 1 t_TRIES_3]) n_TRIES, sl_TRIES⟩)
    (v_MOST_FIGURES : PySem.W.nsIn K mainGlobals "MOST_FIGURES" = some (some (.int (12) t_MOST_FIGURES)))
    (yg_are_figures : PySem.W.nsIn K mainGlobals "are_figures" = some none)
    (yg_number_told : PySem.W.nsIn K mainGlobals "number_told" = some none)
    (yg_is_name : PySem.W.nsIn K mainGlobals "is_name" = some none)
    (ec0 : cd0 = .ref ca0) (lc0 : K.lookup ca0 = some ⟨.type "code", odc0, .fields vs0, slc0⟩) (vt0 : (vs0[11]? : Option Value) = some (.ref T0)) (hd0 : PySem.W.codeHdIn K ca0 T0 = true) (nt0 : K.lookup T0 = none) :
    LamX.LawAtS l w K CX0 14 63 "_law_script" mg fa h := by
  subst ec0
  have e := hfa.symm.trans (PySem.W.mg_of X G a19)
  cases e
  have z_isinstance := PySem.W.mg_none_of X G y_isinstance
  have z_tuple := PySem.W.mg_none_of X G y_tuple
  have z_len := PySem.W.mg_none_of X G y_len
  have z_all := PySem.W.mg_none_of X G y_all
  have z_zip := PySem.W.mg_none_of X G y_zip
  have z_bool := PySem.W.mg_none_of X G y_bool
  have z_range := PySem.W.mg_none_of X G y_range
  have z_str := PySem.W.mg_none_of X G y_str
  have z_int := PySem.W.mg_none_of X G y_int
  have z_abs := PySem.W.mg_none_of X G y_abs
  have z_enumerate := PySem.W.mg_none_of X G y_enumerate
  have z_max := PySem.W.mg_none_of X G y_max
  have c_TRIES : Gcon K mg "TRIES" (.tup [(.int (8)), (.int (4)), (.int (2)), (.int (1))]) := gcon_tup (PySem.W.mg_of X G v_TRIES) w_TRIES (by show 4 ≤ 1000; decide) (.int _ (.int _ (.int _ (.int _ .nil))))
  have c_MOST_FIGURES : Gcon K mg "MOST_FIGURES" (.int (12)) := gcon_int (PySem.W.mg_of X G v_MOST_FIGURES)
  have n_NoFit := PySem.W.mg_of X G g_NoFit
  have n_Nought := PySem.W.mg_of X G g_Nought
  have n_LoftError := PySem.W.mg_of X G g_LoftError
  have T_NoFit : OexC K A_NoFit := ⟨⟨_, _, _, _, _, _, _, _, _, _, _, _, _, _, _, xL_NoFit, by first | decide +kernel | rfl | simp [PySem.HandSPX.refsVE, PySem.HandSPX.veTail]⟩, sa_NoFit, eC_NoFit, tC_NoFit, kC_NoFit⟩
  have q_NoFit : ExK K mg "NoFit" A_NoFit := ⟨n_NoFit, ⟨ga_NoFit, gg_NoFit, eC_NoFit, hC_NoFit⟩, iC_NoFit, wa_NoFit, hn, ht, wm_NoFit⟩
  have T_Nought : OexC K A_Nought := ⟨⟨_, _, _, _, _, _, _, _, _, _, _, _, _, _, _, xL_Nought, by first | decide +kernel | rfl | simp [PySem.HandSPX.refsVE, PySem.HandSPX.veTail]⟩, sa_Nought, eC_Nought, tC_Nought, kC_Nought⟩
  have q_Nought : ExK K mg "Nought" A_Nought := ⟨n_Nought, ⟨ga_Nought, gg_Nought, eC_Nought, hC_Nought⟩, iC_Nought, wa_Nought, hn, ht, wm_Nought⟩
  have F0 := fun_mk (st := s_same) l0 c0 k0
  have g0 := PySem.W.mg_of X G a0
  have b0 := F0.binds (ps := ["due", "thing"]) fun _ _ _ _ _ _ us hl => match us, hl with | [_, _], _ => rfl
  have F1 := fun_mk (st := s_ten_to) l1 c1 k1
  have g1 := PySem.W.mg_of X G a1
  have b1 := F1.binds (ps := ["many"]) fun _ _ _ _ _ _ us hl => match us, hl with | [_], _ => rfl
  have F2 := fun_mk (st := s_refuse_beyond) l2 c2 k2
  have g2 := PySem.W.mg_of X G a2
  have b2 := F2.binds (ps := ["number", "least", "most"]) fun _ _ _ _ _ _ us hl => match us, hl with | [_, _, _], _ => rfl
  have F3 := fun_mk (st := s_line_of_tries) l3 c3 k3
  have g3 := PySem.W.mg_of X G a3
  have b3 := F3.binds (ps := ["ahead", "other"]) fun _ _ _ _ _ _ us hl => match us, hl with | [_, _], _ => rfl
  have F4 := fun_mk (st := s_tries) l4 c4 k4
  have g4 := PySem.W.mg_of X G a4
  have b4 := F4.binds (ps := ["one", "other"]) fun _ _ _ _ _ _ us hl => match us, hl with | [_, _], _ => rfl
  have F5 := fun_mk (st := s_tries_hold) l5 c5 k5
  have g5 := PySem.W.mg_of X G a5
  have b5 := F5.binds (ps := ["one", "other", "paper"]) fun _ _ _ _ _ _ us hl => match us, hl with | [_, _, _], _ => rfl
  have F6 := fun_mk (st := s__law_cell) l6 c6 k6
  have g6 := PySem.W.mg_of X G a6
  have b6 := F6.binds (ps := ["_law_script", "_law_k"]) fun _ _ _ _ _ _ us hl => match us, hl with | [_, _], _ => rfl
  have F7 := fun_mk (st := s__law_mixed) l7 c7 k7
  have g7 := PySem.W.mg_of X G a7
  have b7 := F7.binds (ps := ["_law_cell_here", "_law_k", "_law_salt"]) fun _ _ _ _ _ _ us hl => match us, hl with | [_, _, _], _ => rfl
  have F8 := fun_mk (st := s__law_draws) l8 c8 k8
  have g8 := PySem.W.mg_of X G a8
  have b8 := F8.binds (ps := ["_law_cell_here", "_law_salt", "_law_widths"]) fun _ _ _ _ _ _ us hl => match us, hl with | [_, _, _], _ => rfl
  have F9 := fun_mk (st := s__law_power) l9 c9 k9
  have g9 := PySem.W.mg_of X G a9
  have b9 := F9.binds (ps := ["_law_base", "_law_many"]) fun _ _ _ _ _ _ us hl => match us, hl with | [_, _], _ => rfl
  have F10 := fun_mk (st := s__law_just) l10 c10 k10
  have g10 := PySem.W.mg_of X G a10
  have b10 := F10.binds (ps := ["_law_found", "_law_due"]) fun _ _ _ _ _ _ us hl => match us, hl with | [_, _], _ => rfl
  have F11 := fun_mk (st := s__law_paper_cells) l11 c11 k11
  have g11 := PySem.W.mg_of X G a11
  have b11 := F11.binds (ps := ["_law_thing", "_law_path"]) fun _ _ _ _ _ _ us hl => match us, hl with | [_, _], _ => rfl
  have F12 := fun_mk (st := s__law_paper_tuples) l12 c12 k12
  have g12 := PySem.W.mg_of X G a12
  have b12 := F12.binds (ps := ["_law_thing", "_law_path"]) fun _ _ _ _ _ _ us hl => match us, hl with | [_, _], _ => rfl
  have F13 := fun_mk (st := s__law_put_in) l13 c13 k13
  have g13 := PySem.W.mg_of X G a13
  have b13 := F13.binds (ps := ["_law_thing", "_law_path", "_law_part"]) fun _ _ _ _ _ _ us hl => match us, hl with | [_, _, _], _ => rfl
  have F14 := fun_mk (st := s__law_part_at) l14 c14 k14
  have g14 := PySem.W.mg_of X G a14
  have b14 := F14.binds (ps := ["_law_thing", "_law_path"]) fun _ _ _ _ _ _ us hl => match us, hl with | [_, _], _ => rfl
  have F15 := fun_mk (st := s__law_changed) l15 c15 k15
  have g15 := PySem.W.mg_of X G a15
  have b15 := F15.binds (ps := ["_law_part", "_law_way", "_law_number"]) fun _ _ _ _ _ _ us hl => match us, hl with | [_, _, _], _ => rfl
  have F16 := fun_mk (st := s__law_paper_spoilt) l16 c16 k16
  have g16 := PySem.W.mg_of X G a16
  have b16 := F16.binds (ps := ["_law_paper", "_law_way", "_law_at", "_law_to", "_law_number", "_law_lines"]) fun _ _ _ _ _ _ us hl => match us, hl with | [_, _, _, _, _, _], _ => rfl
  have F17 := fun_mk (st := s__law_tries) l17 c17 k17
  have g17 := PySem.W.mg_of X G a17
  have b17 := F17.binds (ps := ["_law_one", "_law_other"]) fun _ _ _ _ _ _ us hl => match us, hl with | [_, _], _ => rfl
  have F18 := fun_mk (st := s__law_some_whole) l18 c18 k18
  have g18 := PySem.W.mg_of X G a18
  have b18 := F18.binds (ps := ["_law_way", "_law_far", "_law_many"]) fun _ _ _ _ _ _ us hl => match us, hl with | [_, _, _], _ => rfl
  have F19 := fun_mk (st := s_law) l19 c19 k19
  have g19 := PySem.W.mg_of X G a19
  have b19 := F19.binds (ps := ["_law_script"]) fun _ _ _ _ _ _ us hl => match us, hl with | [_], _ => rfl
  have Fi_NoFit := fun_mk (st := si_NoFit) il_NoFit ic_NoFit ik_NoFit
  have bi_NoFit := Fi_NoFit.binds (ps := ["self", "number"]) fun _ _ _ _ _ _ us hl => match us, hl with | [_, _], _ => rfl
  refine law_atG (fd := PySem.W.fnOf "law" "law" (defArgs s_law) (defBody s_law) (defScope s_law) .none kV19 dc19 pm19 an19 cd19 ct19) X [("same", ca0, T0)] ?hcs ?hall ?hnt ?htb (fun s v => .of_eq rfl) hlaw (fun base _ _ TB => ?main)
  case main =>
    have TB0 : GxR.TabB base mg ca0 T0 := TB ("same", ca0, T0) (by simp)
    have tp0 : TabP K mg "same" ca0 T0 := ⟨by decide, _, _, _, _, _, g0, l0, rfl, hd0⟩
    have r_Nought : Xc0 l.prog w K mg base "Nought" := ⟨_, n_Nought, xi_Nought, kC_Nought, eC_Nought, tC_Nought⟩
    have r_NoFit : Xc1 l.prog w K mg base "NoFit" "number" := ⟨_, _, _, _, n_NoFit, T_NoFit, ia_NoFit, it_NoFit, ini_NoFit Fi_NoFit, bi_NoFit, no_NoFit_number⟩
    have h_same : Cal l.prog w K mg base "same" 12 (m_same 6) := ok_same z_isinstance z_tuple z_len z_all z_zip z_bool tp0 TB0 F0 g0 b0
    have h_ten_to : Cal l.prog w K mg base "ten_to" 1 m_ten_to := ok_ten_to z_range F1 g1 b1
    have h_refuse_beyond : CalX l.prog w K mg base "refuse_beyond" 3 m_refuse_beyond := ok_refuse_beyond r_NoFit F2 g2 b2
    have h_line_of_tries : Cal l.prog w K mg base "line_of_tries" 1 m_line_of_tries := ok_line_of_tries z_tuple c_TRIES F3 g3 b3
    have h_tries : CalX l.prog w K mg base "tries" 4 m_tries := ok_tries h_ten_to h_refuse_beyond h_line_of_tries z_str z_int z_tuple c_MOST_FIGURES r_Nought F4 g4 b4
    have h_tries_hold : Cal l.prog w K mg base "tries_hold" 13 m_tries_hold := ok_tries_hold h_same h_tries F5 g5 b5
    have h__law_cell : Cal l.prog w K mg base "_law_cell" 1 m__law_cell := ok__law_cell z_len F6 g6 b6
    have h__law_mixed : Cal l.prog w K mg base "_law_mixed" 1 m__law_mixed := ok__law_mixed F7 g7 b7
    have h__law_draws : Cal l.prog w K mg base "_law_draws" 2 m__law_draws := ok__law_draws h__law_mixed z_abs z_range z_len F8 g8 b8
    have h__law_power : Cal l.prog w K mg base "_law_power" 1 m__law_power := ok__law_power z_range F9 g9 b9
    have h__law_just : Cal l.prog w K mg base "_law_just" 6 (m__law_just 6) := ok__law_just z_isinstance z_tuple z_len z_all z_zip z_str z_int z_bool F10 g10 b10
    have h__law_paper_cells : Cal l.prog w K mg base "_law_paper_cells" 6 (m__law_paper_cells 6) := ok__law_paper_cells z_isinstance z_tuple z_enumerate F11 g11 b11
    have h__law_paper_tuples : Cal l.prog w K mg base "_law_paper_tuples" 6 (m__law_paper_tuples 6) := ok__law_paper_tuples z_isinstance z_tuple z_len z_enumerate F12 g12 b12
    have h__law_put_in : Cal l.prog w K mg base "_law_put_in" 6 (m__law_put_in 6) := ok__law_put_in z_len F13 g13 b13
    have h__law_part_at : Cal l.prog w K mg base "_law_part_at" 1 m__law_part_at := ok__law_part_at F14 g14 b14
    have h__law_changed : Cal l.prog w K mg base "_law_changed" 1 m__law_changed := ok__law_changed z_str z_isinstance z_int z_bool F15 g15 b15
    have h__law_paper_spoilt : Cal l.prog w K mg base "_law_paper_spoilt" 7 m__law_paper_spoilt := ok__law_paper_spoilt h__law_paper_cells h__law_put_in h__law_changed h__law_part_at h__law_paper_tuples z_len F16 g16 b16
    have h__law_tries : Cal l.prog w K mg base "_law_tries" 1 m__law_tries := ok__law_tries z_str z_int z_tuple F17 g17 b17
    have h__law_some_whole : Cal l.prog w K mg base "_law_some_whole" 2 m__law_some_whole := ok__law_some_whole h__law_power F18 g18 b18
    exact fn_law h__law_draws h__law_cell h__law_some_whole h__law_tries h__law_paper_spoilt h_tries_hold h__law_just z_max z_isinstance z_bool F19
  case hcs =>
    intro p hp; simp only [List.mem_cons, List.not_mem_nil, or_false] at hp
    rcases hp with rfl
    · exact ⟨(show ("same" : Str) ∈ GN by decide), _, _, _, _, _, g0, l0, rfl, hd0⟩
  case hall =>
    intro y hy; simp only [GN, List.mem_cons, List.not_mem_nil, or_false] at hy
    rcases hy with rfl | rfl | rfl | rfl
    · exact .inl (PySem.W.mg_none_of X G yg_are_figures)
    · exact .inl (PySem.W.mg_none_of X G yg_number_told)
    · exact .inr ⟨("same", ca0, T0), by simp, rfl⟩
    · exact .inl (PySem.W.mg_none_of X G yg_is_name)
  case hnt =>
    intro p hp; simp only [List.mem_cons, List.not_mem_nil, or_false] at hp
    rcases hp with rfl
    · exact nt0
  case htb =>
    intro p hp; simp only [List.mem_cons, List.not_mem_nil, or_false] at hp
    rcases hp with rfl
    · exact tb0
end Lw

open PySem PySem.W PyProof.Rows
set_option maxRecDepth 100000 in
set_option maxHeartbeats 0 in
theorem PySem.Challenge.cw_tensloft_k80_tries_looked_at_holds : PySem.Challenge.rw_tensloft_k80_tries_looked_at.Holds := by
  w_on; o_law; k_head; (case hw => w_witness2)
  k_fill
  refine Tl.walk_ofG ["same"] (l := PySem.Challenge.rw_tensloft_k80_tries_looked_at) (n := 63) (k := 14) (x := "_law_script") (CX := fun _ => L2.CX0) rfl (by decide) rfl ⟨rfl, by decide, by decide⟩ (fun w h Y => PySem.W.kIn_of Y) (by decide +kernel) ?F (fun _ _ _ _ _ h => h)
  case F =>
    intro w mg fa h KX G hmg htab
    refine' Lw.all_mk KX G hmg Lw.law_true (htab _ (by simp)) ?a0 ?l0 ?c0 ?k0 ?a1 ?l1 ?c1 ?k1 ?a2 ?l2 ?c2 ?k2 ?a3 ?l3 ?c3 ?k3 ?a4 ?l4 ?c4 ?k4 ?a5 ?l5 ?c5 ?k5 ?a6 ?l6 ?c6 ?k6 ?a7 ?l7 ?c7 ?k7 ?a8 ?l8 ?c8 ?k8 ?a9 ?l9 ?c9 ?k9 ?a10 ?l10 ?c10 ?k10 ?a11 ?l11 ?c11 ?k11 ?a12 ?l12 ?c12 ?k12 ?a13 ?l13 ?c13 ?k13 ?a14 ?l14 ?c14 ?k14 ?a15 ?l15 ?c15 ?k15 ?a16 ?l16 ?c16 ?k16 ?a17 ?l17 ?c17 ?k17 ?a18 ?l18 ?c18 ?k18 ?a19 ?l19 ?c19 ?k19 ?g_NoFit ?g_Nought ?g_LoftError ?xL_NoFit ?sa_NoFit ?ga_NoFit ?gg_NoFit ?kC_NoFit ?eC_NoFit ?tC_NoFit ?hC_NoFit ?iC_NoFit ?sC_NoFit ?wa_NoFit ?wm_NoFit ?no_NoFit_number ?ia_NoFit ?it_NoFit ?il_NoFit ?ic_NoFit ?ik_NoFit ?xL_Nought ?sa_Nought ?ga_Nought ?gg_Nought ?kC_Nought ?eC_Nought ?tC_Nought ?hC_Nought ?iC_Nought ?sC_Nought ?wa_Nought ?wm_Nought ?xi_Nought ?hn ?ht ?y_isinstance ?y_tuple ?y_len ?y_all ?y_zip ?y_bool ?y_range ?y_str ?y_int ?y_abs ?y_enumerate ?y_max ?v_TRIES ?w_TRIES ?v_MOST_FIGURES ?yg_are_figures ?yg_number_told ?yg_is_name ?ec0 ?lc0 ?vt0 ?hd0 ?nt0
    (case a0 => k_is); (case l0 => k_is); (case c0 => k_is); (case k0 => k_is); (case a1 => k_is); (case l1 => k_is); (case c1 => k_is); (case k1 => k_is); (case a2 => k_is); (case l2 => k_is); (case c2 => k_is); (case k2 => k_is); (case a3 => k_is); (case l3 => k_is); (case c3 => k_is); (case k3 => k_is); (case a4 => k_is); (case l4 => k_is); (case c4 => k_is); (case k4 => k_is); (case a5 => k_is); (case l5 => k_is); (case c5 => k_is); (case k5 => k_is); (case a6 => k_is); (case l6 => k_is); (case c6 => k_is); (case k6 => k_is); (case a7 => k_is); (case l7 => k_is); (case c7 => k_is); (case k7 => k_is); (case a8 => k_is); (case l8 => k_is); (case c8 => k_is); (case k8 => k_is); (case a9 => k_is); (case l9 => k_is); (case c9 => k_is); (case k9 => k_is); (case a10 => k_is); (case l10 => k_is); (case c10 => k_is); (case k10 => k_is); (case a11 => k_is); (case l11 => k_is); (case c11 => k_is); (case k11 => k_is); (case a12 => k_is); (case l12 => k_is); (case c12 => k_is); (case k12 => k_is); (case a13 => k_is); (case l13 => k_is); (case c13 => k_is); (case k13 => k_is); (case a14 => k_is); (case l14 => k_is); (case c14 => k_is); (case k14 => k_is); (case a15 => k_is); (case l15 => k_is); (case c15 => k_is); (case k15 => k_is); (case a16 => k_is); (case l16 => k_is); (case c16 => k_is); (case k16 => k_is); (case a17 => k_is); (case l17 => k_is); (case c17 => k_is); (case k17 => k_is); (case a18 => k_is); (case l18 => k_is); (case c18 => k_is); (case k18 => k_is); (case a19 => k_is); (case l19 => k_is); (case c19 => k_is); (case k19 => k_is); (case g_NoFit => k_is); (case g_Nought => k_is); (case g_LoftError => k_is); (case xL_NoFit => k_is); (case sa_NoFit => k_is); (case ga_NoFit => k_is); (case gg_NoFit => k_is); (case kC_NoFit => k_is); (case eC_NoFit => k_is); (case tC_NoFit => k_is); (case hC_NoFit => k_is); (case iC_NoFit => k_is); (case sC_NoFit => first | rfl | k_is); (case wa_NoFit => k_is); (case wm_NoFit => k_is); (case no_NoFit_number => k_is); (case ia_NoFit => k_is); (case it_NoFit => k_is); (case il_NoFit => k_is); (case ic_NoFit => k_is); (case ik_NoFit => k_is); (case xL_Nought => k_is); (case sa_Nought => k_is); (case ga_Nought => k_is); (case gg_Nought => k_is); (case kC_Nought => k_is); (case eC_Nought => k_is); (case tC_Nought => k_is); (case hC_Nought => k_is); (case iC_Nought => k_is); (case sC_Nought => first | rfl | k_is); (case wa_Nought => k_is); (case wm_Nought => k_is); (case xi_Nought => k_exc); (case hn => k_is); (case ht => k_is); (case y_isinstance => k_is); (case y_tuple => k_is); (case y_len => k_is); (case y_all => k_is); (case y_zip => k_is); (case y_bool => k_is); (case y_range => k_is); (case y_str => k_is); (case y_int => k_is); (case y_abs => k_is); (case y_enumerate => k_is); (case y_max => k_is); (case v_TRIES => k_is); (case w_TRIES => k_is); (case v_MOST_FIGURES => k_is); (case yg_are_figures => k_is); (case yg_number_told => k_is); (case yg_is_name => k_is); (case ec0 => rfl); (case lc0 => k_is); (case vt0 => rfl); (case hd0 => first | k_is | decide | rfl); (case nt0 => kernel_rfl)
