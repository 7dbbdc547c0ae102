import PyProof.Rows.All
import Wide.All
import OpenK.AllK
import Wide.FinOn
import HandS.ForMost
import HandS.Flow
import HandS.IsInst
import HandS.Star
import HandS.Zip
import HandS.Wide
import HandS.WideBits
import HandS.Deep
import HandS.TupAny
import HandS.TupMul
import HandS.TupLe
import HandS.Walk
import HandS.Ends
import HandS.Flt
import HandS.More
import PyProof.ReprRoads
import HandS.Style
import PySem.Challenge.RW_lettermend_k11_whole_bound_and_what_reac
set_option Elab.async false
set_option linter.all false
set_option maxRecDepth 100000
set_option maxHeartbeats 4000100
namespace DL
open L2 PySem PySem.Spec PyProof.Rows

/-- the well of the draws: three numbers -/
abbrev Wl := Int × Int × Int
/-- what a name holds: nothing known, data that no one changes, a list of one's own, the well, the script -/
inductive Sl where
  | no | dat (d : PyData) | own (ds : List PyData) | well | scr (ns : List Int)
abbrev Vw := List Sl

/-! data as it stands in a heap: lists are tracked ones -/
mutual
inductive Da (K : PySem.W.Frag) (F : Hp) : V → PyData → Prop
  | non : Da K F .non .none
  | bl (b : Bool) : Da K F (.bl b) (.bool b)
  | int (i : Int) : Da K F (.int i) (.int i)
  | str (x : Str) : Da K F (.str x) (.str x)
  | lst {a : Addr} {xs : List V} {ds : List PyData} : F a = some (.lst xs) → DaAll K F xs ds → Da K F (.ref a) (.list ds)
  | tup {a : Addr} {xs : List V} {ds : List PyData} : SqT K F a xs → DaAll K F xs ds → Da K F (.ref a) (.tuple ds)
inductive DaAll (K : PySem.W.Frag) (F : Hp) : List V → List PyData → Prop
  | nil : DaAll K F [] []
  | cons {v : V} {vs : List V} {d : PyData} {ds : List PyData} : Da K F v d → DaAll K F vs ds → DaAll K F (v :: vs) (d :: ds)
end
theorem same_t {K : PySem.W.Frag} {H H' : Hp} {a : Addr} {xs : List V} (e : Same H H') (hs : SqT K H a xs) : SqT K H' a xs := by
  rcases hs with (h | ⟨o, h⟩) | h
  · exact .inl (.inl (e _ _ h))
  · refine .inl (.inr ⟨o, ?_⟩); exact e _ _ h
  · exact .inr h
mutual
theorem da_mono {K : PySem.W.Frag} {F H : Hp} (e : Same F H) : ∀ (d : PyData) (v : V), Da K F v d → Da K H v d
  | .none, _, h => by cases h; exact .non
  | .bool b, _, h => by cases h; exact .bl b
  | .int i, _, h => by cases h; exact .int i
  | .str x, _, h => by cases h; exact .str x
  | .list ds, _, h => by
    cases h with
    | lst hs ha => exact .lst (e _ _ hs) (daAll_mono e ds _ ha)
  | .tuple ds, _, h => by
    cases h with
    | tup hs ha => exact .tup (same_t e hs) (daAll_mono e ds _ ha)
  | .dict _, _, h => by cases h
theorem daAll_mono {K : PySem.W.Frag} {F H : Hp} (e : Same F H) : ∀ (ds : List PyData) (vs : List V), DaAll K F vs ds → DaAll K H vs ds
  | [], _, h => by cases h; exact .nil
  | d :: ds, _, h => by
    cases h with
    | cons h1 h2 => exact .cons (da_mono e d _ h1) (daAll_mono e ds _ h2)
end
mutual
theorem da_dp {K : PySem.W.Frag} {F : Hp} : ∀ (d : PyData) (v : V), Da K F v d → Dp K F v d
  | .none, _, h => by cases h; exact .non
  | .bool b, _, h => by cases h; exact .bl b
  | .int i, _, h => by cases h; exact .int i
  | .str x, _, h => by cases h; exact .str x
  | .list ds, _, h => by
    cases h with
    | lst hs ha => exact .lst (SqL.of hs) (daAll_dp ds _ ha)
  | .tuple ds, _, h => by
    cases h with
    | tup hs ha => exact .tup hs (daAll_dp ds _ ha)
  | .dict _, _, h => by cases h
theorem daAll_dp {K : PySem.W.Frag} {F : Hp} : ∀ (ds : List PyData) (vs : List V), DaAll K F vs ds → DpAll K F vs ds
  | [], _, h => by cases h; exact .nil
  | d :: ds, _, h => by
    cases h with
    | cons h1 h2 => exact .cons (da_dp d _ h1) (daAll_dp ds _ h2)
end
theorem all_len {K : PySem.W.Frag} {F : Hp} : ∀ {vs : List V} {ds : List PyData}, DaAll K F vs ds → vs.length = ds.length
  | _, _, .nil => rfl
  | _, _, .cons _ h => congrArg (· + 1) (all_len h)
theorem all_app {K : PySem.W.Frag} {F : Hp} : ∀ {vs us : List V} {ds es : List PyData}, DaAll K F vs ds → DaAll K F us es → DaAll K F (vs ++ us) (ds ++ es)
  | _, _, _, _, .nil, h => h
  | _, _, _, _, .cons a b, h => .cons a (all_app b h)
theorem all_get {K : PySem.W.Frag} {F : Hp} : ∀ {vs : List V} {ds : List PyData} {i : Nat} {d : PyData}, DaAll K F vs ds → ds[i]? = some d → ∃ v, vs[i]? = some v ∧ Da K F v d
  | _, _, 0, _, .cons a _, e => by simp at e; subst e; exact ⟨_, rfl, a⟩
  | _, _, i + 1, d, .cons _ b, e => by
    obtain ⟨v, h1, h2⟩ := all_get (i := i) (d := d) b (by simpa using e)
    exact ⟨v, by simpa using h1, h2⟩

/-- what may be added to the part that stands: new things alone -/
structure Gr (H F F' : Hp) : Prop where
  le : Same F F'
  nw : ∀ b, F b = none → H b ≠ none → F' b = none
/-- all but the well is kept -/
def Kp (wo : Option Addr) (H H' : Hp) : Prop := ∀ b o, wo ≠ some b → H b = some o → H' b = some o
/-- where the well stands -/
def Wel (wo : Option Addr) (F H : Hp) (w : Wl) : Prop := ∀ a, wo = some a → F a = none ∧ H a = some (.lst [.int w.1, .int w.2.1, .int w.2.2])

theorem Gr.refl (H F : Hp) : Gr H F F := ⟨Same.refl F, fun _ h _ => h⟩
theorem Kp.refl (wo) (H : Hp) : Kp wo H H := fun _ _ _ h => h
theorem Kp.trans {wo} {H H1 H2 : Hp} (a : Kp wo H H1) (b : Kp wo H1 H2) : Kp wo H H2 := fun c o n h => b c o n (a c o n h)
/-- what stands stays there: the well too, told by w -/
theorem Gr.trans {wo} {H H1 F F1 F2 : Hp} {w : Wl} (a : Gr H F F1) (b : Gr H1 F1 F2) (k : Kp wo H H1) (q : Wel wo F1 H1 w) : Gr H F F2 :=
  ⟨a.le.trans b.le, fun c n h => b.nw c (a.nw c n h) (by
    by_cases e : wo = some c
    · rw [(q c e).2]; exact fun z => nomatch z
    · cases z : H c with
      | none => exact absurd z h
      | some o => rw [k c o e z]; exact fun z => nomatch z)⟩

def SlOk (K : PySem.W.Frag) (wo : Option Addr) (H0 F H : Hp) : Sl → Option (Option V) → Prop
  | .no, _ => True
  | .dat d, x => ∃ v, x = some (some v) ∧ Da K F v d
  | .own ds, x => ∃ p vs, x = some (some (.ref p)) ∧ H0 p = none ∧ F p = none ∧ wo ≠ some p ∧ H p = some (.lst vs) ∧ DaAll K F vs ds
  | .well, x => ∃ a, wo = some a ∧ x = some (some (.ref a))
  | .scr ns, x => ∃ a, x = some (some (.ref a)) ∧ ∀ G, Kp wo H0 G → SqL K G a (ns.map V.int)

/-- the state: what stands (F) is part of the heap; the well; what each name holds; lists of one's own are told apart -/
structure Rel (K : PySem.W.Frag) (wo : Option Addr) (H0 F : Hp) (η : Vw) (w : Wl) (σ : L2.St) (H : Hp) : Prop where
  sub : Same F H
  wel : Wel wo F H w
  ent : Kp wo H0 H
  len : σ.length = η.length
  slt : ∀ (i : Nat) (s : Sl), η[i]? = some s → SlOk K wo H0 F H s σ[i]?
  sep : ∀ (i j : Nat) (p : Addr) (ds es : List PyData), η[i]? = some (.own ds) → η[j]? = some (.own es) → σ[i]? = some (some (.ref p)) → σ[j]? = some (some (.ref p)) → i = j

section
variable {K : PySem.W.Frag} {wo : Option Addr} {H0 F H : Hp} {η : Vw} {w : Wl} {σ : L2.St}
/-- a new thing that stands -/
theorem Rel.new (R : Rel K wo H0 F η w σ H) {p : Addr} (n : H p = none) (o : HO) : Rel K wo H0 (upd F p o) η w σ (upd H p o) := by
  have nF : F p = none := R.sub.free n
  have neH : ∀ {b : Addr} {u : HO}, H b = some u → b ≠ p := fun h => ne_of_none h n
  have le : Same F (upd F p o) := fun b u e => by rw [upd_ne (ne_of_none e nF)]; exact e
  refine ⟨fun b u e => ?_, fun a e => ?_, fun b u ne e => ?_, R.len, fun i s e => ?_, R.sep⟩
  · by_cases h : b = p
    · subst h; rw [upd_same] at e ⊢; exact e
    · rw [upd_ne h] at e ⊢; exact R.sub b u e
  · obtain ⟨h1, h2⟩ := R.wel a e
    exact ⟨by rw [upd_ne (neH h2)]; exact h1, by rw [upd_ne (neH h2)]; exact h2⟩
  · have h := R.ent b u ne e
    rw [upd_ne (neH h)]; exact h
  · have h := R.slt i s e
    cases s with
    | no => trivial
    | dat d => obtain ⟨v, h1, h2⟩ := h; exact ⟨v, h1, da_mono le _ _ h2⟩
    | scr _ => exact h
    | well => exact h
    | own ds =>
      obtain ⟨q, vs, h1, h2, h3, h4, h5, h6⟩ := h
      exact ⟨q, vs, h1, h2, by rw [upd_ne (neH h5)]; exact h3, h4, by rw [upd_ne (neH h5)]; exact h5, daAll_mono le _ _ h6⟩
/-- a new thing that isn't put among what stands -/
theorem Rel.mute (R : Rel K wo H0 F η w σ H) {p : Addr} (n : H p = none) (o : HO) : Rel K wo H0 F η w σ (upd H p o) := by
  have neH : ∀ {b : Addr} {u : HO}, H b = some u → b ≠ p := fun h => ne_of_none h n
  refine ⟨fun b u e => ?_, fun a e => ?_, fun b u ne e => ?_, R.len, fun i s e => ?_, R.sep⟩
  · have h := R.sub b u e
    rw [upd_ne (neH h)]; exact h
  · obtain ⟨h1, h2⟩ := R.wel a e
    exact ⟨h1, by rw [upd_ne (neH h2)]; exact h2⟩
  · have h := R.ent b u ne e
    rw [upd_ne (neH h)]; exact h
  · have h := R.slt i s e
    cases s with
    | no => trivial
    | dat d => exact h
    | scr _ => exact h
    | well => exact h
    | own ds =>
      obtain ⟨q, vs, h1, h2, h3, h4, h5, h6⟩ := h
      exact ⟨q, vs, h1, h2, h3, h4, by rw [upd_ne (neH h5)]; exact h5, h6⟩
theorem gr_new {p : Addr} {o : HO} (s : Same F H) (n : H p = none) : Gr H F (upd F p o) :=
  ⟨fun b u e => by rw [upd_ne (ne_of_none e (s.free n))]; exact e, fun b h1 h2 => by
    by_cases e : b = p
    · subst e; exact absurd n h2
    · rw [upd_ne e]; exact h1⟩
theorem kp_new {p : Addr} {o : HO} (n : H p = none) : Kp wo H (upd H p o) := fun b u _ e => by rw [upd_ne (ne_of_none e n)]; exact e
end

/-! ### the judgements -/
abbrev FE := Vw → Wl → Option (PyData × Wl)
abbrev FT := Vw → Wl → Option (Bool × Wl)
abbrev FA := Vw → Wl → Option (List PyData × Wl)
/-- an expression's reading gives data; a test's, an argument list's; a new list; a list (true) or a tuple (false) that is looked at alone -/
def EvE (K : PySem.W.Frag) (t : TE) (f : FE) : Prop := ∀ wo H0 F η w σ H, Rel K wo H0 F η w σ H → ∀ d w', f η w = some (d, w') →
  ∀ Q : VK, (∀ F' H' v, Gr H F F' → Kp wo H H' → Rel K wo H0 F' η w' σ H' → Da K F' v d → Q v H') → t σ H Q
def EvT (K : PySem.W.Frag) (t : TT) (f : FT) : Prop := ∀ wo H0 F η w σ H, Rel K wo H0 F η w σ H → ∀ b w', f η w = some (b, w') →
  ∀ Q : Bool → Hp → Prop, (∀ F' H', Gr H F F' → Kp wo H H' → Rel K wo H0 F' η w' σ H' → Q b H') → t σ H Q
def EvA (K : PySem.W.Frag) (t : TA) (f : FA) : Prop := ∀ wo H0 F η w σ H, Rel K wo H0 F η w σ H → ∀ ds w', f η w = some (ds, w') →
  ∀ Q : List V → Hp → Prop, (∀ F' H' vs, Gr H F F' → Kp wo H H' → Rel K wo H0 F' η w' σ H' → DaAll K F' vs ds → Q vs H') → t σ H Q
def EvN (K : PySem.W.Frag) (t : TE) (f : FA) : Prop := ∀ wo H0 F η w σ H, Rel K wo H0 F η w σ H → ∀ ds w', f η w = some (ds, w') →
  ∀ Q : VK, (∀ F' H' p vs, Gr H F F' → Kp wo H H' → Rel K wo H0 F' η w' σ H' → H p = none → F' p = none → wo ≠ some p → H' p = some (.lst vs) → DaAll K F' vs ds → Q (.ref p) H') → t σ H Q
abbrev FQ := Vw → Wl → Option ((Bool × List PyData) × Wl)
def EvQ (K : PySem.W.Frag) (t : TE) (f : FQ) : Prop := ∀ wo H0 F η w σ H, Rel K wo H0 F η w σ H → ∀ l ds w', f η w = some ((l, ds), w') →
  ∀ Q : VK, (∀ F' H' p vs, Gr H F F' → Kp wo H H' → Rel K wo H0 F' η w' σ H' → (if l = true then H' p = some (.lst vs) ∧ wo ≠ some p else SqT K H' p vs) → DaAll K F' vs ds → Q (.ref p) H') → t σ H Q
structure DE (X : Cx) (e : Expr) (t : TE) (f : FE) : Prop where
  p : PE X e t
  q : EvE X.K t f
structure DT (X : Cx) (e : Expr) (t : TT) (f : FT) : Prop where
  p : PT X e t
  q : EvT X.K t f
structure DW (X : Cx) (e : Expr) (t : TT) (f : FT) : Prop where
  p : PW X e t
  q : EvT X.K t f
structure DA (X : Cx) (es : List Expr) (t : TA) (f : FA) : Prop where
  p : PA X es t
  q : EvA X.K t f
structure DN (X : Cx) (e : Expr) (t : TE) (f : FA) : Prop where
  p : PE X e t
  q : EvN X.K t f
structure DQ (X : Cx) (e : Expr) (t : TE) (f : FQ) : Prop where
  p : PE X e t
  q : EvQ X.K t f

section
variable {X : Cx}
def slAt : Vw → Nat → Sl
  | [], _ => .no
  | s :: _, 0 => s
  | _ :: r, i + 1 => slAt r i
theorem slAt_some : ∀ {η : Vw} {i : Nat} {s : Sl}, slAt η i = s → s ≠ .no → η[i]? = some s
  | [], _, _, e, n => absurd e.symm n
  | a :: r, 0, s, e, _ => by
    have e : a = s := e
    rw [e]; rfl
  | _ :: r, i + 1, s, e, n => by
    have h := slAt_some (η := r) (i := i) (s := s) e n
    rw [List.getElem?_cons_succ]; exact h
def fVar (i : Nat) : FE := fun η w => match slAt η i with
  | .dat d => some (d, w)
  | _ => none
theorem de_var (i : Nat) {x : Str} {pos : Pos} (hN : X.N[i]? = some x := by rfl) (hv : Vis X.env.scope x := by first | exact Or.inl rfl | exact Or.inr (Or.inl rfl) | exact Or.inr (Or.inr rfl)) (hd : (x == ("__debug__" : Str)) = false := by decide)
    (hcd : (x == ("__classdict__" : Str)) = false := by decide) : DE X (.Name x pos) (tVar i) (fVar i) := by
  refine ⟨pe_var hN hv hd hcd, fun wo H0 F η w σ H R d w' e Q q => ?_⟩
  have e' : (match slAt η i with | .dat d => some (d, w) | _ => none) = some (d, w') := e
  cases h : slAt η i with
  | dat d0 =>
    rw [h] at e'
    cases e'
    obtain ⟨v, h1, h2⟩ := R.slt i _ (slAt_some h (fun z => nomatch z))
    exact ⟨v, h1, q F H v (Gr.refl _ _) (Kp.refl _ _) R h2⟩
  | no => rw [h] at e'; cases e'
  | own _ => rw [h] at e'; cases e'
  | scr _ => rw [h] at e'; cases e'
  | well => rw [h] at e'; cases e'
end
end DL
namespace DL
open L2 PySem PySem.Spec PyProof.Rows

section
variable {X : Cx} {a b c : Expr} {es : List Expr} {fa fb fc : FE} {pos : Pos} {ta tb tc : TE} {ua ub : TT}
/-! ### constants -/
def fC (d : PyData) : FE := fun _ w => some (d, w)
theorem de_c {e : Expr} {v : V} {d : PyData} (h : PE X e (tC v)) (hd : ∀ F, Da X.K F v d) : DE X e (tC v) (fC d) := by
  refine ⟨h, fun wo H0 F η w σ H R d' w' e Q q => ?_⟩
  cases e
  exact q F H v (Gr.refl _ _) (Kp.refl _ _) R (hd F)
theorem de_int {i : Int} {j} : DE X (.Constant (.int i) j pos) (tC (.int i)) (fC (.int i)) := de_c pe_int fun _ => .int i
theorem de_bl {i : Bool} {j} : DE X (.Constant (.bool i) j pos) (tC (.bl i)) (fC (.bool i)) := de_c pe_bl fun _ => .bl i
theorem de_non {j} : DE X (.Constant .none j pos) (tC .non) (fC .none) := de_c pe_non fun _ => .non
theorem de_str {i : Str} {j} : DE X (.Constant (.str i) j pos) (tC (.str i)) (fC (.str i)) := de_c pe_str fun _ => .str i

/-! ### two operands -/
def f2 (g : PyData → PyData → Option PyData) (fa fb : FE) : FE := fun η w => (fa η w).bind fun x => (fb η x.2).bind fun y => (g x.1 y.1).bind fun z => some (z, y.2)
theorem bind_some {α β : Type} {o : Option α} {f : α → Option β} {z : β} (h : o.bind f = some z) : ∃ x, o = some x ∧ f x = some z := by
  cases o with
  | none => cases h
  | some x => exact ⟨x, rfl, h⟩
/-- an operation on values that is one on data -/
def RD (K : PySem.W.Frag) (r : R2) (g : PyData → PyData → Option PyData) : Prop := ∀ wo H0 F η w σ H, Rel K wo H0 F η w σ H → ∀ x y a b z, Da K F x a → Da K F y b → g a b = some z →
  ∀ Q : VK, (∀ F' H' v, Gr H F F' → Kp wo H H' → Rel K wo H0 F' η w σ H' → Da K F' v z → Q v H') → r x y H Q
/-- its answer needs no heap -/
theorem rd_flat {K : PySem.W.Frag} {r : R2} {g : PyData → PyData → Option PyData} (h : ∀ F H x y a b z, Same F H → Da K F x a → Da K F y b → g a b = some z → ∃ v, (∀ F, Da K F v z) ∧ ∀ Q : VK, Q v H → r x y H Q) : RD K r g :=
  fun wo H0 F η w σ H R x y a b z dx dy e Q q => by
    obtain ⟨v, h1, h2⟩ := h F H x y a b z R.sub dx dy e
    exact h2 Q (q F H v (Gr.refl _ _) (Kp.refl _ _) R (h1 F))
/-- either -/
def gOr (g g' : PyData → PyData → Option PyData) : PyData → PyData → Option PyData := fun a b => match g a b with
  | some z => some z
  | none => g' a b
theorem rd_or {K : PySem.W.Frag} {r r' : R2} {g g' : PyData → PyData → Option PyData} (h : RD K r g) (h' : RD K r' g') : RD K (fun x y H Q => r x y H Q ∨ r' x y H Q) (gOr g g') :=
  fun wo H0 F η w σ H R x y a b z dx dy e Q q => by
    unfold gOr at e
    cases eg : g a b with
    | some z' =>
      rw [eg] at e
      cases e
      exact .inl (h _ _ _ _ _ _ _ R x y a b z dx dy eg Q q)
    | none =>
      rw [eg] at e
      exact .inr (h' _ _ _ _ _ _ _ R x y a b z dx dy e Q q)
theorem two {r : R2} {g} (hr : RD X.K r g) (qa : EvE X.K ta fa) (qb : EvE X.K tb fb) : EvE X.K (tOp r ta tb) (f2 g fa fb) := by
  intro wo H0 F η w σ H R d w' e Q q
  obtain ⟨⟨a, w1⟩, ea, e⟩ := bind_some e
  obtain ⟨⟨b, w2⟩, eb, e⟩ := bind_some e
  obtain ⟨z, ez, e⟩ := bind_some e
  cases e
  refine qa _ _ _ _ _ _ _ R _ _ ea _ fun F1 H1 x g1 k1 R1 d1 => ?_
  refine qb _ _ _ _ _ _ _ R1 _ _ eb _ fun F2 H2 y g2 k2 R2 d2 => ?_
  refine hr _ _ _ _ _ _ _ R2 x y _ _ _ (da_mono g2.le _ _ d1) d2 ez Q fun F3 H3 v g3 k3 R3 d3 => ?_
  exact q F3 H3 v (g1.trans (g2.trans g3 k2 R2.wel) k1 R1.wel) (k1.trans (k2.trans k3)) R3 d3
theorem de_bin {op : Operator} {r : R2} {g} (ho : OpR X (binaryOp op) r) (hr : RD X.K r g) (ha : DE X a ta fa) (hb : DE X b tb fb) : DE X (.BinOp a op b pos) (tOp r ta tb) (f2 g fa fb) := ⟨pe_op ho ha.p hb.p, two hr ha.q hb.q⟩
theorem de_cmp {op : CmpOp} {r : R2} {g} (ho : OpR X (compareOp op) r) (hr : RD X.K r g) (ha : DE X a ta fa) (hb : DE X b tb fb) (hm : behindInMarks op b = false) : DE X (.Compare a [op] [b] pos) (tOp r ta tb) (f2 g fa fb) := ⟨pe_cmpR ho ha.p hb.p hm, two hr ha.q hb.q⟩
/-- a value as a test -/
def fB (f : FE) : FT := fun η w => (f η w).bind fun x => match x.1 with
  | .bool b => some (b, x.2)
  | _ => none
theorem test_of {f : FE} {t : TE} (qa : EvE X.K t f) : EvT X.K (tTest t) (fB f) := by
  intro wo H0 F η w σ H R b w' e Q q
  obtain ⟨⟨d, w1⟩, ea, e⟩ := bind_some e
  refine qa _ _ _ _ _ _ _ R _ _ ea _ fun F1 H1 v g1 k1 R1 d1 => ?_
  cases d with
  | bool c =>
    cases e
    cases d1
    exact ⟨b, rfl, q F1 H1 g1 k1 R1⟩
  | _ => cases e
theorem dt_cmp {op : CmpOp} {r : R2} {g} (ho : OpR X (compareOp op) r) (hr : RD X.K r g) (ha : DE X a ta fa) (hb : DE X b tb fb) (hm : behindInMarks op b = false) : DT X (.Compare a [op] [b] pos) (tTest (tOp r ta tb)) (fB (f2 g fa fb)) := ⟨pt_cmpR ho ha.p hb.p hm, test_of (two hr ha.q hb.q)⟩
theorem dt_val {e : Expr} {f : FE} {t : TE} (h : DE X e t f) (he : ∀ whole, isTrue e X.env whole = (do let v ← whole; standAt e.pos; holding [v] (truthy v)) := by intro _; rfl) : DT X e (tTest t) (fB f) := ⟨pt_val h.p he, test_of h.q⟩

/-! ### ints -/
def gI (k : Int → Int → Option PyData) : PyData → PyData → Option PyData
  | .int i, .int j => k i j
  | _, _ => none
theorem gI_some {k : Int → Int → Option PyData} {a b z : PyData} (h : gI k a b = some z) : ∃ i j, a = .int i ∧ b = .int j ∧ k i j = some z := by
  cases a <;> cases b <;> first | exact ⟨_, _, rfl, rfl, h⟩ | cases h
theorem rd_I0 {K : PySem.W.Frag} {g : Int → Int → V} {k : Int → Int → PyData} (h : ∀ i j F, Da K F (g i j) (k i j)) : RD K (rI0 g) (gI fun i j => some (k i j)) := rd_flat fun F H x y a b z e dx dy hz => by
  obtain ⟨i, j, rfl, rfl, hz⟩ := gI_some hz
  cases hz
  cases dx
  cases dy
  exact ⟨_, h i j, fun Q q => ⟨i, j, rfl, rfl, q⟩⟩
theorem rd_I {K : PySem.W.Frag} {C : Int → Int → Prop} {c : Int → Int → Bool} {g : Int → Int → V} {k : Int → Int → PyData} (h : ∀ i j F, Da K F (g i j) (k i j)) (hc : ∀ i j, c i j = true → C i j) : RD K (rI C g) (gI fun i j => if c i j = true then some (k i j) else none) :=
  rd_flat fun F H x y a b z e dx dy hz => by
  obtain ⟨i, j, rfl, rfl, hz2⟩ := gI_some hz
  cases hcc : c i j with
  | false =>
    rw [hcc] at hz2
    cases hz2
  | true =>
    rw [hcc] at hz2
    cases hz2
    cases dx
    cases dy
    exact ⟨_, h i j, fun Q q => ⟨i, j, rfl, rfl, hc i j hcc, q⟩⟩
def gAdd := gI fun i j => some (.int (i + j))
def gSubt := gI fun i j => some (.int (i - j))
/-- one factor below 2^64 in size -/
def okMul (i j : Int) : Bool := decide (-(2 ^ 64) < i ∧ i < 2 ^ 64) || decide (-(2 ^ 64) < j ∧ j < 2 ^ 64)
@[irreducible] def gMul : PyData → PyData → Option PyData := gI fun i j => if okMul i j = true then some (.int (i * j)) else none
@[irreducible] def gMod : PyData → PyData → Option PyData := gI fun i j => if decide (0 < j) = true then some (.int (i % j)) else none
def okDiv (_ j : Int) : Bool := decide (0 < j ∧ j < 1073741824)
@[irreducible] def gDiv : PyData → PyData → Option PyData := gI fun i j => if okDiv i j = true then some (.int (i / j)) else none
def okPow (i j : Int) : Bool := decide (0 ≤ j ∧ j ≤ 1000000 ∧ i.natAbs < 2 ^ 64)
@[irreducible] def gPow : PyData → PyData → Option PyData := gI fun i j => if okPow i j = true then some (.int (i ^ j.toNat)) else none
def gLt := gI fun i j => some (.bool (decide (i < j)))
def gLe := gI fun i j => some (.bool (decide (i ≤ j)))
def gGt := gI fun i j => some (.bool (decide (j < i)))
def gGe := gI fun i j => some (.bool (decide (j ≤ i)))
theorem rd_add {K} : RD K (rI0 fun i j => .int (i + j)) gAdd := rd_I0 fun i j F => .int _
theorem rd_sub {K} : RD K (rI0 fun i j => .int (i - j)) gSubt := rd_I0 fun i j F => .int _
theorem okMul_C {i j : Int} (h : okMul i j = true) : CMul i j := by
  unfold okMul at h
  exact (Bool.or_eq_true_iff.mp h).imp of_decide_eq_true of_decide_eq_true
theorem rd_mul {K} : RD K (rI CMul fun i j => .int (i * j)) gMul := by unfold gMul; exact rd_I (fun i j F => .int _) fun i j h => okMul_C h
theorem rd_mod {K} : RD K (rI (fun _ j => 0 < j) fun i j => .int (i % j)) gMod := by unfold gMod; exact rd_I (c := fun _ j => decide (0 < j)) (fun i j F => .int _) fun i j h => of_decide_eq_true h
theorem rd_div {K} : RD K (rI CDiv fun i j => .int (i / j)) gDiv := by unfold gDiv; exact rd_I (fun i j F => .int _) fun i j h => of_decide_eq_true (p := 0 < j ∧ j < 1073741824) h
theorem rd_pow {K} : RD K (rI CPow fun i j => .int (i ^ j.toNat)) gPow := by unfold gPow; exact rd_I (fun i j F => .int _) fun i j h => of_decide_eq_true (p := 0 ≤ j ∧ j ≤ 1000000 ∧ i.natAbs < 2 ^ 64) h
theorem rd_lt {K} : RD K (rI0 fun i j => .bl (decide (i < j))) gLt := rd_I0 fun i j F => .bl _
theorem rd_le {K} : RD K (rI0 fun i j => .bl (decide (i ≤ j))) gLe := rd_I0 fun i j F => .bl _
theorem rd_gt {K} : RD K (rI0 fun i j => .bl (decide (j < i))) gGt := rd_I0 fun i j F => .bl _
theorem rd_ge {K} : RD K (rI0 fun i j => .bl (decide (j ≤ i))) gGe := rd_I0 fun i j F => .bl _

/-! ### == and != of data -/
@[irreducible] def gEq : PyData → PyData → Option PyData := fun a b => if (SeqAt.shaped a && SeqAt.shaped b) = true then some (.bool (PyData.eqv a b)) else none
@[irreducible] def gNe : PyData → PyData → Option PyData := fun a b => if (SeqAt.shaped a && SeqAt.shaped b) = true then some (.bool (!PyData.eqv a b)) else none
theorem rd_eq {K} : RD K (rEqD K) gEq := rd_flat fun F H x y a b z e dx dy hz => by
  unfold gEq at hz
  split at hz
  · rename_i h
    obtain ⟨h1, h2⟩ := Bool.and_eq_true_iff.mp h
    cases hz
    exact ⟨_, fun F => .bl _, fun Q q => ⟨a, b, da_dp _ _ (da_mono e _ _ dx), da_dp _ _ (da_mono e _ _ dy), h1, h2, q⟩⟩
  · cases hz
theorem rd_ne {K} : RD K (rNeD K) gNe := rd_flat fun F H x y a b z e dx dy hz => by
  unfold gNe at hz
  split at hz
  · rename_i h
    obtain ⟨h1, h2⟩ := Bool.and_eq_true_iff.mp h
    cases hz
    exact ⟨_, fun F => .bl _, fun Q q => ⟨a, b, da_dp _ _ (da_mono e _ _ dx), da_dp _ _ (da_mono e _ _ dy), h1, h2, q⟩⟩
  · cases hz
/-! ### is None -/
def isNone : PyData → Bool
  | .none => true
  | _ => false
def gIsN : PyData → PyData → Option PyData
  | a, .none => some (.bool (isNone a))
  | _, _ => none
def gNotN : PyData → PyData → Option PyData
  | a, .none => some (.bool (!isNone a))
  | _, _ => none
theorem da_none {K : PySem.W.Frag} {F : Hp} {x : V} {a : PyData} (h : Da K F x a) : decide (x = .non) = isNone a := by
  cases h <;> rfl
theorem rd_isN {K} : RD K (fun x y H Q => y = .non ∧ Q (.bl (decide (x = .non))) H) gIsN := rd_flat fun F H x y a b z e dx dy hz => by
  cases b with
  | none =>
    cases hz
    cases dy
    exact ⟨_, fun F => .bl _, fun Q q => ⟨rfl, by rw [da_none dx]; exact q⟩⟩
  | _ => cases hz
theorem rd_notN {K} : RD K (fun x y H Q => y = .non ∧ Q (.bl (!decide (x = .non))) H) gNotN := rd_flat fun F H x y a b z e dx dy hz => by
  cases b with
  | none =>
    cases hz
    cases dy
    exact ⟨_, fun F => .bl _, fun Q q => ⟨rfl, by rw [da_none dx]; exact q⟩⟩
  | _ => cases hz

/-! ### -a -/
def f1 (g : PyData → Option PyData) (fa : FE) : FE := fun η w => (fa η w).bind fun x => (g x.1).bind fun z => some (z, x.2)
def gNeg : PyData → Option PyData
  | .int i => some (.int (-i))
  | _ => none
theorem de_neg (ha : DE X a ta fa) : DE X (.UnaryOp .USub a pos) (tUn (rU fun i => .int (-i)) ta) (f1 gNeg fa) := by
  obtain ⟨pa, qa⟩ := ha
  refine ⟨pe_un un_neg pa, fun wo H0 F η w σ H R d w' e Q q => ?_⟩
  obtain ⟨⟨a, w1⟩, ea, e⟩ := bind_some e
  obtain ⟨z, ez, e⟩ := bind_some e
  cases e
  refine qa _ _ _ _ _ _ _ R _ _ ea _ fun F1 H1 x g1 k1 R1 d1 => ?_
  cases a with
  | int i =>
    cases ez
    cases d1
    exact ⟨i, rfl, q F1 H1 _ g1 k1 R1 (.int _)⟩
  | _ => cases ez

/-! ### and, or, not, if -/
theorem DW.dt {e : Expr} {f : FT} {t : TT} (h : DW X e t f) : DT X e t f := ⟨h.p.pt, h.q⟩
variable {ga gb : FT} {rest : List Expr}
def fAnd (ga gb : FT) : FT := fun η w => (ga η w).bind fun x => if x.1 = true then gb η x.2 else some (false, x.2)
def fOr (ga gb : FT) : FT := fun η w => (ga η w).bind fun x => if x.1 = true then some (true, x.2) else gb η x.2
def fNot (ga : FT) : FT := fun η w => (ga η w).bind fun x => some (!x.1, x.2)
theorem dw_and1 (h : DT X a ua ga) : DW X (.BoolOp .And [a] pos) ua ga := ⟨pw_and1 h.p, h.q⟩
theorem dw_or1 (h : DT X a ua ga) : DW X (.BoolOp .Or [a] pos) ua ga := ⟨pw_or1 h.p, h.q⟩
theorem dw_and (h : DT X a ua ga) (h2 : DW X (.BoolOp .And (b :: rest) pos) ub gb) : DW X (.BoolOp .And (a :: b :: rest) pos) (tAnd ua ub) (fAnd ga gb) := by
  obtain ⟨p, q⟩ := h
  obtain ⟨p2, q2⟩ := h2
  refine ⟨pw_and p p2, fun wo H0 F η w σ H R bb w' e Q k => ?_⟩
  obtain ⟨⟨c, w1⟩, ea, e⟩ := bind_some e
  refine q _ _ _ _ _ _ _ R _ _ ea _ fun F1 H1 g1 k1 R1 => ?_
  cases c with
  | true =>
    refine iteT ?_
    exact q2 _ _ _ _ _ _ _ R1 _ _ e Q fun F2 H2 g2 k2 R2 => k F2 H2 (g1.trans g2 k1 R1.wel) (k1.trans k2) R2
  | false =>
    cases e
    exact iteF (k F1 H1 g1 k1 R1)
theorem dw_or (h : DT X a ua ga) (h2 : DW X (.BoolOp .Or (b :: rest) pos) ub gb) : DW X (.BoolOp .Or (a :: b :: rest) pos) (tOr ua ub) (fOr ga gb) := by
  obtain ⟨p, q⟩ := h
  obtain ⟨p2, q2⟩ := h2
  refine ⟨pw_or p p2, fun wo H0 F η w σ H R bb w' e Q k => ?_⟩
  obtain ⟨⟨c, w1⟩, ea, e⟩ := bind_some e
  refine q _ _ _ _ _ _ _ R _ _ ea _ fun F1 H1 g1 k1 R1 => ?_
  cases c with
  | false =>
    refine iteF ?_
    exact q2 _ _ _ _ _ _ _ R1 _ _ e Q fun F2 H2 g2 k2 R2 => k F2 H2 (g1.trans g2 k1 R1.wel) (k1.trans k2) R2
  | true =>
    cases e
    exact iteT (k F1 H1 g1 k1 R1)
theorem dt_not (h : DT X a ua ga) : DT X (.UnaryOp .Not a pos) (tNot ua) (fNot ga) := by
  obtain ⟨p, q⟩ := h
  refine ⟨pt_not p, fun wo H0 F η w σ H R bb w' e Q k => ?_⟩
  obtain ⟨⟨c, w1⟩, ea, e⟩ := bind_some e
  cases e
  exact q _ _ _ _ _ _ _ R _ _ ea _ fun F1 H1 g1 k1 R1 => k F1 H1 g1 k1 R1
def bOf : PyData → Option Bool
  | .bool b => some b
  | _ => none
def fAndV (fa fb : FE) : FE := fun η w => (fa η w).bind fun x => (bOf x.1).bind fun c => if c = true then fb η x.2 else some (.bool false, x.2)
def fOrV (fa fb : FE) : FE := fun η w => (fa η w).bind fun x => (bOf x.1).bind fun c => if c = true then some (.bool true, x.2) else fb η x.2
def fNotV (fa : FE) : FE := fun η w => (fa η w).bind fun x => (bOf x.1).bind fun c => some (.bool (!c), x.2)
theorem bOf_some {d : PyData} {c : Bool} (h : bOf d = some c) : d = .bool c := by
  cases d <;> first | (cases h; rfl) | cases h
theorem de_one {op} (h : DE X a ta fa) : DE X (.BoolOp op [a] pos) ta fa := ⟨pe_one h.p, h.q⟩
theorem de_and (h : DE X a ta fa) (h2 : DE X (.BoolOp .And (b :: rest) pos) tb fb) : DE X (.BoolOp .And (a :: b :: rest) pos) (tAndV ta tb) (fAndV fa fb) := by
  obtain ⟨p, q⟩ := h
  obtain ⟨p2, q2⟩ := h2
  refine ⟨pe_and p p2, fun wo H0 F η w σ H R bb w' e Q k => ?_⟩
  obtain ⟨⟨d, w1⟩, ea, e⟩ := bind_some e
  obtain ⟨c, ec, e⟩ := bind_some e
  cases bOf_some ec
  refine q _ _ _ _ _ _ _ R _ _ ea _ fun F1 H1 v g1 k1 R1 d1 => ?_
  cases d1
  refine ⟨c, rfl, ?_⟩
  cases c with
  | true =>
    refine iteT ?_
    exact q2 _ _ _ _ _ _ _ R1 _ _ e Q fun F2 H2 v g2 k2 R2 d2 => k F2 H2 v (g1.trans g2 k1 R1.wel) (k1.trans k2) R2 d2
  | false =>
    cases e
    exact iteF (k F1 H1 _ g1 k1 R1 (.bl _))
theorem de_or (h : DE X a ta fa) (h2 : DE X (.BoolOp .Or (b :: rest) pos) tb fb) : DE X (.BoolOp .Or (a :: b :: rest) pos) (tOrV ta tb) (fOrV fa fb) := by
  obtain ⟨p, q⟩ := h
  obtain ⟨p2, q2⟩ := h2
  refine ⟨pe_or p p2, fun wo H0 F η w σ H R bb w' e Q k => ?_⟩
  obtain ⟨⟨d, w1⟩, ea, e⟩ := bind_some e
  obtain ⟨c, ec, e⟩ := bind_some e
  cases bOf_some ec
  refine q _ _ _ _ _ _ _ R _ _ ea _ fun F1 H1 v g1 k1 R1 d1 => ?_
  cases d1
  refine ⟨c, rfl, ?_⟩
  cases c with
  | false =>
    refine iteF ?_
    exact q2 _ _ _ _ _ _ _ R1 _ _ e Q fun F2 H2 v g2 k2 R2 d2 => k F2 H2 v (g1.trans g2 k1 R1.wel) (k1.trans k2) R2 d2
  | true =>
    cases e
    exact iteT (k F1 H1 _ g1 k1 R1 (.bl _))
theorem de_not (h : DE X a ta fa) : DE X (.UnaryOp .Not a pos) (tNotV ta) (fNotV fa) := by
  obtain ⟨p, q⟩ := h
  refine ⟨pe_not p, fun wo H0 F η w σ H R bb w' e Q k => ?_⟩
  obtain ⟨⟨d, w1⟩, ea, e⟩ := bind_some e
  obtain ⟨c, ec, e⟩ := bind_some e
  cases e
  cases bOf_some ec
  refine q _ _ _ _ _ _ _ R _ _ ea _ fun F1 H1 v g1 k1 R1 d1 => ?_
  cases d1
  exact ⟨c, rfl, k F1 H1 _ g1 k1 R1 (.bl _)⟩
def fIf (ga : FT) (fa fb : FE) : FE := fun η w => (ga η w).bind fun x => if x.1 = true then fa η x.2 else fb η x.2
theorem de_if (h : DT X c ua ga) (ha : DE X a ta fa) (hb : DE X b tb fb) : DE X (.IfExp c a b pos) (tIf ua ta tb) (fIf ga fa fb) := by
  obtain ⟨p, q⟩ := h
  obtain ⟨pa, qa⟩ := ha
  obtain ⟨pb, qb⟩ := hb
  refine ⟨pe_ifExp p pa pb, fun wo H0 F η w σ H R d w' e Q k => ?_⟩
  obtain ⟨⟨cc, w1⟩, ea, e⟩ := bind_some e
  refine q _ _ _ _ _ _ _ R _ _ ea _ fun F1 H1 g1 k1 R1 => ?_
  cases cc with
  | true =>
    refine iteT ?_
    exact qa _ _ _ _ _ _ _ R1 _ _ e Q fun F2 H2 v g2 k2 R2 d2 => k F2 H2 v (g1.trans g2 k1 R1.wel) (k1.trans k2) R2 d2
  | false =>
    refine iteF ?_
    exact qb _ _ _ _ _ _ _ R1 _ _ e Q fun F2 H2 v g2 k2 R2 d2 => k F2 H2 v (g1.trans g2 k1 R1.wel) (k1.trans k2) R2 d2
/-- a op b op' c -/
def f3 (g g' : PyData → PyData → Option PyData) (fa fb fc : FE) : FE := fun η w => (fa η w).bind fun x => (fb η x.2).bind fun y => (g x.1 y.1).bind fun z => (bOf z).bind fun k =>
  if k = true then (fc η y.2).bind fun u => (g' y.1 u.1).bind fun z' => some (z', u.2) else some (.bool false, y.2)
theorem chain_of {r r' : R2} {g g'} (hr : RD X.K r g) (hr' : RD X.K r' g') (qa : EvE X.K ta fa) (qb : EvE X.K tb fb) (qc : EvE X.K tc fc) : EvE X.K (tChain r r' ta tb tc) (f3 g g' fa fb fc) := by
  intro wo H0 F η w σ H R d w' e Q q
  obtain ⟨⟨a, w1⟩, ea, e⟩ := bind_some e
  obtain ⟨⟨b, w2⟩, eb, e⟩ := bind_some e
  obtain ⟨z, ez, e⟩ := bind_some e
  obtain ⟨k, ek, e⟩ := bind_some e
  cases bOf_some ek
  refine qa _ _ _ _ _ _ _ R _ _ ea _ fun F1 H1 x g1 k1 R1 d1 => ?_
  refine qb _ _ _ _ _ _ _ R1 _ _ eb _ fun F2 H2 y g2 k2 R2 d2 => ?_
  refine hr _ _ _ _ _ _ _ R2 x y _ _ _ (da_mono g2.le _ _ d1) d2 ez _ fun F3 H3 v g3 k3 R3 d3 => ?_
  cases d3
  refine ⟨k, rfl, ?_⟩
  have gg : Gr H F F3 := g1.trans (g2.trans g3 k2 R2.wel) k1 R1.wel
  have kk : Kp wo H H3 := k1.trans (k2.trans k3)
  cases k with
  | false =>
    cases e
    exact iteF (q F3 H3 _ gg kk R3 (.bl _))
  | true =>
    refine iteT ?_
    have e' : ((fc η w2).bind fun u => (g' b u.1).bind fun z' => some (z', u.2)) = some (d, w') := e
    obtain ⟨⟨u, w3⟩, eu, e'⟩ := bind_some e'
    obtain ⟨z', ez', e'⟩ := bind_some e'
    cases e'
    refine qc _ _ _ _ _ _ _ R3 _ _ eu _ fun F4 H4 v g4 k4 R4 d4 => ?_
    refine hr' _ _ _ _ _ _ _ R4 y v _ _ _ (da_mono g4.le _ _ (da_mono g3.le _ _ d2)) d4 ez' Q fun F5 H5 v g5 k5 R5 d5 => ?_
    exact q F5 H5 v (gg.trans (g4.trans g5 k4 R4.wel) kk R3.wel) (kk.trans (k4.trans k5)) R5 d5
theorem de_chain {op op' : CmpOp} {r r' : R2} {g g'} (ho : OpR X (compareOp op) r) (hr : RD X.K r g) (ho' : OpR X (compareOp op') r') (hr' : RD X.K r' g') (ha : DE X a ta fa) (hb : DE X b tb fb) (hc : DE X c tc fc)
    (hm : lastMarks [op, op'] [b, c] = false := by with_unfolding_all rfl) : DE X (.Compare a [op, op'] [b, c] pos) (tChain r r' ta tb tc) (f3 g g' fa fb fc) := ⟨pe_chain ho ho' ha.p hb.p hc.p hm, chain_of hr hr' ha.q hb.q hc.q⟩
theorem dt_chain {op op' : CmpOp} {r r' : R2} {g g'} (ho : OpR X (compareOp op) r) (hr : RD X.K r g) (ho' : OpR X (compareOp op') r') (hr' : RD X.K r' g') (ha : DE X a ta fa) (hb : DE X b tb fb) (hc : DE X c tc fc)
    (hm : lastMarks [op, op'] [b, c] = false := by with_unfolding_all rfl) : DT X (.Compare a [op, op'] [b, c] pos) (tTest (tChain r r' ta tb tc)) (fB (f3 g g' fa fb fc)) := ⟨pt_chain ho ho' ha.p hb.p hc.p hm, test_of (chain_of hr hr' ha.q hb.q hc.q)⟩
end
end DL
namespace DL
open L2 PySem PySem.Spec PyProof.Rows

section
variable {X : Cx} {a b c e : Expr} {es : List Expr} {fe fa fb fc : FE} {fs : FA} {fq : FQ} {pos : Pos} {te ta tb tc : TE} {ts : TA} {ua ub : TT}

/-! ### arguments, displays -/
def fNil : FA := fun _ w => some ([], w)
def fCons (fe : FE) (fs : FA) : FA := fun η w => (fe η w).bind fun x => (fs η x.2).bind fun y => some (x.1 :: y.1, y.2)
theorem da_nil : DA X [] tNil fNil := ⟨pa_nil, fun wo H0 F η w σ H R ds w' e Q q => by
  cases e
  exact q F H [] (Gr.refl _ _) (Kp.refl _ _) R .nil⟩
theorem da_cons (he : DE X e te fe) (hs : DA X es ts fs) (h : starEach (e :: es) X.env = (false, eval e X.env) :: starEach es X.env := by rfl) : DA X (e :: es) (tCons te ts) (fCons fe fs) :=
  ⟨pa_cons he.p hs.p h, fun wo H0 F η w σ H R ds w' e Q q => by
    obtain ⟨⟨d, w1⟩, e1, e⟩ := bind_some e
    obtain ⟨⟨ds1, w2⟩, e2, e⟩ := bind_some e
    cases e
    refine he.q _ _ _ _ _ _ _ R _ _ e1 _ fun F1 H1 x g1 k1 R1 d1 => ?_
    exact hs.q _ _ _ _ _ _ _ R1 _ _ e2 _ fun F2 H2 vs g2 k2 R2 d2 => q F2 H2 _ (g1.trans g2 k1 R1.wel) (k1.trans k2) R2 (.cons (da_mono g2.le _ _ d1) d2)⟩
/-- *xs among arguments or in a display -/
def tStarT (K : PySem.W.Frag) (te : TE) (t : TA) : TA := fun σ H Q => te σ H fun x H1 => ∃ p xs, x = V.ref p ∧ (SqT K H1 p xs ∨ SqL K H1 p xs) ∧ t σ H1 fun ys H2 => Q (xs ++ ys) H2
def fStar (fq : FQ) (fs : FA) : FA := fun η w => (fq η w).bind fun x => (fs η x.2).bind fun y => some (x.1.2 ++ y.1, y.2)
theorem da_star {p : Pos} (he : DQ X e te fq) (hs : DA X es ts fs) (h : starEach (.Starred e p :: es) X.env = (true, eval e X.env) :: starEach es X.env := by rfl) : DA X (.Starred e p :: es) (tStarT X.K te ts) (fStar fq fs) :=
  ⟨StX.pa_star he.p hs.p h, fun wo H0 F η w σ H R ds w' e Q q => by
    obtain ⟨⟨⟨l, ds0⟩, w1⟩, e1, e⟩ := bind_some e
    obtain ⟨⟨ds1, w2⟩, e2, e⟩ := bind_some e
    cases e
    refine he.q _ _ _ _ _ _ _ R _ _ _ e1 _ fun F1 H1 p vs g1 k1 R1 hp d1 => ?_
    refine ⟨p, vs, rfl, ?_, hs.q _ _ _ _ _ _ _ R1 _ _ e2 _ fun F2 H2 us g2 k2 R2 d2 => q F2 H2 _ (g1.trans g2 k1 R1.wel) (k1.trans k2) R2 (all_app (daAll_mono g2.le _ _ d1) d2)⟩
    cases l with
    | true => exact .inr (SqL.of hp.1)
    | false => exact .inl hp⟩
def fTup (fs : FA) : FE := fun η w => (fs η w).bind fun x => if x.1.length ≤ sizeLine then some (.tuple x.1, x.2) else none
theorem de_tup {k : Nat} (h : DA X es ts fs) : DE X (.Tuple es k pos) (tTup ts) (fTup fs) :=
  ⟨pe_tup h.p, fun wo H0 F η w σ H R d w' e Q q => by
    obtain ⟨⟨ds, w1⟩, e1, e⟩ := bind_some e
    refine h.q _ _ _ _ _ _ _ R _ _ e1 _ fun F1 H1 vs g1 k1 R1 d1 => ?_
    by_cases hl : ds.length ≤ sizeLine
    · have e2 : (if ds.length ≤ sizeLine then some (PyData.tuple ds, w1) else none) = some (d, w') := e
      rw [if_pos hl] at e2
      cases e2
      refine ⟨by rw [all_len d1]; exact hl, fun p hp => ?_⟩
      exact q _ _ _ (g1.trans (gr_new R1.sub hp) k1 R1.wel) (k1.trans (kp_new hp)) (R1.new hp _) (.tup (SqT.of upd_same) (daAll_mono (gr_new R1.sub hp).le _ _ d1))
    · have e2 : (if ds.length ≤ sizeLine then some (PyData.tuple ds, w1) else none) = some (d, w') := e
      rw [if_neg hl] at e2
      cases e2⟩
def fLst (fs : FA) : FA := fun η w => (fs η w).bind fun x => if x.1.length ≤ sizeLine then some (x.1, x.2) else none
theorem lst_of {ds ds' : List PyData} {w w' : Wl} (e : (if ds.length ≤ sizeLine then some (ds, w) else none) = some (ds', w')) : ds.length ≤ sizeLine ∧ ds = ds' ∧ w = w' := by
  by_cases hl : ds.length ≤ sizeLine
  · rw [if_pos hl] at e
    cases e
    exact ⟨hl, rfl, rfl⟩
  · rw [if_neg hl] at e
    cases e
theorem Rel.wne {K wo H0 F η w σ H} (R : Rel K wo H0 F η w σ H) {p : Addr} (n : H p = none) : wo ≠ some p := fun e => by
  rw [(R.wel p e).2] at n
  cases n
theorem dn_lst (h : DA X es ts fs) : DN X (.List es pos) (tLst ts) (fLst fs) :=
  ⟨pe_lst h.p, fun wo H0 F η w σ H R d w' e Q q => by
    obtain ⟨⟨ds, w1⟩, e1, e⟩ := bind_some e
    refine h.q _ _ _ _ _ _ _ R _ _ e1 _ fun F1 H1 vs g1 k1 R1 d1 => ?_
    obtain ⟨hl, rfl, rfl⟩ := lst_of e
    refine ⟨by rw [all_len d1]; exact hl, fun p hp => ?_⟩
    have hp0 : H p = none := by
      cases z : H p with
      | none => rfl
      | some o =>
        rw [k1 p o (R1.wne hp) z] at hp
        cases hp
    exact q F1 _ p vs g1 (k1.trans (kp_new hp)) (R1.mute hp _) hp0 (R1.sub.free hp) (R1.wne hp) upd_same d1⟩

/-- a new list put among what stands -/
theorem Rel.fix {K wo H0 F η w σ H H'} (R0 : Rel K wo H0 F η w σ H) {F' : Hp} {w' : Wl} (R : Rel K wo H0 F' η w' σ H') {p : Addr} {vs : List V} (hp0 : H p = none) (hF : F' p = none) (hw : wo ≠ some p) (hp : H' p = some (.lst vs)) :
    Rel K wo H0 (upd F' p (.lst vs)) η w' σ H' := by
  have le : Same F' (upd F' p (.lst vs)) := fun b u e => by rw [upd_ne (ne_of_none e hF)]; exact e
  refine ⟨fun b u e => ?_, fun a e => ?_, R.ent, R.len, fun i s e => ?_, R.sep⟩
  · by_cases h : b = p
    · subst h; rw [upd_same] at e; cases e; exact hp
    · rw [upd_ne h] at e; exact R.sub b u e
  · obtain ⟨h1, h2⟩ := R.wel a e
    exact ⟨by rw [upd_ne (fun z => hw (by rw [← z]; exact e))]; exact h1, h2⟩
  · have h := R.slt i s e
    cases s with
    | no => trivial
    | dat d => obtain ⟨v, h1, h2⟩ := h; exact ⟨v, h1, da_mono le _ _ h2⟩
    | scr _ => exact h
    | well => exact h
    | own ds =>
      obtain ⟨q, us, h1, h2, h3, h4, h5, h6⟩ := h
      obtain ⟨q', us', g1, _, _, _, g5, _⟩ := R0.slt i _ e
      rw [h1] at g1
      cases g1
      exact ⟨q, us, h1, h2, by rw [upd_ne (ne_of_none g5 hp0)]; exact h3, h4, h5, daAll_mono le _ _ h6⟩
def fL (fs : FA) : FE := fun η w => (fs η w).bind fun x => some (.list x.1, x.2)
theorem de_n (h : DN X e te fs) : DE X e te (fL fs) :=
  ⟨h.p, fun wo H0 F η w σ H R d w' e Q q => by
    obtain ⟨⟨ds, w1⟩, e1, e⟩ := bind_some e
    cases e
    refine h.q _ _ _ _ _ _ _ R _ _ e1 _ fun F1 H1 p vs g1 k1 R1 hp0 hF hw hp d1 => ?_
    have le : Same F1 (upd F1 p (.lst vs)) := fun b u e => by rw [upd_ne (ne_of_none e hF)]; exact e
    refine q _ H1 _ ⟨g1.le.trans le, fun b n z => ?_⟩ k1 (R.fix R1 hp0 hF hw hp) (.lst upd_same (daAll_mono le _ _ d1))
    have nb : b ≠ p := fun e => z (by rw [e]; exact hp0)
    rw [upd_ne nb]
    exact g1.nw b n z⟩

/-! ### lists and tuples that are looked at -/
def seqOf : PyData → Option (Bool × List PyData)
  | .list ds => some (true, ds)
  | .tuple ds => some (false, ds)
  | _ => none
def fQ (fe : FE) : FQ := fun η w => (fe η w).bind fun x => (seqOf x.1).bind fun z => some (z, x.2)
theorem dq_e (h : DE X e te fe) : DQ X e te (fQ fe) :=
  ⟨h.p, fun wo H0 F η w σ H R l ds w' e Q q => by
    obtain ⟨⟨d, w1⟩, e1, e⟩ := bind_some e
    obtain ⟨z, ez, e⟩ := bind_some e
    refine h.q _ _ _ _ _ _ _ R _ _ e1 _ fun F1 H1 v g1 k1 R1 d1 => ?_
    cases d1 with
    | lst h1 h2 =>
      cases ez
      cases e
      exact q F1 H1 _ _ g1 k1 R1 ⟨R1.sub _ _ h1, fun z => by
        rw [(R1.wel _ z).1] at h1
        cases h1⟩ h2
    | tup h1 h2 =>
      cases ez
      cases e
      exact q F1 H1 _ _ g1 k1 R1 (same_t R1.sub h1) h2
    | _ => cases ez⟩
/-- a list of one's own, by its name -/
def fOwn (i : Nat) : FQ := fun η w => match slAt η i with
  | .own ds => some ((true, ds), w)
  | _ => none
theorem fOwn_some {i : Nat} {η : Vw} {w w' : Wl} {z : Bool × List PyData} (h : fOwn i η w = some (z, w')) : ∃ ds, η[i]? = some (.own ds) ∧ z = (true, ds) ∧ w' = w := by
  have h' : (match slAt η i with | .own ds => some ((true, ds), w) | _ => none) = some (z, w') := h
  cases e : slAt η i with
  | own ds =>
    rw [e] at h'
    cases h'
    exact ⟨ds, slAt_some e (fun z => nomatch z), rfl, rfl⟩
  | no => rw [e] at h'; cases h'
  | dat _ => rw [e] at h'; cases h'
  | scr _ => rw [e] at h'; cases h'
  | well => rw [e] at h'; cases h'
theorem dq_own (i : Nat) {x : Str} {pos : Pos} (hN : X.N[i]? = some x := by rfl) (hv : Vis X.env.scope x := by first | exact Or.inl rfl | exact Or.inr (Or.inl rfl) | exact Or.inr (Or.inr rfl)) (hd : (x == ("__debug__" : Str)) = false := by decide)
    (hcd : (x == ("__classdict__" : Str)) = false := by decide) : DQ X (.Name x pos) (tVar i) (fOwn i) :=
  ⟨pe_var hN hv hd hcd, fun wo H0 F η w σ H R l ds w' e Q q => by
    obtain ⟨ds', h1, h2, h3⟩ := fOwn_some e
    cases h2
    subst h3
    obtain ⟨p, vs, g1, _, _, g4, g5, g6⟩ := R.slt i _ h1
    exact ⟨_, g1, q F H p vs (Gr.refl _ _) (Kp.refl _ _) R ⟨g5, g4⟩ g6⟩⟩
def fQN (fs : FA) : FQ := fun η w => (fs η w).bind fun x => some ((true, x.1), x.2)
theorem dq_n (h : DN X e te fs) : DQ X e te (fQN fs) :=
  ⟨h.p, fun wo H0 F η w σ H R l ds w' e Q q => by
    obtain ⟨⟨ds1, w1⟩, e1, e⟩ := bind_some e
    cases e
    exact h.q _ _ _ _ _ _ _ R _ _ e1 _ fun F1 H1 p vs g1 k1 R1 hp0 hF hw hp d1 => q F1 H1 p vs g1 k1 R1 ⟨hp, hw⟩ d1⟩

theorem sq_of {K : PySem.W.Frag} {H : Hp} {l : Bool} {p : Addr} {vs : List V} {wo : Option Addr} (h : if l = true then H p = some (.lst vs) ∧ wo ≠ some p else SqT K H p vs) : SqL K H p vs ∨ SqT K H p vs := by
  cases l with
  | true => exact .inl (SqL.of h.1)
  | false => exact .inr h
/-- f(xs), f a built-in -/
def fLen (fq : FQ) : FE := fun η w => (fq η w).bind fun x => some (.int (x.1.2.length : Int), x.2)
def rLen (K : PySem.W.Frag) : List V → Hp → VK → Prop := fun xs H Q => ∃ p ys, xs = [.ref p] ∧ (SqL K H p ys ∨ SqT K H p ys) ∧ Q (.int ys.length) H
theorem de_len {x : Str} {p pos : Pos} (h : DQ X e te fq) (hg : Gl X x) (hm : X.mg x = none) (hv : bootBuiltins x = some (.builtin "len")) (hn : x ≠ "__name__" := by decide) (hdb : (x == ("__debug__" : Str)) = false := by decide)
    (he : starEach [e] X.env = (false, eval e X.env) :: starEach [] X.env := by rfl) (hpl : (backTo pos (starEach [] X.env)).any (·.1) = false := by rfl) : DE X (.Call (.Name x p) [e] [] pos) (tCB (rLen X.K) (tCons te tNil)) (fLen fq) :=
  ⟨pe_callB call_len_seq hg hm hv (pa_cons h.p pa_nil he) hn hdb he hpl, fun wo H0 F η w σ H R d w' e Q q => by
    obtain ⟨⟨⟨l, ds⟩, w1⟩, e1, e⟩ := bind_some e
    cases e
    refine h.q _ _ _ _ _ _ _ R _ _ _ e1 _ fun F1 H1 p vs g1 k1 R1 hp d1 => ?_
    exact ⟨p, vs, rfl, sq_of hp, q F1 H1 _ g1 k1 R1 (by rw [all_len d1]; exact .int _)⟩⟩
/-- list(xs) -/
def fList (fq : FQ) : FA := fun η w => (fq η w).bind fun x => some (x.1.2, x.2)
def rListOf (K : PySem.W.Frag) : List V → Hp → VK → Prop := fun xs H Q => ∃ p ys, xs = [.ref p] ∧ (SqL K H p ys ∨ SqT K H p ys) ∧ ∀ l, H l = none → Q (.ref l) (upd H l (.lst ys))
theorem back_free {K : PySem.W.Frag} {wo : Option Addr} {H0 H F1 H1 : Hp} {η : Vw} {σ : L2.St} {w1 : Wl} (k1 : Kp wo H H1) (R1 : Rel K wo H0 F1 η w1 σ H1) {p : Addr} (hp : H1 p = none) : H p = none := by
  cases z : H p with
  | none => rfl
  | some o =>
    rw [k1 p o (R1.wne hp) z] at hp
    cases hp
theorem dn_list {x : Str} {p pos : Pos} (h : DQ X e te fq) (hg : Gl X x) (hm : X.mg x = none) (hv : bootBuiltins x = some (.type "list")) (hn : x ≠ "__name__" := by decide) (hdb : (x == ("__debug__" : Str)) = false := by decide)
    (he : starEach [e] X.env = (false, eval e X.env) :: starEach [] X.env := by rfl) (hpl : (backTo pos (starEach [] X.env)).any (·.1) = false := by rfl) : DN X (.Call (.Name x p) [e] [] pos) (tCB (rListOf X.K) (tCons te tNil)) (fList fq) :=
  ⟨pe_callTy call_list_of hg hm hv (pa_cons h.p pa_nil he) hn hdb he hpl, fun wo H0 F η w σ H R d w' e Q q => by
    obtain ⟨⟨⟨l, ds⟩, w1⟩, e1, e⟩ := bind_some e
    cases e
    refine h.q _ _ _ _ _ _ _ R _ _ _ e1 _ fun F1 H1 p vs g1 k1 R1 hp d1 => ?_
    exact ⟨p, vs, rfl, sq_of hp, fun l hl => q F1 _ l vs g1 (k1.trans (kp_new hl)) (R1.mute hl _) (back_free k1 R1 hl) (R1.sub.free hl) (R1.wne hl) upd_same d1⟩⟩
/-- tuple(xs) -/
def fTuple (fq : FQ) : FE := fun η w => (fq η w).bind fun x => if x.1.1 = true then some (.tuple x.1.2, x.2) else none
def rTupOf (K : PySem.W.Frag) : List V → Hp → VK → Prop := fun xs H Q => ∃ p ys, xs = [.ref p] ∧ ((SqL K H p ys ∧ ∀ l, H l = none → Q (.ref l) (upd H l (.tup ys))) ∨ (SqT K H p ys ∧ Q (.ref p) H))
/-- (of a list: a tuple that is looked at need not be what stands) -/
theorem de_tuple {x : Str} {p pos : Pos} (h : DQ X e te fq) (hg : Gl X x) (hm : X.mg x = none) (hv : bootBuiltins x = some (.type "tuple")) (hn : x ≠ "__name__" := by decide) (hdb : (x == ("__debug__" : Str)) = false := by decide)
    (he : starEach [e] X.env = (false, eval e X.env) :: starEach [] X.env := by rfl) (hpl : (backTo pos (starEach [] X.env)).any (·.1) = false := by rfl) : DE X (.Call (.Name x p) [e] [] pos) (tCB (rTupOf X.K) (tCons te tNil)) (fTuple fq) :=
  ⟨pe_callTy call_tuple_of hg hm hv (pa_cons h.p pa_nil he) hn hdb he hpl, fun wo H0 F η w σ H R d w' e Q q => by
    obtain ⟨⟨⟨l, ds⟩, w1⟩, e1, e⟩ := bind_some e
    refine h.q _ _ _ _ _ _ _ R _ _ _ e1 _ fun F1 H1 p vs g1 k1 R1 hp d1 => ?_
    cases l with
    | false => cases e
    | true =>
      cases e
      exact ⟨p, vs, rfl, .inl ⟨SqL.of hp.1, fun l hl => q _ _ _ (g1.trans (gr_new R1.sub hl) k1 R1.wel) (k1.trans (kp_new hl)) (R1.new hl _) (.tup (SqT.of upd_same) (daAll_mono (gr_new R1.sub hl).le _ _ d1))⟩⟩⟩
/-- xs[i] -/
def fIx (fq : FQ) (fi : FE) : FE := fun η w => (fq η w).bind fun x => (fi η x.2).bind fun y => match y.1 with
  | .int i => (atI x.1.2 i).bind fun d => some (d, y.2)
  | _ => none
theorem atI_of {K : PySem.W.Frag} {F : Hp} {vs : List V} {ds : List PyData} {i : Int} {d : PyData} (h : DaAll K F vs ds) (e : atI ds i = some d) : ∃ v, atI vs i = some v ∧ Da K F v d := by
  unfold atI at e ⊢
  rw [all_len h]
  obtain ⟨j, h1, h2⟩ := bind_some e
  obtain ⟨v, g1, g2⟩ := all_get h h2
  exact ⟨v, by rw [h1]; exact g1, g2⟩
theorem de_ix (h : DE X a ta fa) (hi : DE X b tb fb) (hp : PlainIx b := by exact (fun _ _ => rfl)) : DE X (.Subscript a b pos) (tOp (rIx X.K) ta tb) (fIx (fQ fa) fb) :=
  ⟨pe_ix ix_seq h.p hi.p hp, fun wo H0 F η w σ H R d w' e Q q => by
    obtain ⟨⟨⟨l, ds⟩, w1⟩, e1, e⟩ := bind_some e
    obtain ⟨⟨k, w2⟩, e2, e⟩ := bind_some e
    obtain ⟨⟨da, w1'⟩, e0, e1⟩ := bind_some e1
    obtain ⟨z, ez, e1⟩ := bind_some e1
    cases e1
    refine h.q _ _ _ _ _ _ _ R _ _ e0 _ fun F1 H1 v g1 k1 R1 d1 => ?_
    refine hi.q _ _ _ _ _ _ _ R1 _ _ e2 _ fun F2 H2 u g2 k2 R2 d2 => ?_
    cases k with
    | int i =>
      obtain ⟨dd, ed, e⟩ := bind_some (show ((atI ds i).bind fun d => some (d, w2)) = some (d, w') from e)
      cases e
      cases d2
      have fin : ∀ {x : V}, Da X.K F2 x d → Q x H2 := fun dx => q F2 H2 _ (g1.trans g2 k1 R1.wel) (k1.trans k2) R2 dx
      have d1' := da_mono g2.le _ _ d1
      cases d1' with
      | lst h1 h2 =>
        cases ez
        obtain ⟨x, hx, dx⟩ := atI_of h2 ed
        exact .inl ⟨_, _, i, x, rfl, rfl, SqL.of (R2.sub _ _ h1), hx, fin dx⟩
      | tup h1 h2 =>
        cases ez
        obtain ⟨x, hx, dx⟩ := atI_of h2 ed
        exact .inr (.inl ⟨_, _, i, x, rfl, rfl, same_t R2.sub h1, hx, fin dx⟩)
      | _ => cases ez
    | _ => cases e⟩
/-- .. of a list of one's own -/
theorem de_ixO {i : Nat} (h : DQ X a (tVar i) (fOwn i)) (hi : DE X b tb fb) (hp : PlainIx b := by exact (fun _ _ => rfl)) : DE X (.Subscript a b pos) (tOp (rIx X.K) (tVar i) tb) (fIx (fOwn i) fb) :=
  ⟨pe_ix ix_seq h.p hi.p hp, fun wo H0 F η w σ H R d w' e Q q => by
    obtain ⟨⟨⟨l, ds⟩, w1⟩, e1, e⟩ := bind_some e
    obtain ⟨⟨k, w2⟩, e2, e⟩ := bind_some e
    obtain ⟨ds', h1, h2, h3⟩ := fOwn_some e1
    cases h2
    subst h3
    obtain ⟨p, vs, g1, _, _, _, _, _⟩ := R.slt i _ h1
    refine ⟨_, g1, ?_⟩
    refine hi.q _ _ _ _ _ _ _ R _ _ e2 _ fun F2 H2 u g2 k2 R2 d2 => ?_
    cases k with
    | int i =>
      obtain ⟨dd, ed, e⟩ := bind_some (show ((atI ds i).bind fun d => some (d, w2)) = some (d, w') from e)
      cases e
      cases d2
      obtain ⟨p', vs', g1', _, _, _, g5, g6⟩ := R2.slt _ _ h1
      rw [g1] at g1'
      cases g1'
      obtain ⟨x, hx, dx⟩ := atI_of g6 ed
      exact .inl ⟨_, _, i, x, rfl, rfl, SqL.of g5, hx, q F2 H2 _ g2 k2 R2 dx⟩
    | _ => cases e⟩
end
end DL
namespace DL
open L2 PySem PySem.Spec PyProof.Rows

/-! ### statements -/
inductive Ctl where
  | nx (η : Vw) | rt (d : PyData) | bk (η : Vw) | ct (η : Vw)
abbrev FS := Vw → Wl → Option (Ctl × Wl)
/-- what is wanted behind a statement that ends so -/
def EndOk (K : PySem.W.Frag) (wo : Option Addr) (H0 F : Hp) (w' : Wl) (D : Ends) : Ctl → Prop
  | .nx η' => ∀ F' σ' H', Gr H0 F F' → Rel K wo H0 F' η' w' σ' H' → D.nx σ' H'
  | .bk η' => ∀ F' σ' H', Gr H0 F F' → Rel K wo H0 F' η' w' σ' H' → D.bk σ' H'
  | .ct η' => ∀ F' σ' H', Gr H0 F F' → Rel K wo H0 F' η' w' σ' H' → D.ct σ' H'
  | .rt d => ∀ F' H' v, Gr H0 F F' → Same F' H' → Wel wo F' H' w' → Kp wo H0 H' → Da K F' v d → D.rt v H'
def EvS (K : PySem.W.Frag) (t : TS) (f : FS) : Prop := ∀ wo H0 F η w σ H, Rel K wo H0 F η w σ H → ∀ c w', f η w = some (c, w') → ∀ D : Ends, EndOk K wo H0 F w' D c → t D σ H
structure DS (X : Cx) (st : Stmt) (t : TS) (f : FS) : Prop where
  p : PS X st t
  q : EvS X.K t f
structure DSs (X : Cx) (sts : List Stmt) (t : TS) (f : FS) : Prop where
  p : PSs X sts t
  q : EvS X.K t f

section
variable {K : PySem.W.Frag} {wo : Option Addr} {H0 F F1 H H1 : Hp} {η : Vw} {w w' : Wl} {σ : L2.St}
/-- seen from the def's entry -/
theorem Rel.gr0 (R : Rel K wo H0 F η w σ H) (g : Gr H F F1) : Gr H0 F F1 := ⟨g.le, fun b n z => g.nw b n (by
  by_cases e : wo = some b
  · rw [(R.wel b e).2]; exact fun z => nomatch z
  · cases y : H0 b with
    | none => exact absurd y z
    | some o => rw [R.ent b o e y]; exact fun z => nomatch z)⟩
theorem gr0_trans {F2 : Hp} (a : Gr H0 F F1) (b : Gr H0 F1 F2) : Gr H0 F F2 := ⟨a.le.trans b.le, fun c n z => b.nw c (a.nw c n z) z⟩
theorem EndOk.mono {D : Ends} {c : Ctl} (h : EndOk K wo H0 F w' D c) (g : Gr H0 F F1) : EndOk K wo H0 F1 w' D c := by
  cases c with
  | nx η' => exact fun F' σ' H' g' => h F' σ' H' (gr0_trans g g')
  | bk η' => exact fun F' σ' H' g' => h F' σ' H' (gr0_trans g g')
  | ct η' => exact fun F' σ' H' g' => h F' σ' H' (gr0_trans g g')
  | rt d => exact fun F' H' v g' => h F' H' v (gr0_trans g g')
theorem Rel.fin (R : Rel K wo H0 F η w σ H) : Same F H ∧ Wel wo F H w ∧ Kp wo H0 H := ⟨R.sub, R.wel, R.ent⟩

/-- a name is given data -/
theorem Rel.put (R : Rel K wo H0 F η w σ H) (i : Nat) {v : V} {d : PyData} (h : Da K F v d) : Rel K wo H0 F (η.set i (.dat d)) w (σ.set i (some v)) H := by
  refine ⟨R.sub, R.wel, R.ent, by rw [List.length_set, List.length_set]; exact R.len, fun j s e => ?_, fun j k p ds es e1 e2 q1 q2 => ?_⟩
  · by_cases hj : i = j
    · subst hj
      by_cases hl : i < η.length
      · rw [List.getElem?_set_self hl] at e
        cases e
        exact ⟨v, by rw [List.getElem?_set_self (by rw [R.len]; exact hl)], h⟩
      · rw [List.getElem?_eq_none (by rw [List.length_set]; omega)] at e
        cases e
    · rw [List.getElem?_set_ne hj] at e
      rw [List.getElem?_set_ne hj]
      exact R.slt j s e
  · have nj : ∀ {j : Nat} {ds : List PyData}, (η.set i (.dat d))[j]? = some (.own ds) → i ≠ j := fun {j ds} e z => by
      subst z
      by_cases hl : i < η.length
      · rw [List.getElem?_set_self hl] at e; cases e
      · rw [List.getElem?_eq_none (by rw [List.length_set]; omega)] at e; cases e
    have n1 := nj e1
    have n2 := nj e2
    rw [List.getElem?_set_ne n1] at e1 q1
    rw [List.getElem?_set_ne n2] at e2 q2
    exact R.sep j k p ds es e1 e2 q1 q2
/-- a name is given a new list of one's own -/
theorem Rel.putN (R : Rel K wo H0 F η w σ H) (i : Nat) {p : Addr} {vs : List V} {ds : List PyData} (h0 : H0 p = none) (hF : F p = none) (hw : wo ≠ some p) (hp : H p = some (.lst vs)) (h : DaAll K F vs ds)
    (ne : ∀ (j : Nat) (es : List PyData) (q : Addr), η[j]? = some (.own es) → σ[j]? = some (some (.ref q)) → q ≠ p) : Rel K wo H0 F (η.set i (.own ds)) w (σ.set i (some (.ref p))) H := by
  have new : ∀ {j : Nat} {es : List PyData} {q : Addr}, i ≠ j → (η.set i (.own ds))[j]? = some (.own es) → (σ.set i (some (.ref p)))[j]? = some (some (.ref q)) → q ≠ p := fun {j es q} n e z => by
    rw [List.getElem?_set_ne n] at e z
    exact ne j es q e z
  refine ⟨R.sub, R.wel, R.ent, by rw [List.length_set, List.length_set]; exact R.len, fun j s e => ?_, fun j k q es us e1 e2 q1 q2 => ?_⟩
  · by_cases hj : i = j
    · subst hj
      by_cases hl : i < η.length
      · rw [List.getElem?_set_self hl] at e
        cases e
        exact ⟨p, vs, by rw [List.getElem?_set_self (by rw [R.len]; exact hl)], h0, hF, hw, hp, h⟩
      · rw [List.getElem?_eq_none (by rw [List.length_set]; omega)] at e
        cases e
    · rw [List.getElem?_set_ne hj] at e
      rw [List.getElem?_set_ne hj]
      exact R.slt j s e
  · by_cases hj : i = j
    · by_cases hk : i = k
      · rw [← hj, ← hk]
      · exfalso
        subst hj
        by_cases hl : i < σ.length
        · rw [List.getElem?_set_self hl] at q1
          cases q1
          exact new hk e2 q2 rfl
        · rw [List.getElem?_eq_none (by rw [List.length_set]; omega)] at q1
          cases q1
    · by_cases hk : i = k
      · exfalso
        subst hk
        by_cases hl : i < σ.length
        · rw [List.getElem?_set_self hl] at q2
          cases q2
          exact new hj e1 q1 rfl
        · rw [List.getElem?_eq_none (by rw [List.length_set]; omega)] at q2
          cases q2
      · rw [List.getElem?_set_ne hj] at e1 q1
        rw [List.getElem?_set_ne hk] at e2 q2
        exact R.sep j k q es us e1 e2 q1 q2
/-- a list of one's own is put among what stands -/
theorem Rel.freeze (R : Rel K wo H0 F η w σ H) {i : Nat} {ds : List PyData} (e : η[i]? = some (.own ds)) : ∃ F', Gr H0 F F' ∧ Rel K wo H0 F' (η.set i (.dat (.list ds))) w σ H := by
  obtain ⟨p, vs, h1, h2, h3, h4, h5, h6⟩ := R.slt i _ e
  have le : Same F (upd F p (.lst vs)) := fun b u q => by rw [upd_ne (ne_of_none q h3)]; exact q
  have hl : i < η.length := (List.getElem?_eq_some_iff.mp e).1
  refine ⟨upd F p (.lst vs), ⟨le, fun b n z => ?_⟩, ⟨fun b u q => ?_, fun a q => ?_, R.ent, by rw [List.length_set]; exact R.len, fun j s q => ?_, fun j k x es us e1 e2 q1 q2 => ?_⟩⟩
  · have nb : b ≠ p := fun q => z (by rw [q]; exact h2)
    rw [upd_ne nb]; exact n
  · by_cases h : b = p
    · subst h; rw [upd_same] at q; cases q; exact h5
    · rw [upd_ne h] at q; exact R.sub b u q
  · obtain ⟨g1, g2⟩ := R.wel a q
    exact ⟨by rw [upd_ne (fun z => h4 (by rw [← z]; exact q))]; exact g1, g2⟩
  · by_cases hj : i = j
    · subst hj
      rw [List.getElem?_set_self hl] at q
      cases q
      exact ⟨_, h1, .lst upd_same (daAll_mono le _ _ h6)⟩
    · rw [List.getElem?_set_ne hj] at q
      have h := R.slt j s q
      cases s with
      | no => trivial
      | dat d => obtain ⟨v, g1, g2⟩ := h; exact ⟨v, g1, da_mono le _ _ g2⟩
      | scr _ => exact h
      | well => exact h
      | own es =>
        obtain ⟨x, us, g1, g2, g3, g4, g5, g6⟩ := h
        have nx : x ≠ p := fun z => hj (R.sep i j p ds es e q h1 (by rw [g1, z]))
        exact ⟨x, us, g1, g2, by rw [upd_ne nx]; exact g3, g4, g5, daAll_mono le _ _ g6⟩
  · have nj : ∀ {j : Nat} {es : List PyData}, (η.set i (.dat (.list ds)))[j]? = some (.own es) → i ≠ j := fun {j es} e z => by
      subst z
      rw [List.getElem?_set_self hl] at e; cases e
    have n1 := nj e1
    have n2 := nj e2
    rw [List.getElem?_set_ne n1] at e1
    rw [List.getElem?_set_ne n2] at e2
    exact R.sep j k x es us e1 e2 q1 q2
/-- a list of one's own is changed -/
theorem Rel.write (R : Rel K wo H0 F η w σ H) {i : Nat} {ds es : List PyData} {p : Addr} {vs us : List V} (e : η[i]? = some (.own ds)) (h1 : σ[i]? = some (some (.ref p))) (h5 : H p = some (.lst vs)) (hu : DaAll K F us es) :
    Rel K wo H0 F (η.set i (.own es)) w σ (upd H p (.lst us)) := by
  obtain ⟨p', vs', g1, g2, g3, g4, g5, g6⟩ := R.slt i _ e
  rw [h1] at g1
  cases g1
  have hl : i < η.length := (List.getElem?_eq_some_iff.mp e).1
  refine ⟨fun b u q => ?_, fun a q => ?_, fun b u n q => ?_, by rw [List.length_set]; exact R.len, fun j s q => ?_, fun j k x zs ys e1 e2 q1 q2 => ?_⟩
  · rw [upd_ne (ne_of_none q g3)]; exact R.sub b u q
  · obtain ⟨z1, z2⟩ := R.wel a q
    exact ⟨z1, by rw [upd_ne (fun z => g4 (by rw [← z]; exact q))]; exact z2⟩
  · rw [upd_ne (ne_of_none q g2)]; exact R.ent b u n q
  · by_cases hj : i = j
    · subst hj
      rw [List.getElem?_set_self hl] at q
      cases q
      exact ⟨p, us, h1, g2, g3, g4, upd_same, hu⟩
    · rw [List.getElem?_set_ne hj] at q
      have h := R.slt j s q
      cases s with
      | no => trivial
      | dat d => exact h
      | scr _ => exact h
      | well => exact h
      | own zs =>
        obtain ⟨x, ys, z1, z2, z3, z4, z5, z6⟩ := h
        have nx : x ≠ p := fun z => hj (R.sep i j p ds zs e q h1 (by rw [z1, z]))
        exact ⟨x, ys, z1, z2, z3, z4, by rw [upd_ne nx]; exact z5, z6⟩
  · have tr : ∀ {j : Nat} {zs : List PyData}, (η.set i (.own es))[j]? = some (.own zs) → ∃ zs', η[j]? = some (.own zs') := fun {j zs} q => by
      by_cases hj : i = j
      · subst hj; exact ⟨_, e⟩
      · rw [List.getElem?_set_ne hj] at q; exact ⟨_, q⟩
    obtain ⟨_, e1'⟩ := tr e1
    obtain ⟨_, e2'⟩ := tr e2
    exact R.sep j k x _ _ e1' e2' q1 q2
end

section
variable {X : Cx} {st : Stmt} {rest sts : List Stmt} {t u : TS} {f g : FS} {e : Expr} {te : TE} {fe : FE} {fs : FA} {pos : Pos} {c : Expr} {tc : TT} {fc : FT}
def fNext : FS := fun η w => some (.nx η, w)
theorem dss_nil : DSs X [] tNext fNext := ⟨pss_nil, fun wo H0 F η w σ H R c w' e D h => by
  cases e
  exact h F σ H (Gr.refl _ _) R⟩
def fSeq (f g : FS) : FS := fun η w => (f η w).bind fun x => match x.1 with
  | .nx η' => g η' x.2
  | c => some (c, x.2)
theorem dss_cons (h : DS X st t f) (h2 : DSs X rest u g) : DSs X (st :: rest) (tSeq t u) (fSeq f g) := ⟨pss_cons h.p h2.p, fun wo H0 F η w σ H R c w' e D k => by
  obtain ⟨⟨c1, w1⟩, e1, e⟩ := bind_some e
  refine h.q _ _ _ _ _ _ _ R _ _ e1 _ ?_
  cases c1 with
  | nx η' => exact fun F' σ' H' g' R' => h2.q _ _ _ _ _ _ _ R' _ _ e D (k.mono g')
  | rt d => cases e; exact k
  | bk η' => cases e; exact k
  | ct η' => cases e; exact k⟩
theorem dss_one (h : DS X st t f) : DSs X [st] t f := ⟨pss_one h.p, h.q⟩
/-- ahead of these rows the list of one's own at i is put among what stands -/
def fFz (i : Nat) (f : FS) : FS := fun η w => match slAt η i with
  | .own ds => f (η.set i (.dat (.list ds))) w
  | _ => none
theorem dss_fz (i : Nat) (h : DSs X sts t f) : DSs X sts t (fFz i f) := ⟨h.p, fun wo H0 F η w σ H R c w' e D k => by
  have e' : (match slAt η i with | .own ds => f (η.set i (.dat (.list ds))) w | _ => none) = some (c, w') := e
  cases z : slAt η i with
  | own ds =>
    rw [z] at e'
    obtain ⟨F1, g1, R1⟩ := R.freeze (slAt_some z (fun z => nomatch z))
    exact h.q _ _ _ _ _ _ _ R1 _ _ e' D (k.mono g1)
  | no => rw [z] at e'; cases e'
  | dat _ => rw [z] at e'; cases e'
  | scr _ => rw [z] at e'; cases e'
  | well => rw [z] at e'; cases e'⟩
def fBreak : FS := fun η w => some (.bk η, w)
def fCont : FS := fun η w => some (.ct η, w)
def fNever : FS := fun _ _ => none
def fRetN : FS := fun _ w => some (.rt .none, w)
theorem ds_break : DS X (.Break pos) tBreak fBreak := ⟨ps_break, fun wo H0 F η w σ H R c w' e D h => by
  cases e
  exact h F σ H (Gr.refl _ _) R⟩
theorem ds_continue : DS X (.Continue pos) tCont fCont := ⟨ps_continue, fun wo H0 F η w σ H R c w' e D h => by
  cases e
  exact h F σ H (Gr.refl _ _) R⟩
theorem ds_pass : DS X (.Pass pos) tNext fNext := ⟨ps_pass, fun wo H0 F η w σ H R c w' e D h => by
  cases e
  exact h F σ H (Gr.refl _ _) R⟩
/-- a row that is not reached -/
theorem ds_never : DS X st tNever fNever := ⟨ps_never, fun wo H0 F η w σ H R c w' e D h => by cases e⟩
def fRet (fe : FE) : FS := fun η w => (fe η w).bind fun x => some (.rt x.1, x.2)
theorem ds_ret (h : DE X e te fe) : DS X (.Return (some e) pos) (tRet te) (fRet fe) := ⟨ps_ret h.p, fun wo H0 F η w σ H R c w' e D k => by
  obtain ⟨⟨d, w1⟩, e1, e⟩ := bind_some e
  cases e
  exact h.q _ _ _ _ _ _ _ R _ _ e1 _ fun F1 H1 v g1 k1 R1 d1 => k F1 H1 v (R.gr0 g1) R1.sub R1.wel R1.ent d1⟩
theorem ds_retN : DS X (.Return none pos) tRetN fRetN := ⟨ps_retN, fun wo H0 F η w σ H R c w' e D k => by
  cases e
  exact k F H _ (Gr.refl _ _) R.sub R.wel R.ent .non⟩
def fSet (i : Nat) (fe : FE) : FS := fun η w => (fe η w).bind fun x => some (.nx (η.set i (.dat x.1)), x.2)
theorem ds_set {i : Nat} {x : Str} {pos' : Pos} (hN : X.N.Nodup) (hi : X.N[i]? = some x) (hx : Loc X.env.scope x) (h : DE X e te fe) (hs : swapsWith e (some (.Name x pos')) pos.line X.env = pure false := by rfl)
    (hf : X.fn x = true ∨ X.env.scope.names.lookup x = some .local := by first | exact .inl rfl | exact .inr rfl | assumption) : DS X (.Assign [.Name x pos'] e pos) (tAsg te (gName i)) (fSet i fe) := ⟨ps_set hN hi hx h.p hs hf, fun wo H0 F η w σ H R c w' e D k => by
  obtain ⟨⟨d, w1⟩, e1, e⟩ := bind_some e
  cases e
  exact h.q _ _ _ _ _ _ _ R _ _ e1 _ fun F1 H1 v g1 k1 R1 d1 => k F1 _ H1 (R.gr0 g1) (R1.put i d1)⟩
/-- a new list, one's own from here on -/
def fSetN (i : Nat) (fs : FA) : FS := fun η w => (fs η w).bind fun x => some (.nx (η.set i (.own x.1)), x.2)
theorem own_ne {K : PySem.W.Frag} {wo : Option Addr} {H0 F H : Hp} {η : Vw} {w : Wl} {σ : L2.St} (R : Rel K wo H0 F η w σ H) {p : Addr} (n : H p = none) : ∀ (j : Nat) (es : List PyData) (q : Addr), η[j]? = some (.own es) → σ[j]? = some (some (.ref q)) → q ≠ p := fun j es q e z y => by
  obtain ⟨q', vs, g1, _, _, _, g5, _⟩ := R.slt j _ e
  rw [z] at g1
  cases g1
  rw [y, n] at g5
  cases g5
theorem ent_free {K : PySem.W.Frag} {wo : Option Addr} {H0 F H : Hp} {η : Vw} {w : Wl} {σ : L2.St} (R : Rel K wo H0 F η w σ H) {p : Addr} (n : H p = none) : H0 p = none := by
  cases z : H0 p with
  | none => rfl
  | some o =>
    rw [R.ent p o (R.wne n) z] at n
    cases n
theorem ds_setN {i : Nat} {x : Str} {pos' : Pos} (hN : X.N.Nodup) (hi : X.N[i]? = some x) (hx : Loc X.env.scope x) (h : DN X e te fs) (hs : swapsWith e (some (.Name x pos')) pos.line X.env = pure false := by rfl)
    (hf : X.fn x = true ∨ X.env.scope.names.lookup x = some .local := by first | exact .inl rfl | exact .inr rfl | assumption) : DS X (.Assign [.Name x pos'] e pos) (tAsg te (gName i)) (fSetN i fs) := ⟨ps_set hN hi hx h.p hs hf, fun wo H0 F η w σ H R c w' e D k => by
  obtain ⟨⟨ds, w1⟩, e1, e⟩ := bind_some e
  cases e
  refine h.q _ _ _ _ _ _ _ R _ _ e1 _ fun F1 H1 p vs g1 k1 R1 hp0 hF hw hp d1 => ?_
  exact k F1 _ H1 (R.gr0 g1) (R1.putN i (ent_free R hp0) hF hw hp d1 fun j es q a b => own_ne R hp0 j es q a b)⟩
def fIfS (fc : FT) (f g : FS) : FS := fun η w => (fc η w).bind fun x => if x.1 = true then f η x.2 else g η x.2
theorem ds_if {a b : List Stmt} (hc : DT X c tc fc) (ha : DSs X a t f) (hb : DSs X b u g) : DS X (.If c a b pos) (tIfS tc t u) (fIfS fc f g) := ⟨ps_if hc.p ha.p hb.p, fun wo H0 F η w σ H R cc w' e D k => by
  obtain ⟨⟨b, w1⟩, e1, e⟩ := bind_some e
  refine hc.q _ _ _ _ _ _ _ R _ _ e1 _ fun F1 H1 g1 k1 R1 => ?_
  cases b with
  | true => exact iteT (ha.q _ _ _ _ _ _ _ R1 _ _ e D (k.mono (R.gr0 g1)))
  | false => exact iteF (hb.q _ _ _ _ _ _ _ R1 _ _ e D (k.mono (R.gr0 g1)))⟩
/-- an expression alone -/
def fDrop (fe : FE) : FS := fun η w => (fe η w).bind fun x => some (.nx η, x.2)
theorem ds_expr (h : DE X e te fe) (hs : swapsWith e none pos.line X.env = pure false := by rfl) : DS X (.Expr e pos) (tDrop te) (fDrop fe) := ⟨ps_expr h.p hs, fun wo H0 F η w σ H R c w' e D k => by
  obtain ⟨⟨d, w1⟩, e1, e⟩ := bind_some e
  cases e
  exact h.q _ _ _ _ _ _ _ R _ _ e1 _ fun F1 H1 v g1 k1 R1 d1 => k F1 _ H1 (R.gr0 g1) R1⟩
end
end DL
namespace DL
open L2 PySem PySem.Spec PyProof.Rows

/-! ### targets -/
def EvG (K : PySem.W.Frag) (g : TG) (vs : List Nat) (k : PyData → Vw → Option Vw) : Prop := ∀ wo H0 F η w σ H, Rel K wo H0 F η w σ H → ∀ x d η', Da K F x d → k d η = some η' →
  ∀ Q : L2.St → Hp → Prop, (∀ σ', Rel K wo H0 F η' w σ' H → wipe σ' vs = wipe σ vs → Q σ' H) → g x σ H Q
def EvGs (K : PySem.W.Frag) (g : TGs) (vs : List Nat) (k : List PyData → Vw → Option Vw) : Prop := ∀ wo H0 F η w σ H, Rel K wo H0 F η w σ H → ∀ xs ds η', DaAll K F xs ds → k ds η = some η' →
  ∀ Q : L2.St → Hp → Prop, (∀ σ', Rel K wo H0 F η' w σ' H → wipe σ' vs = wipe σ vs → Q σ' H) → g xs σ H Q
structure DG (X : Cx) (tg : Expr) (g : TG) (vs : List Nat) (k : PyData → Vw → Option Vw) : Prop where
  p : PG X tg g
  q : EvG X.K g vs k
structure DGs (X : Cx) (tgs : List Expr) (g : TGs) (vs : List Nat) (k : List PyData → Vw → Option Vw) : Prop where
  p : PGs X tgs g
  q : EvGs X.K g vs k
theorem set_comm' {α : Type} (l : List α) (i j : Nat) (a b : α) (h : i ≠ j) : (l.set i a).set j b = (l.set j b).set i a := List.set_comm a b h
theorem wipe_set {σ : L2.St} {i : Nat} {x : Option V} : ∀ {vs : List Nat}, i ∈ vs → wipe (σ.set i x) vs = wipe σ vs
  | [], h => nomatch h
  | v :: vs, h => by
    unfold wipe
    by_cases hv : v = i
    · subst hv
      by_cases hm : v ∈ vs
      · rw [wipe_set hm]
      · have aux : ∀ (us : List Nat), v ∉ us → wipe (σ.set v x) us = (wipe σ us).set v x := by
          intro us
          induction us with
          | nil => intro _; rfl
          | cons u us ih =>
            intro hu
            unfold wipe
            rw [ih fun z => hu (List.mem_cons_of_mem _ z)]
            exact set_comm' _ _ _ _ _ fun z => hu (by rw [z]; exact List.mem_cons_self)
        rw [aux vs hm, List.set_set]
    · have hm : i ∈ vs := by
        exact (List.mem_cons.mp h).resolve_left fun z => hv z.symm
      rw [wipe_set hm]
theorem wipe_cut {σ σ' : L2.St} : ∀ {vs us : List Nat}, wipe σ' vs = wipe σ vs → (∀ v ∈ vs, v ∈ us) → wipe σ' us = wipe σ us := by
  intro vs us h hs
  have tw : ∀ (τ : L2.St) (ws : List Nat), (∀ v ∈ ws, v ∈ us) → wipe (wipe τ ws) us = wipe τ us := by
    intro τ ws
    induction ws with
    | nil => intro _; rfl
    | cons v ws ih =>
      intro hw
      show wipe ((wipe τ ws).set v none) us = wipe τ us
      rw [wipe_set (hw v List.mem_cons_self)]
      exact ih fun z hz => hw z (List.mem_cons_of_mem _ hz)
  rw [← tw σ' vs hs, ← tw σ vs hs, h]
theorem wipe_wipe {σ : L2.St} {vs : List Nat} : wipe (wipe σ vs) vs = wipe σ vs := by
  have tw : ∀ (ws : List Nat), (∀ v ∈ ws, v ∈ vs) → wipe (wipe σ ws) vs = wipe σ vs := by
    intro ws
    induction ws with
    | nil => intro _; rfl
    | cons v ws ih =>
      intro hw
      show wipe ((wipe σ ws).set v none) vs = wipe σ vs
      rw [wipe_set (hw v List.mem_cons_self)]
      exact ih fun z hz => hw z (List.mem_cons_of_mem _ hz)
  exact tw vs fun _ h => h
def kName (i : Nat) : PyData → Vw → Option Vw := fun d η => some (η.set i (.dat d))
section
variable {X : Cx} {tg : Expr} {tgs : List Expr} {g : TG} {gs : TGs} {vs us : List Nat} {k : PyData → Vw → Option Vw} {ks : List PyData → Vw → Option Vw} {pos : Pos}
theorem dg_name {i : Nat} {x : Str} (hN : X.N.Nodup) (hi : X.N[i]? = some x) (hx : Loc X.env.scope x) (hf : X.fn x = true ∨ X.env.scope.names.lookup x = some .local := by first | exact .inl rfl | exact .inr rfl | assumption) : DG X (.Name x pos) (gName i) [i] (kName i) :=
  ⟨pg_name hN hi hx hf, fun wo H0 F η w σ H R x d η' h e Q q => by
    cases e
    exact q _ (R.put i h) (wipe_set List.mem_cons_self)⟩
def ksNil : List PyData → Vw → Option Vw
  | [], η => some η
  | _, _ => none
def ksCons (k : PyData → Vw → Option Vw) (ks : List PyData → Vw → Option Vw) : List PyData → Vw → Option Vw
  | d :: ds, η => (k d η).bind fun η1 => ks ds η1
  | [], _ => none
theorem dgs_nil : DGs X [] gNil [] ksNil := ⟨pgs_nil, fun wo H0 F η w σ H R xs ds η' h e Q q => by
  cases h with
  | nil =>
    cases e
    exact ⟨rfl, q σ R rfl⟩
  | cons _ _ => cases e⟩
theorem dgs_cons (h1 : DG X tg g vs k) (h2 : DGs X tgs gs us ks) (hs : (assignEach (tg :: tgs) X.env).map (·.2) = assign tg X.env :: (assignEach tgs X.env).map (·.2) := by rfl) : DGs X (tg :: tgs) (gCons g gs) (vs ++ us) (ksCons k ks) := ⟨pgs_cons h1.p h2.p hs, fun wo H0 F η w σ H R xs ds η' h e Q q => by
  cases h with
  | nil => cases e
  | cons a b =>
    obtain ⟨η1, e1, e2⟩ := bind_some e
    refine ⟨_, _, rfl, ?_⟩
    refine h1.q _ _ _ _ _ _ _ R _ _ _ a e1 _ fun σ1 R1 w1 => ?_
    refine h2.q _ _ _ _ _ _ _ R1 _ _ _ b e2 _ fun σ2 R2 w2 => ?_
    exact q σ2 R2 ((wipe_cut w2 fun v hv => List.mem_append_right _ hv).trans (wipe_cut w1 fun v hv => List.mem_append_left _ hv))⟩
def kTup (n : Nat) (ks : List PyData → Vw → Option Vw) : PyData → Vw → Option Vw
  | .tuple ds, η => if ds.length = n then ks ds η else none
  | _, _ => none
theorem dg_tup {n m : Nat} (hc : X.calm = true) (h : DGs X tgs gs vs ks) (hn : (assignEach tgs X.env).length = n := by rfl) (hst : (assignEach tgs X.env).findIdx? (·.1) = none := by rfl) : DG X (.Tuple tgs m pos) (gTup X.K n gs) vs (kTup n ks) := ⟨pg_tup hc h.p hn hst, fun wo H0 F η w σ H R x d η' hd e Q q => by
  cases hd with
  | tup h1 h2 =>
    rename_i ds
    by_cases hl : ds.length = n
    · have e2 : (if ds.length = n then ks ds η else none) = some η' := e
      rw [if_pos hl] at e2
      exact ⟨_, _, rfl, same_t R.sub h1, by rw [all_len h2]; exact hl, h.q _ _ _ _ _ _ _ R _ _ _ h2 e2 Q q⟩
    · have e2 : (if ds.length = n then ks ds η else none) = some η' := e
      rw [if_neg hl] at e2
      cases e2
  | _ => cases e⟩
end

/-! ### what is walked -/
/-- the turn's thing is data, or a new tuple of data -/
def YD (K : PySem.W.Frag) (F : Hp) (d : PyData) (H1 : Hp) (x : V) (H2 : Hp) : Prop :=
  (H2 = H1 ∧ Da K F x d) ∨ ∃ T xs es, d = .tuple es ∧ x = .ref T ∧ H1 T = none ∧ H2 = upd H1 T (.tup xs) ∧ DaAll K F xs es
structure WD (K : PySem.W.Frag) (F : Hp) (J : It) (ds : List PyData) : Prop where
  w : ∃ G Y, Walk J ds.length G Y ∧ (∀ H, Same F H → G H) ∧ ∀ i d H1 x H2, ds[i]? = some d → Same F H1 → Y i H1 x H2 → YD K F d H1 x H2
def EvI (K : PySem.W.Frag) (wi : TI) (fi : FA) : Prop := ∀ wo H0 F η w σ H, Rel K wo H0 F η w σ H → ∀ ds w', fi η w = some (ds, w') →
  ∀ Q : It → Hp → Prop, (∀ F' H' J, Gr H F F' → Kp wo H H' → Rel K wo H0 F' η w' σ H' → WD K F' J ds → Q J H') → wi σ H Q
structure DI (X : Cx) (tg iter : Expr) (wi : TI) (fi : FA) : Prop where
  p : PI X tg iter wi
  q : EvI X.K wi fi
section
variable {X : Cx} {tg e a b : Expr} {te ta tb : TE} {fe fa fb : FE} {pos : Pos}
def listOf : PyData → Option (List PyData)
  | .list ds => some ds
  | _ => none
def tupOf : PyData → Option (List PyData)
  | .tuple ds => some ds
  | _ => none
def fGet (g : PyData → Option (List PyData)) (fe : FE) : FA := fun η w => (fe η w).bind fun x => (g x.1).bind fun ds => some (ds, x.2)
theorem di_list (h : DE X e te fe) : DI X tg e (iList X.K te) (fGet listOf fe) := ⟨pi_list h.p, fun wo H0 F η w σ H R ds w' e Q q => by
  obtain ⟨⟨d, w1⟩, e1, e⟩ := bind_some e
  obtain ⟨ds', e2, e⟩ := bind_some e
  cases e
  refine h.q _ _ _ _ _ _ _ R _ _ e1 _ fun F1 H1 v g1 k1 R1 d1 => ?_
  cases d1 with
  | lst h1 h2 =>
    cases e2
    refine ⟨_, rfl, ⟨_, SqL.of (R1.sub _ _ h1)⟩, q F1 H1 _ g1 k1 R1 ⟨_, _, by rw [← all_len h2]; exact walk_list, fun H' s => SqL.of (s _ _ h1), fun i d H2 x H3 hd s y => ?_⟩⟩
    obtain ⟨y1, y2⟩ := y
    obtain ⟨v, g1, g2⟩ := all_get h2 hd
    rw [g1] at y2
    cases y2
    exact .inl ⟨y1, g2⟩
  | _ => cases e2⟩
theorem di_tup (h : DE X e te fe) : DI X tg e (iTup X.K te) (fGet tupOf fe) := ⟨pi_tup h.p, fun wo H0 F η w σ H R ds w' e Q q => by
  obtain ⟨⟨d, w1⟩, e1, e⟩ := bind_some e
  obtain ⟨ds', e2, e⟩ := bind_some e
  cases e
  refine h.q _ _ _ _ _ _ _ R _ _ e1 _ fun F1 H1 v g1 k1 R1 d1 => ?_
  cases d1 with
  | tup h1 h2 =>
    cases e2
    refine ⟨_, rfl, ⟨_, same_t R1.sub h1⟩, q F1 H1 _ g1 k1 R1 ⟨_, _, by rw [← all_len h2]; exact walk_tup, fun H' s => same_t s h1, fun i d H2 x H3 hd s y => ?_⟩⟩
    obtain ⟨y1, y2⟩ := y
    obtain ⟨v, g1, g2⟩ := all_get h2 hd
    rw [g1] at y2
    cases y2
    exact .inl ⟨y1, g2⟩
  | _ => cases e2⟩
def intOf : PyData → Option Int
  | .int i => some i
  | _ => none
theorem intOf_some {d : PyData} {i : Int} (h : intOf d = some i) : d = .int i := by
  cases d <;> first | (cases h; rfl) | cases h
@[irreducible] def okR (j : Int) : Bool := decide (-(2 ^ 62) ≤ j ∧ j < 2 ^ 62)
theorem okR_of {j : Int} (h : okR j = true) : -(2 ^ 62) ≤ j ∧ j < 2 ^ 62 := by
  unfold okR at h
  exact of_decide_eq_true h
def rng (lo hi : Int) : List PyData := (List.range (hi - lo).toNat).map fun i => .int (lo + (i : Nat))
def fRng1 (fa : FE) : FA := fun η w => (fa η w).bind fun x => (intOf x.1).bind fun j => if okR j = true then some (rng 0 j, x.2) else none
theorem wd_rng {K F} (lo hi : Int) : WD K F (Itr lo (hi - lo).toNat) (rng lo hi) := by
  have hl : (rng lo hi).length = (hi - lo).toNat := by unfold rng; rw [List.length_map, List.length_range]
  refine ⟨_, _, by rw [hl]; exact walk_range, fun _ _ => trivial, fun i d H1 x H2 hd _ y => ?_⟩
  obtain ⟨y1, y2⟩ := y
  subst y2
  unfold rng at hd
  rw [List.getElem?_map] at hd
  cases z : (List.range (hi - lo).toNat)[i]? with
  | none => rw [z] at hd; cases hd
  | some j =>
    rw [z] at hd
    cases hd
    have : j = i := by
      obtain ⟨h1, h2⟩ := List.getElem?_eq_some_iff.mp z
      rw [List.getElem_range] at h2
      exact h2.symm
    subst this
    exact .inl ⟨y1, .int _⟩
theorem di_range1 {p : Pos} (h : DE X a ta fa) (hg : Gl X "range") (hm : X.mg "range" = none) (hs1 : starEach [a] X.env = (false, eval a X.env) :: starEach [] X.env := by rfl) (hs : starEach [a] X.env = [(false, eval a X.env)] := by rfl) :
    DI X tg (.Call (.Name "range" p) [a] [] pos) (iRng1 (tCons ta tNil)) (fRng1 fa) := ⟨pi_range1 hg hm (pa_cons h.p pa_nil hs1) hs, fun wo H0 F η w σ H R ds w' e Q q => by
  obtain ⟨⟨d, w1⟩, e1, e⟩ := bind_some e
  obtain ⟨j, e2, e⟩ := bind_some e
  cases intOf_some e2
  refine h.q _ _ _ _ _ _ _ R _ _ e1 _ fun F1 H1 v g1 k1 R1 d1 => ?_
  cases d1
  cases ok : okR j with
  | false => rw [ok] at e; cases e
  | true =>
    rw [ok] at e
    cases e
    obtain ⟨h1, h2⟩ := okR_of ok
    refine ⟨j, rfl, h1, h2, q F1 H1 _ g1 k1 R1 ?_⟩
    have := wd_rng (K := X.K) (F := F1) 0 j
    rw [Int.sub_zero] at this
    exact this⟩
def fRng2 (fa fb : FE) : FA := fun η w => (fa η w).bind fun x => (fb η x.2).bind fun y => (intOf x.1).bind fun i => (intOf y.1).bind fun j => if (okR i && okR j) = true then some (rng i j, y.2) else none
theorem di_range2 {p : Pos} (ha : DE X a ta fa) (hb : DE X b tb fb) (hg : Gl X "range") (hm : X.mg "range" = none) (hs0 : starEach [b] X.env = (false, eval b X.env) :: starEach [] X.env := by rfl) (hs1 : starEach [a, b] X.env = (false, eval a X.env) :: starEach [b] X.env := by rfl)
    (hs : starEach [a, b] X.env = [(false, eval a X.env), (false, eval b X.env)] := by rfl) (hs2 : starEach [b] X.env = [(false, eval b X.env)] := by rfl) :
    DI X tg (.Call (.Name "range" p) [a, b] [] pos) (iRng2 (tCons ta (tCons tb tNil))) (fRng2 fa fb) := ⟨pi_range2 hg hm (pa_cons ha.p (pa_cons hb.p pa_nil hs0) hs1) hs hs2, fun wo H0 F η w σ H R ds w' e Q q => by
  obtain ⟨⟨d, w1⟩, e1, e⟩ := bind_some e
  obtain ⟨⟨d', w2⟩, e2, e⟩ := bind_some e
  obtain ⟨i, e3, e⟩ := bind_some e
  obtain ⟨j, e4, e9⟩ := bind_some e
  cases intOf_some e3
  cases intOf_some e4
  refine ha.q _ _ _ _ _ _ _ R _ _ e1 _ fun F1 H1 v g1 k1 R1 d1 => ?_
  refine hb.q _ _ _ _ _ _ _ R1 _ _ e2 _ fun F2 H2 u g2 k2 R2 d2 => ?_
  cases d1
  cases d2
  cases ok : (okR i && okR j) with
  | false => rw [ok] at e9; cases e9
  | true =>
    rw [ok] at e9
    cases e9
    obtain ⟨o1, o2⟩ := Bool.and_eq_true_iff.mp ok
    obtain ⟨h1, h2⟩ := okR_of o1
    obtain ⟨h3, h4⟩ := okR_of o2
    exact ⟨i, j, rfl, ⟨h1, h2, h3, h4⟩, q F2 H2 _ (g1.trans g2 k1 R1.wel) (k1.trans k2) R2 (wd_rng i j)⟩⟩
end

/-! ### for -/
def fLoop (k : PyData → Vw → Option Vw) (fb : FS) : List PyData → Vw → Wl → Option (Ctl × Wl)
  | [], η, w => some (.nx η, w)
  | d :: ds, η, w => (k d η).bind fun η1 => (fb η1 w).bind fun x => match x.1 with
    | .nx η2 => fLoop k fb ds η2 x.2
    | .ct η2 => fLoop k fb ds η2 x.2
    | .bk η2 => some (.nx η2, x.2)
    | .rt r => some (.rt r, x.2)
def fFor (fi : FA) (k : PyData → Vw → Option Vw) (fb : FS) : FS := fun η w => (fi η w).bind fun x => fLoop k fb x.1 η x.2
section
variable {X : Cx} {tg iter : Expr} {body : List Stmt} {wi : TI} {fi : FA} {g : TG} {vs : List Nat} {k : PyData → Vw → Option Vw} {tb : TS} {fb : FS} {pos : Pos}
theorem Rel.nt {K : PySem.W.Frag} {wo : Option Addr} {H0 F H : Hp} {η : Vw} {w : Wl} {σ : L2.St} (R : Rel K wo H0 F η w σ H) {d : PyData} {F1 : Hp} {x : V} {H2 : Hp} (le : Same F1 F) (y : YD K F1 d H x H2) :
    ∃ F', Gr H F F' ∧ Kp wo H H2 ∧ Rel K wo H0 F' η w σ H2 ∧ Da K F' x d := by
  rcases y with ⟨rfl, h⟩ | ⟨T, xs, es, rfl, rfl, hT, rfl, h⟩
  · exact ⟨F, Gr.refl _ _, Kp.refl _ _, R, da_mono le _ _ h⟩
  · exact ⟨_, gr_new R.sub hT, kp_new hT, R.new hT _, .tup (SqT.of upd_same) (daAll_mono (gr_new R.sub hT).le _ _ (daAll_mono le _ _ h))⟩
theorem ds_for (hp : PassesOwn (model X.prog X.w) X.A X.env X.xe) (hc : X.calm = true) (hi : DI X tg iter wi fi) (hg : DG X tg g vs k) (hb : DSs X body tb fb) (hs : ∀ x, foldedSetIterable iter X.env x = pure x := by intro _; rfl) : DS X (.For tg iter body [] pos) (tFor wi g tb) (fFor fi k fb) :=
  ⟨ps_for hp hc hi.p hg.p hb.p hs, fun wo H0 F η w σ H R c w' e D kk => by
    obtain ⟨⟨ds, w1⟩, e1, e⟩ := bind_some e
    refine hi.q _ _ _ _ _ _ _ R _ _ e1 _ fun F1 H1 J g1 k1 R1 W => ?_
    obtain ⟨G, Y, wk, hG, hY⟩ := W.w
    have g01 : Gr H0 F F1 := R.gr0 g1
    refine for_it wk (fun i σ H => ∃ F' η' w2, Gr H0 F1 F' ∧ Rel X.K wo H0 F' η' w2 σ H ∧ fLoop k fb (ds.drop i) η' w2 = some (c, w')) ⟨F1, η, w1, Gr.refl _ _, R1, e⟩ (fun i σ H _ ⟨F', η', w2, g', R', _⟩ => hG H (g'.le.trans R'.sub)) ?_ ?_
    · rintro i x σ2 H2 H3 hi' ⟨F', η', w2, g', R', e'⟩ y
      have hd : ds[i]? = some ds[i] := by simp [hi']
      obtain ⟨F3, g3, k3, R3, dx⟩ := R'.nt g'.le (hY i _ _ _ _ hd (g'.le.trans R'.sub) y)
      rw [List.drop_eq_getElem_cons hi'] at e'
      obtain ⟨η1, ek, e'⟩ := bind_some e'
      obtain ⟨⟨c1, w3⟩, eb, e'⟩ := bind_some e'
      have g03 : Gr H0 F1 F3 := gr0_trans g' (R'.gr0 g3)
      refine hg.q _ _ _ _ _ _ _ R3 _ _ _ dx ek _ fun σ3 R4 _ => ?_
      refine hb.q _ _ _ _ _ _ _ R4 _ _ eb _ ?_
      cases c1 with
      | nx η2 => exact fun F5 σ5 H5 g5 R5 => ⟨F5, η2, w3, gr0_trans g03 g5, R5, e'⟩
      | ct η2 => exact fun F5 σ5 H5 g5 R5 => ⟨F5, η2, w3, gr0_trans g03 g5, R5, e'⟩
      | bk η2 =>
        cases e'
        exact fun F5 σ5 H5 g5 R5 => kk F5 σ5 H5 (gr0_trans g01 (gr0_trans g03 g5)) R5
      | rt r =>
        cases e'
        exact fun F5 H5 v g5 => kk F5 H5 v (gr0_trans g01 (gr0_trans g03 g5))
    · rintro σ2 H2 ⟨F', η', w2, g', R', e'⟩
      rw [List.drop_length] at e'
      cases e'
      exact kk F' σ2 H2 (gr0_trans g01 g') R'⟩
end

/-! ### comprehensions -/
def wipeV (η : Vw) : List Nat → Vw
  | [] => η
  | v :: vs => (wipeV η vs).set v .no
section
variable {K : PySem.W.Frag} {wo : Option Addr} {H0 F F1 H H1 : Hp} {η : Vw} {w w' : Wl} {σ : L2.St}
theorem Rel.forget (R : Rel K wo H0 F η w σ H) (i : Nat) : Rel K wo H0 F (η.set i .no) w (σ.set i none) H := by
  refine ⟨R.sub, R.wel, R.ent, by rw [List.length_set, List.length_set]; exact R.len, fun j s e => ?_, fun j k p ds es e1 e2 q1 q2 => ?_⟩
  · by_cases hj : i = j
    · subst hj
      by_cases hl : i < η.length
      · rw [List.getElem?_set_self hl] at e
        cases e
        trivial
      · rw [List.getElem?_eq_none (by rw [List.length_set]; omega)] at e
        cases e
    · rw [List.getElem?_set_ne hj] at e
      rw [List.getElem?_set_ne hj]
      exact R.slt j s e
  · have nj : ∀ {j : Nat} {ds : List PyData}, (η.set i .no)[j]? = some (.own ds) → i ≠ j := fun {j ds} e z => by
      subst z
      by_cases hl : i < η.length
      · rw [List.getElem?_set_self hl] at e; cases e
      · rw [List.getElem?_eq_none (by rw [List.length_set]; omega)] at e; cases e
    have n1 := nj e1
    have n2 := nj e2
    rw [List.getElem?_set_ne n1] at e1 q1
    rw [List.getElem?_set_ne n2] at e2 q2
    exact R.sep j k p ds es e1 e2 q1 q2
theorem Rel.wipe (R : Rel K wo H0 F η w σ H) : ∀ vs : List Nat, Rel K wo H0 F (wipeV η vs) w (L2.wipe σ vs) H
  | [] => R
  | v :: vs => (R.wipe vs).forget v
/-- behind what leaves all but the well as it was -/
theorem Rel.step (R : Rel K wo H0 F η w σ H) (g : Gr H F F1) (k : Kp wo H H1) (s : Same F1 H1) (q : Wel wo F1 H1 w') : Rel K wo H0 F1 η w' σ H1 := by
  refine ⟨s, q, R.ent.trans k, R.len, fun i s e => ?_, R.sep⟩
  have h := R.slt i s e
  cases s with
  | no => trivial
  | dat d => obtain ⟨v, h1, h2⟩ := h; exact ⟨v, h1, da_mono g.le _ _ h2⟩
  | scr _ => exact h
  | well => exact h
  | own ds =>
    obtain ⟨x, us, z1, z2, z3, z4, z5, z6⟩ := h
    exact ⟨x, us, z1, z2, g.nw x z3 (by rw [z5]; exact fun z => nomatch z), z4, k x _ z4 z5, daAll_mono g.le _ _ z6⟩
/-- a list that no name holds, and that doesn't stand, changes -/
theorem Rel.aside (R : Rel K wo H0 F η w σ H) {D : Addr} {o : HO} (h0 : H0 D = none) (hF : F D = none) (hw : wo ≠ some D) (ne : ∀ (j : Nat) (es : List PyData) (q : Addr), η[j]? = some (.own es) → σ[j]? = some (some (.ref q)) → q ≠ D) : Rel K wo H0 F η w σ (upd H D o) := by
  refine ⟨fun b u e => by rw [upd_ne (ne_of_none e hF)]; exact R.sub b u e, fun a e => ?_, fun b u n e => by rw [upd_ne (ne_of_none e h0)]; exact R.ent b u n e, R.len, fun i s e => ?_, R.sep⟩
  · obtain ⟨h1, h2⟩ := R.wel a e
    exact ⟨h1, by rw [upd_ne (fun z => hw (by rw [← z]; exact e))]; exact h2⟩
  · have h := R.slt i s e
    cases s with
    | no => trivial
    | dat d => exact h
    | scr _ => exact h
    | well => exact h
    | own ds =>
      obtain ⟨x, us, z1, z2, z3, z4, z5, z6⟩ := h
      exact ⟨x, us, z1, z2, z3, z4, by rw [upd_ne (ne i ds x e z1)]; exact z5, z6⟩
end
def fTurns (k : PyData → Vw → Option Vw) (ft : FT) (fe : FE) (η0 : Vw) : List PyData → List PyData → Wl → Option (List PyData × Wl)
  | [], acc, w => some (acc, w)
  | d :: ds, acc, w => (k d η0).bind fun η1 => (ft η1 w).bind fun b => if b.1 = true then (fe η1 b.2).bind fun v => if acc.length < sizeLine then fTurns k ft fe η0 ds (acc ++ [v.1]) v.2 else none else fTurns k ft fe η0 ds acc b.2
def fComp (fi : FA) (k : PyData → Vw → Option Vw) (ft : FT) (fe : FE) (vs : List Nat) : FA := fun η w => (fi η w).bind fun x => fTurns k ft fe (wipeV η vs) x.1 [] x.2
structure DTs (X : Cx) (ifs : List Expr) (t : TT) (f : FT) : Prop where
  p : PTs X ifs t
  q : EvT X.K t f
section
variable {X : Cx} {tg iter elt c : Expr} {ifs : List Expr} {wi : TI} {fi : FA} {g : TG} {vs : List Nat} {k : PyData → Vw → Option Vw} {tt : TT} {ft : FT} {te : TE} {fe : FE} {pos : Pos} {scope : Scope} {own : List (Str × Nat)}
def fYes : FT := fun _ w => some (true, w)
theorem dts_nil : DTs X [] tYes fYes := ⟨pts_nil, fun wo H0 F η w σ H R b w' e Q q => by
  cases e
  exact q F H (Gr.refl _ _) (Kp.refl _ _) R⟩
theorem dts_one (h : DT X c tt ft) : DTs X [c] tt ft := ⟨pts_one h.p, h.q⟩
theorem comp_ev {K : PySem.W.Frag} (hi : EvI K wi fi) (hg : EvG K g vs k) (ht : EvT K tt ft) (he : EvE K te fe) : EvN K (tLc wi g tt te vs) (fComp fi k ft fe vs) := by
  intro wo H0 F η w σ H R ds' w' e Q q
  obtain ⟨⟨ds, w1⟩, e1, e⟩ := bind_some e
  refine hi _ _ _ _ _ _ _ R _ _ e1 _ fun F1 H1 J g1 k1 R1 W => ?_
  intro D hD
  obtain ⟨G, Y, wk, hG, hY⟩ := W.w
  have hD0 : H D = none := back_free k1 R1 hD
  have hDe : H0 D = none := ent_free R1 hD
  have hDF : F1 D = none := R1.sub.free hD
  have hDw : wo ≠ some D := R1.wne hD
  have hDo := own_ne R1 hD
  -- Pv: what stands, the well, the list so far, all else but D and the well as it was
  refine lc_it wk (fun i H2 => ∃ F' w2 acc vacc, Gr H1 F1 F' ∧ F' D = none ∧ Rel K wo H0 F' η w2 σ H2 ∧ (∀ b o, wo ≠ some b → b ≠ D → H1 b = some o → H2 b = some o) ∧ H2 D = some (.lst vacc) ∧ DaAll K F' vacc acc ∧ fTurns k ft fe (wipeV η vs) (ds.drop i) acc w2 = some (ds', w'))
    ⟨F1, w1, [], [], Gr.refl _ _, hDF, R1.mute hD _, fun b o _ n e => by rw [upd_ne n]; exact e, upd_same, .nil, e⟩ (fun i H2 _ ⟨F', w2, acc, vacc, g', _, R', _⟩ => hG H2 (g'.le.trans R'.sub)) ?_ ?_
  · rintro i x H2 H3 hi' ⟨F', w2, acc, vacc, g', nD, R', kp', hl, da, e'⟩ y
    have hd : ds[i]? = some ds[i] := by simp [hi']
    have gF : ∀ {Fa : Hp}, Gr H2 F' Fa → Gr H1 F1 Fa := fun {Fa} ga => ⟨g'.le.trans ga.le, fun b n z => ga.nw b (g'.nw b n z) (by
      by_cases e1 : wo = some b
      · rw [(R'.wel b e1).2]; exact fun z => nomatch z
      · by_cases e2 : b = D
        · rw [e2, hl]; exact fun z => nomatch z
        · cases y : H1 b with
          | none => exact absurd y z
          | some o => rw [kp' b o e1 e2 y]; exact fun z => nomatch z)⟩
    obtain ⟨F3, g3, k3, R3, dx⟩ := R'.nt g'.le (hY i _ _ _ _ hd (g'.le.trans R'.sub) y)
    rw [List.drop_eq_getElem_cons hi'] at e'
    obtain ⟨η1, ek, e'⟩ := bind_some e'
    obtain ⟨⟨b, w3⟩, eb, e'⟩ := bind_some e'
    have hl3 : H3 D = some (.lst vacc) := k3 D _ hDw hl
    refine hg _ _ _ _ _ _ _ (R3.wipe vs) _ _ _ dx ek _ fun σ3 R4 hw => ?_
    refine ⟨by rw [wipe_wipe] at hw; exact hw, ?_⟩
    refine ht _ _ _ _ _ _ _ R4 _ _ eb _ fun F5 H5 g5 k5 R5 => ?_
    have g35 : Gr H2 F' F5 := g3.trans g5 k3 R3.wel
    have k35 : Kp wo H2 H5 := k3.trans k5
    cases b with
    | true =>
      refine iteT ?_
      have e'' : ((fe η1 w3).bind fun v => if acc.length < sizeLine then fTurns k ft fe (wipeV η vs) (ds.drop (i + 1)) (acc ++ [v.1]) v.2 else none) = some (ds', w') := e'
      obtain ⟨⟨v, w4⟩, ev, e''⟩ := bind_some e''
      refine he _ _ _ _ _ _ _ R5 _ _ ev _ fun F6 H6 y6 g6 k6 R6 d6 => ?_
      have g36 : Gr H2 F' F6 := g35.trans g6 k35 R5.wel
      have k36 : Kp wo H2 H6 := k35.trans k6
      have hl6 : H6 D = some (.lst vacc) := k36 D _ hDw hl
      have nD6 : F6 D = none := g36.nw D nD (by rw [hl]; exact fun z => nomatch z)
      by_cases hz : acc.length < sizeLine
      · rw [if_pos hz] at e''
        refine ⟨vacc, hl6, by rw [all_len da]; exact hz, F6, w4, acc ++ [v], vacc ++ [y6], gF g36, nD6, (R'.step g36 k36 R6.sub R6.wel).aside hDe nD6 hDw hDo, fun b o n1 n2 z => ?_, upd_same, all_app (daAll_mono g36.le _ _ da) (.cons d6 .nil), e''⟩
        rw [upd_ne n2]
        exact k36 b o n1 (kp' b o n1 n2 z)
      · rw [if_neg hz] at e''
        cases e''
    | false =>
      refine iteF ?_
      have nD5 : F5 D = none := g35.nw D nD (by rw [hl]; exact fun z => nomatch z)
      exact ⟨F5, w3, acc, vacc, gF g35, nD5, R'.step g35 k35 R5.sub R5.wel, fun b o n1 n2 z => k35 b o n1 (kp' b o n1 n2 z), k35 D _ hDw hl, daAll_mono g35.le _ _ da, e'⟩
  · rintro H2 ⟨F', w2, acc, vacc, g', nD, R', kp', hl, da, e'⟩
    rw [List.drop_length] at e'
    cases e'
    refine q F' H2 D vacc ⟨g1.le.trans g'.le, fun b n z => g'.nw b (g1.nw b n z) ?_⟩ (fun b o n z => kp' b o n (ne_of_none z hD0) (k1 b o n z)) R' hD0 nD hDw hl da
    by_cases e1 : wo = some b
    · rw [(R1.wel b e1).2]; exact fun z => nomatch z
    · cases y : H b with
      | none => exact absurd y z
      | some o => rw [k1 b o e1 y]; exact fun z => nomatch z
/-! what a comprehension's parts tell may speak of their own block: all of it at once -/
abbrev BT (α : Type) := Shared → Hp → Addr → List (Str × Addr) → List Addr → α
def allE (te : BT TE) : TE := fun σ G Q => ∀ s H C cl fp, te s H C cl fp σ G Q
def allT (tt : BT TT) : TT := fun σ G Q => ∀ s H C cl fp, tt s H C cl fp σ G Q
def allG (g : BT TG) : TG := fun v σ G Q => ∀ s H C cl fp, g s H C cl fp v σ G Q
theorem all_e {teb : BT TE} (h : ∀ (s : Shared) (H : Hp) (C : Addr) (cl : List (Str × Addr)) (fp : List Addr), DE (X.blk s H scope (compEnvC scope cl C X.env) fp) elt (teb s H C cl fp) fe) (s : Shared) (H : Hp) (C : Addr) (cl : List (Str × Addr)) (fp : List Addr) :
    DE (X.blk s H scope (compEnvC scope cl C X.env) fp) elt (allE teb) fe := ⟨⟨fun pins s0 σ G Q I z => (h s H C cl fp).p.run pins s0 σ G Q I (z s H C cl fp)⟩, fun wo H0 F η w σ G R d w' e Q q s1 H1 C1 cl1 fp1 => (h s1 H1 C1 cl1 fp1).q wo H0 F η w σ G R d w' e Q q⟩
theorem all_t {ttb : BT TT} (h : ∀ (s : Shared) (H : Hp) (C : Addr) (cl : List (Str × Addr)) (fp : List Addr), DTs (X.blk s H scope (compEnvC scope cl C X.env) fp) ifs (ttb s H C cl fp) ft) (s : Shared) (H : Hp) (C : Addr) (cl : List (Str × Addr)) (fp : List Addr) :
    DTs (X.blk s H scope (compEnvC scope cl C X.env) fp) ifs (allT ttb) ft := ⟨⟨fun pins s0 σ G Q I z => (h s H C cl fp).p.run pins s0 σ G Q I (z s H C cl fp)⟩, fun wo H0 F η w σ G R d w' e Q q s1 H1 C1 cl1 fp1 => (h s1 H1 C1 cl1 fp1).q wo H0 F η w σ G R d w' e Q q⟩
theorem all_g {gb : BT TG} (h : ∀ (s : Shared) (H : Hp) (C : Addr) (cl : List (Str × Addr)) (fp : List Addr), DG (X.blk s H scope (compEnvC scope cl C X.env) fp) tg (gb s H C cl fp) vs k) (s : Shared) (H : Hp) (C : Addr) (cl : List (Str × Addr)) (fp : List Addr) :
    DG (X.blk s H scope (compEnvC scope cl C X.env) fp) tg (allG gb) vs k := ⟨⟨fun pins s0 σ G v u Q I r z => (h s H C cl fp).p.run pins s0 σ G v u Q I r (z s H C cl fp)⟩, fun wo H0 F η w σ G R x d η' e1 e2 Q q s1 H1 C1 cl1 fp1 => (h s1 H1 C1 cl1 fp1).q wo H0 F η w σ G R x d η' e1 e2 Q q⟩
/-- [elt for tg in iter if ..] -/
theorem dn_comp0 (hc : X.calm = true) (hN : X.N.Nodup) (hi : DI X tg iter wi fi) (ok : BlkOk X.N X.env.scope scope own)
    (hg : ∀ (s : Shared) (H : Hp) (C : Addr) (cl : List (Str × Addr)) (fp : List Addr), DG (X.blk s H scope (compEnvC scope cl C X.env) fp) tg g (own.map (·.2)) k)
    (ht : ∀ (s : Shared) (H : Hp) (C : Addr) (cl : List (Str × Addr)) (fp : List Addr), DTs (X.blk s H scope (compEnvC scope cl C X.env) fp) ifs tt ft)
    (he : ∀ (s : Shared) (H : Hp) (C : Addr) (cl : List (Str × Addr)) (fp : List Addr), DE (X.blk s H scope (compEnvC scope cl C X.env) fp) elt te fe) (hs : ∀ x, foldedSetIterable iter X.env x = pure x := by intro _; rfl) :
    DN X (.ListComp elt [⟨tg, iter, ifs, 0⟩] scope pos) (tLc wi g tt te (own.map (·.2))) (fComp fi k ft fe (own.map (·.2))) :=
  ⟨pe_lc hc hN hi.p ok (fun s H C cl fp => (hg s H C cl fp).p) (fun s H C cl fp => (ht s H C cl fp).p) (fun s H C cl fp => (he s H C cl fp).p) hs,
   comp_ev hi.q (hg {} (fun _ => none) 0 [] []).q (ht {} (fun _ => none) 0 [] []).q (he {} (fun _ => none) 0 [] []).q⟩
/-- y = [elt for ..] -/
theorem ds_setComp0 {i : Nat} {y : Str} {py spos : Pos} (hc : X.calm = true) (hN : X.N.Nodup) (hy : X.N[i]? = some y) (hyl : X.env.scope.names.lookup y = some .local)
    (hsw : swapsWith (.ListComp elt [⟨tg, iter, ifs, 0⟩] scope pos) (some (.Name y py)) spos.line X.env = pure true) (hi : DI X tg iter wi fi) (ok : BlkOk X.N X.env.scope scope own)
    (hg : ∀ (s : Shared) (H : Hp) (C : Addr) (cl : List (Str × Addr)) (fp : List Addr), DG (X.blk s H scope (compEnvC scope cl C X.env) fp) tg g (own.map (·.2)) k)
    (ht : ∀ (s : Shared) (H : Hp) (C : Addr) (cl : List (Str × Addr)) (fp : List Addr), DTs (X.blk s H scope (compEnvC scope cl C X.env) fp) ifs tt ft)
    (he : ∀ (s : Shared) (H : Hp) (C : Addr) (cl : List (Str × Addr)) (fp : List Addr), DE (X.blk s H scope (compEnvC scope cl C X.env) fp) elt te fe) (hs : ∀ x, foldedSetIterable iter X.env x = pure x := by intro _; rfl) :
    DS X (.Assign [.Name y py] (.ListComp elt [⟨tg, iter, ifs, 0⟩] scope pos) spos) (tAsg (tLc wi g tt te (own.map (·.2))) (gName i)) (fSetN i (fComp fi k ft fe (own.map (·.2)))) :=
  ⟨ps_setLc hc hN hy hyl hsw hi.p ok (fun s H C cl fp => (hg s H C cl fp).p) (fun s H C cl fp => (ht s H C cl fp).p) (fun s H C cl fp => (he s H C cl fp).p) hs, fun wo H0 F η w σ H R c w' e D kk => by
    obtain ⟨⟨ds, w1⟩, e1, e⟩ := bind_some e
    cases e
    refine comp_ev hi.q (hg {} (fun _ => none) 0 [] []).q (ht {} (fun _ => none) 0 [] []).q (he {} (fun _ => none) 0 [] []).q _ _ _ _ _ _ _ R _ _ e1 _ fun F1 H1 p vs g1 k1 R1 hp0 hF hw hp d1 => ?_
    exact kk F1 _ H1 (R.gr0 g1) (R1.putN i (ent_free R hp0) hF hw hp d1 fun j es q a b => own_ne R hp0 j es q a b)⟩
theorem dn_comp {gb : BT TG} {ttb : BT TT} {teb : BT TE} (hc : X.calm = true) (hN : X.N.Nodup) (hi : DI X tg iter wi fi) (ok : BlkOk X.N X.env.scope scope own)
    (hg : ∀ (s : Shared) (H : Hp) (C : Addr) (cl : List (Str × Addr)) (fp : List Addr), DG (X.blk s H scope (compEnvC scope cl C X.env) fp) tg (gb s H C cl fp) (own.map (·.2)) k)
    (ht : ∀ (s : Shared) (H : Hp) (C : Addr) (cl : List (Str × Addr)) (fp : List Addr), DTs (X.blk s H scope (compEnvC scope cl C X.env) fp) ifs (ttb s H C cl fp) ft)
    (he : ∀ (s : Shared) (H : Hp) (C : Addr) (cl : List (Str × Addr)) (fp : List Addr), DE (X.blk s H scope (compEnvC scope cl C X.env) fp) elt (teb s H C cl fp) fe) (hs : ∀ x, foldedSetIterable iter X.env x = pure x := by intro _; rfl) :
    DN X (.ListComp elt [⟨tg, iter, ifs, 0⟩] scope pos) (tLc wi (allG gb) (allT ttb) (allE teb) (own.map (·.2))) (fComp fi k ft fe (own.map (·.2))) := dn_comp0 hc hN hi ok (all_g hg) (all_t ht) (all_e he) hs
theorem ds_setComp {gb : BT TG} {ttb : BT TT} {teb : BT TE} {i : Nat} {y : Str} {py spos : Pos} (hc : X.calm = true) (hN : X.N.Nodup) (hy : X.N[i]? = some y) (hyl : X.env.scope.names.lookup y = some .local)
    (hsw : swapsWith (.ListComp elt [⟨tg, iter, ifs, 0⟩] scope pos) (some (.Name y py)) spos.line X.env = pure true) (hi : DI X tg iter wi fi) (ok : BlkOk X.N X.env.scope scope own)
    (hg : ∀ (s : Shared) (H : Hp) (C : Addr) (cl : List (Str × Addr)) (fp : List Addr), DG (X.blk s H scope (compEnvC scope cl C X.env) fp) tg (gb s H C cl fp) (own.map (·.2)) k)
    (ht : ∀ (s : Shared) (H : Hp) (C : Addr) (cl : List (Str × Addr)) (fp : List Addr), DTs (X.blk s H scope (compEnvC scope cl C X.env) fp) ifs (ttb s H C cl fp) ft)
    (he : ∀ (s : Shared) (H : Hp) (C : Addr) (cl : List (Str × Addr)) (fp : List Addr), DE (X.blk s H scope (compEnvC scope cl C X.env) fp) elt (teb s H C cl fp) fe) (hs : ∀ x, foldedSetIterable iter X.env x = pure x := by intro _; rfl) :
    DS X (.Assign [.Name y py] (.ListComp elt [⟨tg, iter, ifs, 0⟩] scope pos) spos) (tAsg (tLc wi (allG gb) (allT ttb) (allE teb) (own.map (·.2))) (gName i)) (fSetN i (fComp fi k ft fe (own.map (·.2)))) := ds_setComp0 hc hN hy hyl hsw hi ok (all_g hg) (all_t ht) (all_e he) hs
end
end DL
namespace DL
open L2 PySem PySem.Spec PyProof.Rows

/-! ### defs, called where nothing is being shown (repr's own guards are empty) -/
structure FnG (P : Program) (w : World) (K : PySem.W.Frag) (mg : Str → Option Value) (base : Heap) (k : Nat) (f : Addr) (fd : FuncData) (ps : List Str) (sp : Sp) : Prop where
  len : ∀ xs G R E, sp xs G R E → xs.length = ps.length
  run : ∀ (A : Around) (outer : List Env) (s : Shared) (H : Hp) (args : Args) (us : List Value) (vs : List V) (Q : VK) (E : XK), A.guards = some [] → Room k A → Env0 P w K mg base A outer s H →
    BindsTo s fd args (ps.zip us) → Vals vs us → sp vs H Q E → codeAny (model P w) A (.call (.ref f) args) (CR CX0 outer P w H s Q E) s
section
variable {K : PySem.W.Frag} {P : Program} {w : World} {base : Heap} {mg : Str → Option Value}
theorem FnG.mono {j k : Nat} {f : Addr} {fd : FuncData} {ps : List Str} {sp : Sp} (G : FnG P w K mg base j f fd ps sp) (h : j ≤ k) : FnG P w K mg base k f fd ps sp :=
  ⟨G.len, fun A o s H args us vs Q E hg hr e b v q => G.run A o s H args us vs Q E hg (hr.mono h) e b v q⟩
theorem FnG.of {k : Nat} {f : Addr} {fd : FuncData} {ps : List Str} {sp : Sp} (G : FnOk P w K mg base CX0 k f fd ps sp) : FnG P w K mg base k f fd ps sp :=
  ⟨G.len, fun A o s H args us vs Q E _ hr e b v q => G.run A o s H args us vs Q E hr e b v q⟩
/-- a def by its body -/
theorem fnG_body {x qual : Str} {st : Stmt} {f : Addr} {fd : FuncData} {N ps : List Str} {k : Nat} {sp : Sp} (F : Fun K x qual st f fd) (S : FnScope N ps (defScope st)) (len : ∀ vs H Q E, sp vs H Q E → vs.length = ps.length)
    (hbody : ∀ (cdv : Value) (A : Around) (outer : List Env) (s : Shared) (H : Hp) (vs : List V) (Q : VK) (E : XK), A.guards = some [] → Room k (A.deeper (envOfC qual (defScope st) s.heap.objs.size f cdv)) → sp vs H Q E →
      ∃ t, PSs (cxOf CX0 P w K mg base N qual (defScope st) f cdv A outer s H E).nox (defBody st) t ∧ t { nx := fun _ H' => Q .non H', rt := Q } (L2.start N vs) H) : FnG P w K mg base (k + 1) f fd ps sp := by
  obtain ⟨c1, o1, kV, o2, o3, o4, cdv, o5, o6, rfl, lk, hcd⟩ := F.ex
  refine ⟨len, ?_⟩
  intro A outer s H args us vs Q E hg hr e0 hb r hsp
  have long := len _ _ _ _ hsp
  have KX : K.In s.heap := e0.mod.kin.keeps fun a x z => (e0.bs a x z).1
  have lim : s.heap.NoLimit := e0.mod.nolimit.keeps fun a x z => (e0.bs a x z).1
  have kinds : ∀ y ∈ ps.zip us, (defScope st).names.lookup y.1 = some .local ∨ ((defScope st).names.lookup y.1 = some .cell ∧ ((cellsFrom (s.heap.objs.size + 1) (defScope st).names []).lookup y.1).isSome = true) := by
    rintro ⟨n, v⟩ hy
    cases S.par n (List.of_mem_zip hy).1 with
    | inl z => exact .inl z
    | inr z => exact .inr ⟨z, PySem.W.cellsFrom_some _ _ _ (.inl z)⟩
  refine codeAny_call_function hr.depth (KX _ _ lk) rfl S.co S.gen rfl (PySem.W.codeRec_of KX hcd) (hb _ _ _ _ (wpAny_newFunctionEnv_cells S.kind kinds fun env he s1 x => ?_))
  subst he
  obtain ⟨t, ht, hq⟩ := hbody cdv A outer s H vs Q E hg (hr.deeper _) hsp
  have I : Inv (cxOf CX0 P w K mg base N qual (defScope st) f cdv A outer s H E) [] (L2.start N vs) H s1 := inv_start S hr.hd e0 long r x
  have fin : ∀ {s' : Shared} {σ' : L2.St} {H' : Hp} {v : V} {u : Value}, Inv (cxOf CX0 P w K mg base N qual (defScope st) f cdv A outer s H E) [] σ' H' s' → RelV v u → Q v H' → CE outer P w H s Q u s' := fun {s' σ' H' v u} J rv q => ⟨v, H', J.os, J.bare, J.base, J.hok, rv, q⟩
  refine ⟨lim.keeps x.toInCall.keep, codeAny_func (wpAny_mono (ht.nox.run [] s1 (L2.start N vs) H _ I hq) ?_ fun _ _ z => z)⟩
  intro fl s' hs
  match fl, hs with
  | .ret u, ⟨v, σ', H', J, rv, q⟩ => exact fin J rv q
  | .next, ⟨σ', H', J, q⟩ => exact fin (v := V.non) (u := Value.none) J rfl q
  | .brk, ⟨_, _, _, q⟩ => exact q.elim
  | .cont, ⟨_, _, _, q⟩ => exact q.elim
end
section
variable {X : Cx} {k : Nat} {f : Addr} {fd : FuncData} {ps ks : List Str} {sp : Sp} {x : Str} {p pos : Pos} {e : Expr} {es : List Expr} {t tk : TA} {kws : List Keyword} {g : List Value → List Value → List Value} {gV : List V → List V → List V}
theorem ret_of {pins : List (Addr × Obj)} {σ : L2.St} {H : Hp} {s : Shared} {Q : VK} (I : Inv X pins σ H s) (r : Result) (s' : Shared) :
    CR CX0 X.stack X.prog X.w H s Q E0 r s' → match r with | .ok (.ret v) => EP X pins σ Q v s' | .ok _ => False | .error e => X.xe e s' := by
  intro hq
  match r, hq with
  | .ok (.ret u), hq => exact I.after hq
  | .ok .next, hq => exact hq
  | .ok .brk, hq => exact hq
  | .ok .cont, hq => exact hq
  | .error e, hq => exact hq.elim
/-- f(e, ..) -/
theorem pe_callG (G : FnG X.prog X.w X.K X.mg X.base k f fd ps sp) (gd : X.A.guards = some []) (hr : Room k X.A) (hg : Gl X x) (hm : X.mg x = some (.ref f)) (hk : PySem.W.keepIn X.K (.ref f) = true) (hb : Binds X.K fd ps []) (ha : PA X (e :: es) t) (hdb : (x == ("__debug__" : Str)) = false := by decide) (he : starEach (e :: es) X.env = (false, eval e X.env) :: starEach es X.env := by rfl) (hpl : (backTo pos (starEach es X.env)).any (·.1) = false := by rfl) :
    PE X (.Call (.Name x p) (e :: es) [] pos) (fun σ H Q => t σ H fun vs H1 => sp vs H1 Q E0) := by
  refine ⟨fun pins s σ H Q I h => wpAny_Call_Name_kw (ld_glob I hg hm (PySem.W.callWith_K (h₀ := X.base) I.ok.mod.kin hk (thn (ha.run pos pins s σ H _ I h) ?_) he hpl) hdb)⟩
  rintro us s1 ⟨vs, H1, I1, r, q⟩
  have hl : (us ++ []).length = ps.length := by rw [List.append_nil, ← r.length]; exact G.len _ _ _ _ q
  have b := hb s1 us I1.kIn hl
  rw [List.append_nil] at b
  exact ⟨I1.kIn, wpAny_call (codeAny_mono (G.run X.A X.stack s1 H1 ⟨us, []⟩ us vs Q E0 gd hr I1.env0 b r q) fun r s' hq => ret_of I1 r s' hq)⟩
/-- f() -/
theorem pe_call0G (G : FnG X.prog X.w X.K X.mg X.base k f fd ps sp) (gd : X.A.guards = some []) (hr : Room k X.A) (hg : Gl X x) (hm : X.mg x = some (.ref f)) (hk : PySem.W.keepIn X.K (.ref f) = true) (hb : Binds X.K fd ps [])
    (hdb : (x == ("__debug__" : Str)) = false := by decide) : PE X (.Call (.Name x p) [] [] pos) (fun σ H Q => tNil σ H fun vs H1 => sp vs H1 Q E0) := by
  refine ⟨fun pins s σ H Q I h => wpAny_Call_Name_kw (ld_glob I hg hm ?_ hdb)⟩
  have h' : sp [] H Q E0 := h
  have hl : (([] : List Value) ++ []).length = ps.length := by
    have := G.len _ _ _ _ h'
    rw [← this]
    rfl
  have b := hb s [] I.kIn hl
  exact PySem.W.callWith_K0 I.kIn hk (wpAny_call (codeAny_mono (G.run X.A X.stack s H ⟨[], []⟩ [] [] Q E0 gd hr I.env0 b .nil h') fun r s' hq => ret_of I r s' hq))
/-- f(e, .., k = v, ..) -/
theorem pe_callKG (G : FnG X.prog X.w X.K X.mg X.base k f fd ps sp) (gd : X.A.guards = some []) (hr : Room k X.A) (hg : Gl X x) (hm : X.mg x = some (.ref f)) (hk : PySem.W.keepIn X.K (.ref f) = true) (hb : KBinds X.K fd ps ks g gV)
    (ha : PA X (e :: es) t) (hkw : PK X kws tk) (hall : (backToKw pos (keywordEach kws X.env)).all (·.1.isSome) = true := by rfl) (hks : (backToKw pos (keywordEach kws X.env)).filterMap (·.1) = ks := by rfl) (hdb : (x == ("__debug__" : Str)) = false := by decide) (he : starEach (e :: es) X.env = (false, eval e X.env) :: starEach es X.env := by rfl) (hpl : ((backTo pos (starEach (e :: es) X.env)).any (·.1) || (backToKw pos (keywordEach kws X.env)).any (·.1.isNone)) = false := by rfl) :
    PE X (.Call (.Name x p) (e :: es) kws pos) (fun σ H Q => t σ H fun vs H1 => tk σ H1 fun zs H2 => sp (gV vs zs) H2 Q E0) := by
  refine ⟨fun pins s σ H Q I h => wpAny_Call_Name_kw (ld_glob I hg hm (PySem.W.callWith_KW (h₀ := X.base) I.ok.mod.kin hk hall (thn (ha.run pos pins s σ H _ I h) ?_) hpl he) hdb)⟩
  rintro us s1 ⟨vs, H1, I1, r, q⟩
  refine thn (hkw.run pos pins s1 σ H1 _ I1 q) ?_
  rintro ws s2 ⟨zs, H2, I2, rz, q2⟩
  refine ⟨I2.kIn, ?_⟩
  rw [hks]
  have r2 := hb.rel r rz
  have hl : (g us ws).length = ps.length := by rw [← r2.length]; exact G.len _ _ _ _ q2
  exact wpAny_call (codeAny_mono (G.run X.A X.stack s2 H2 ⟨us, ks.zip ws⟩ (g us ws) (gV vs zs) Q E0 gd hr I2.env0 (hb.to s2 us ws I2.kIn hl) r2 q2) fun r s' hq => ret_of I2 r s' hq)
/-- f(k = v, ..) -/
theorem pe_callK0G (G : FnG X.prog X.w X.K X.mg X.base k f fd ps sp) (gd : X.A.guards = some []) (hr : Room k X.A) (hg : Gl X x) (hm : X.mg x = some (.ref f)) (hk : PySem.W.keepIn X.K (.ref f) = true) (hb : KBinds X.K fd ps ks g gV)
    (hkw : PK X kws tk) (hall : (backToKw pos (keywordEach kws X.env)).all (·.1.isSome) = true := by rfl) (hks : (backToKw pos (keywordEach kws X.env)).filterMap (·.1) = ks := by rfl) (hdb : (x == ("__debug__" : Str)) = false := by decide) (hpl : ((backTo pos (starEach [] X.env)).any (·.1) || (backToKw pos (keywordEach kws X.env)).any (·.1.isNone)) = false := by rfl) :
    PE X (.Call (.Name x p) [] kws pos) (fun σ H Q => tk σ H fun zs H2 => sp (gV [] zs) H2 Q E0) := by
  refine ⟨fun pins s σ H Q I h => wpAny_Call_Name_kw (ld_glob I hg hm (PySem.W.callWith_KW0 (h₀ := X.base) I.ok.mod.kin hk hall (thn (hkw.run pos pins s σ H _ I h) ?_) hpl) hdb)⟩
  rintro ws s2 ⟨zs, H2, I2, rz, q2⟩
  refine ⟨I2.kIn, ?_⟩
  rw [hks]
  have r2 := hb.rel (vs := []) (us := []) .nil rz
  have hl : (g [] ws).length = ps.length := by rw [← r2.length]; exact G.len _ _ _ _ q2
  exact wpAny_call (codeAny_mono (G.run X.A X.stack s2 H2 ⟨[], ks.zip ws⟩ (g [] ws) (gV [] zs) Q E0 gd hr I2.env0 (hb.to s2 [] ws I2.kIn hl) r2 q2) fun r s' hq => ret_of I2 r s' hq)
end

/-! ### a def's promise by data -/
abbrev FM := List PyData → Wl → Option (PyData × Wl)
def SpD (K : PySem.W.Frag) (wl : Bool) (n : Nat) (m : FM) : Sp := fun vs H Q _ => ∃ wo F w vs' ds r w', (if wl = true then ∃ a, wo = some a ∧ vs = V.ref a :: vs' else vs = vs') ∧ Same F H ∧ Wel wo F H w ∧ DaAll K F vs' ds ∧ ds.length = n ∧ m ds w = some (r, w') ∧
  ∀ F' H' v, Gr H F F' → Kp wo H H' → Same F' H' → Wel wo F' H' w' → Da K F' v r → Q v H'
def ini (wl : Bool) (nn : Nat) (ds : List PyData) : Vw := match wl with
  | true => .well :: (ds.map Sl.dat ++ List.replicate (nn - (ds.length + 1)) .no)
  | false => ds.map Sl.dat ++ List.replicate (nn - ds.length) .no
def mOf (wl : Bool) (nn : Nat) (f : FS) : FM := fun ds w => (f (ini wl nn ds) w).bind fun x => match x.1 with
  | .rt d => some (d, x.2)
  | .nx _ => some (.none, x.2)
  | _ => none
theorem rel_start {K : PySem.W.Frag} {wo : Option Addr} {F H : Hp} {w : Wl} {vs : List V} {ds : List PyData} {nn : Nat} (s : Same F H) (q : Wel wo F H w) (h : DaAll K F vs ds) (N : List Str) (hN : N.length = nn) (hl : vs.length ≤ nn) :
    Rel K wo H F (ini false nn ds) w (L2.start N vs) H := by
  have le := all_len h
  refine ⟨s, q, Kp.refl _ _, ?_, fun i sl e => ?_, fun i j p es us e1 => ?_⟩
  · unfold L2.start ini
    simp only [List.length_append, List.length_map, List.length_replicate]
    omega
  · unfold ini at e
    by_cases hi : i < ds.length
    · have hi' : i < (ds.map Sl.dat).length := by rw [List.length_map]; exact hi
      rw [List.getElem?_append_left hi', List.getElem?_map, List.getElem?_eq_getElem hi] at e
      cases e
      obtain ⟨v, h1, h2⟩ := all_get h (List.getElem?_eq_getElem hi)
      refine ⟨v, ?_, h2⟩
      unfold L2.start
      rw [List.getElem?_append_left (by rw [List.length_map, le]; exact hi), List.getElem?_map, h1]
      rfl
    · rw [List.getElem?_append_right (by rw [List.length_map]; omega)] at e
      rw [List.getElem?_replicate] at e
      split at e
      · cases e; trivial
      · cases e
  · exfalso
    unfold ini at e1
    by_cases hi : i < ds.length
    · have hi' : i < (ds.map Sl.dat).length := by rw [List.length_map]; exact hi
      rw [List.getElem?_append_left hi', List.getElem?_map, List.getElem?_eq_getElem hi] at e1
      cases e1
    · rw [List.getElem?_append_right (by rw [List.length_map]; omega)] at e1
      rw [List.getElem?_replicate] at e1
      split at e1
      · cases e1
      · cases e1
theorem rel_startW {K : PySem.W.Frag} {a : Addr} {F H : Hp} {w : Wl} {vs : List V} {ds : List PyData} {nn : Nat} (s : Same F H) (q : Wel (some a) F H w) (h : DaAll K F vs ds) (N : List Str) (hN : N.length = nn) (hl : vs.length < nn) :
    Rel K (some a) H F (ini true nn ds) w (L2.start N (.ref a :: vs)) H := by
  cases N with
  | nil => rw [← hN] at hl; exact absurd hl (Nat.not_lt_zero _)
  | cons x N =>
    have hN' : N.length = nn - 1 := by rw [List.length_cons] at hN; omega
    have R := rel_start s q h N hN' (by omega)
    have e1 : ini true nn ds = .well :: ini false (nn - 1) ds := by
      show Sl.well :: (ds.map Sl.dat ++ List.replicate (nn - (ds.length + 1)) .no) = .well :: (ds.map Sl.dat ++ List.replicate (nn - 1 - ds.length) .no)
      rw [show nn - (ds.length + 1) = nn - 1 - ds.length by omega]
    have e2 : L2.start (x :: N) (.ref a :: vs) = some (.ref a) :: L2.start N vs := by
      unfold L2.start
      rw [List.map_cons, List.length_cons, List.length_cons, Nat.add_sub_add_right]
      rfl
    rw [e1, e2]
    refine ⟨s, q, Kp.refl _ _, by rw [List.length_cons, List.length_cons, R.len], fun i sl e => ?_, fun i j p es us e1 e2 q1 q2 => ?_⟩
    · cases i with
      | zero =>
        cases e
        exact ⟨a, rfl, rfl⟩
      | succ i => exact R.slt i sl e
    · cases i with
      | zero => cases e1
      | succ i =>
        cases j with
        | zero => cases e2
        | succ j => exact congrArg (· + 1) (R.sep i j p es us e1 e2 q1 q2)
section
variable {K : PySem.W.Frag} {P : Program} {w : World} {base : Heap} {mg : Str → Option Value}
/-- THE RULE: a def whose body is told by data keeps the promise of what its body tells -/
theorem fnD {x qual : Str} {st : Stmt} {f : Addr} {fd : FuncData} {N ps : List Str} {k n : Nat} {wl : Bool} {fS : FS} (F : Fun K x qual st f fd) (S : FnScope N ps (defScope st)) (hn : ps.length = (if wl = true then n + 1 else n))
    (hbody : ∀ (cdv : Value) (A : Around) (outer : List Env) (s : Shared) (H : Hp) (E : XK), A.guards = some [] → Room k (A.deeper (envOfC qual (defScope st) s.heap.objs.size f cdv)) →
      ∃ t, DSs (cxOf CX0 P w K mg base N qual (defScope st) f cdv A outer s H E).nox (defBody st) t fS) : FnG P w K mg base (k + 1) f fd ps (SpD K wl n (mOf wl N.length fS)) := by
  have hpl : ps.length ≤ N.length := by
    have := congrArg List.length S.pre
    rw [List.length_take] at this
    omega
  refine fnG_body F S ?_ ?_
  · rintro vs H Q E ⟨wo, F0, w0, vs', ds, r, w', hv, _, _, hd, hl, _⟩
    have := all_len hd
    cases wl with
    | true =>
      obtain ⟨a, _, rfl⟩ := hv
      rw [List.length_cons, hn, this, hl]
      rfl
    | false =>
      have e : vs = vs' := hv
      rw [e, hn, this, hl]
      rfl
  · rintro cdv A outer s H vs Q E hg hr ⟨wo, F0, w0, vs', ds, r, w', hv, hs, hw, hd, hl, hm, q⟩
    obtain ⟨t, B⟩ := hbody cdv A outer s H E hg hr
    refine ⟨t, B.p, ?_⟩
    obtain ⟨⟨c, w1⟩, e1, e2⟩ := bind_some hm
    have le := all_len hd
    have R : Rel K wo H F0 (ini wl N.length ds) w0 (L2.start N vs) H := by
      cases wl with
      | true =>
        obtain ⟨a, rfl, rfl⟩ := hv
        exact rel_startW hs hw hd N rfl (by rw [le, hl]; have : ps.length = n + 1 := hn; omega)
      | false =>
        have e : vs = vs' := hv
        subst e
        exact rel_start hs hw hd N rfl (by rw [le, hl]; have : ps.length = n := hn; omega)
    refine B.q _ _ _ _ _ _ _ R _ _ e1 _ ?_
    cases c with
    | rt d =>
      cases e2
      exact fun F' H' v g' s' q' k' d' => q F' H' v g' k' s' q' d'
    | nx η' =>
      cases e2
      exact fun F' σ' H' g' R' => q F' H' _ g' R'.ent R'.sub R'.wel .non
    | bk _ => cases e2
    | ct _ => cases e2
end
section
variable {X : Cx} {k n : Nat} {f : Addr} {fd : FuncData} {ps ks : List Str} {x : Str} {p pos : Pos} {e : Expr} {es : List Expr} {t tk : TA} {m : FM} {fs : FA}
def fCall (m : FM) (n : Nat) (fs : FA) : FE := fun η w => (fs η w).bind fun y => if y.1.length = n then m y.1 y.2 else none
def tCallD (K : PySem.W.Frag) (wl : Bool) (n : Nat) (m : FM) (t : TA) : TE := fun σ H Q => t σ H fun vs H1 => SpD K wl n m vs H1 Q E0
theorem call_fin {wo : Option Addr} {H0 F H : Hp} {η : Vw} {w : Wl} {σ : L2.St} (R : Rel X.K wo H0 F η w σ H) {vs : List V} {ds : List PyData} (hd : DaAll X.K F vs ds) (hl : ds.length = n) {d : PyData} {w' : Wl} (hm : m ds w = some (d, w')) {Q : VK}
    (q : ∀ F' H' v, Gr H F F' → Kp wo H H' → Rel X.K wo H0 F' η w' σ H' → Da X.K F' v d → Q v H') : SpD X.K false n m vs H Q E0 :=
  ⟨wo, F, w, vs, ds, d, w', rfl, R.sub, R.wel, hd, hl, hm, fun F' H' v g k s qq dd => q F' H' v g k (R.step g k s qq) dd⟩
theorem de_call (G : FnG X.prog X.w X.K X.mg X.base k f fd ps (SpD X.K false n m)) (gd : X.A.guards = some []) (hr : Room k X.A) (hg : Gl X x) (hm : X.mg x = some (.ref f)) (hk : PySem.W.keepIn X.K (.ref f) = true) (hb : Binds X.K fd ps [])
    (ha : DA X (e :: es) t fs) (hdb : (x == ("__debug__" : Str)) = false := by decide) (he : starEach (e :: es) X.env = (false, eval e X.env) :: starEach es X.env := by rfl) (hpl : (backTo pos (starEach es X.env)).any (·.1) = false := by rfl) :
    DE X (.Call (.Name x p) (e :: es) [] pos) (tCallD X.K false n m t) (fCall m n fs) := ⟨pe_callG G gd hr hg hm hk hb ha.p hdb he hpl, fun wo H0 F η w σ H R d w' e Q q => by
  obtain ⟨⟨ds, w1⟩, e1, e⟩ := bind_some e
  refine ha.q _ _ _ _ _ _ _ R _ _ e1 _ fun F1 H1 vs g1 k1 R1 d1 => ?_
  have e' : (if ds.length = n then m ds w1 else none) = some (d, w') := e
  by_cases hl : ds.length = n
  · rw [if_pos hl] at e'
    exact call_fin R1 d1 hl e' fun F2 H2 v g2 k2 R2 d2 => q F2 H2 v (g1.trans g2 k1 R1.wel) (k1.trans k2) R2 d2
  · rw [if_neg hl] at e'
    cases e'⟩
theorem de_call0 (G : FnG X.prog X.w X.K X.mg X.base k f fd ps (SpD X.K false 0 m)) (gd : X.A.guards = some []) (hr : Room k X.A) (hg : Gl X x) (hm : X.mg x = some (.ref f)) (hk : PySem.W.keepIn X.K (.ref f) = true) (hb : Binds X.K fd ps [])
    (hdb : (x == ("__debug__" : Str)) = false := by decide) : DE X (.Call (.Name x p) [] [] pos) (tCallD X.K false 0 m tNil) (fCall m 0 fNil) := ⟨pe_call0G G gd hr hg hm hk hb hdb, fun wo H0 F η w σ H R d w' e Q q => by
  have e' : m [] w = some (d, w') := e
  exact call_fin R .nil rfl e' q⟩
/-- f(well, ..) -/
def fCallW (i : Nat) (m : FM) (n : Nat) (fs : FA) : FE := fun η w => match slAt η i with
  | .well => (fs η w).bind fun y => if y.1.length = n then m y.1 y.2 else none
  | _ => none
theorem de_callW {i : Nat} {y : Str} {py : Pos} (G : FnG X.prog X.w X.K X.mg X.base k f fd ps (SpD X.K true n m)) (gd : X.A.guards = some []) (hr : Room k X.A) (hg : Gl X x) (hm : X.mg x = some (.ref f)) (hk : PySem.W.keepIn X.K (.ref f) = true) (hb : Binds X.K fd ps [])
    (hy : PE X (.Name y py) (tVar i)) (ha : DA X es t fs) (hdb : (x == ("__debug__" : Str)) = false := by decide) (he : starEach (.Name y py :: es) X.env = (false, eval (.Name y py) X.env) :: starEach es X.env := by rfl) (hpl : (backTo pos (starEach es X.env)).any (·.1) = false := by rfl) :
    DE X (.Call (.Name x p) (.Name y py :: es) [] pos) (tCallD X.K true n m (tCons (tVar i) t)) (fCallW i m n fs) := ⟨pe_callG G gd hr hg hm hk hb (pa_cons hy ha.p he) hdb he hpl, fun wo H0 F η w σ H R d w' e Q q => by
  have e0 : (match slAt η i with | .well => (fs η w).bind fun y => if y.1.length = n then m y.1 y.2 else none | _ => none) = some (d, w') := e
  cases z : slAt η i with
  | well =>
    rw [z] at e0
    obtain ⟨a, rfl, ha'⟩ := R.slt i _ (slAt_some z (fun z => nomatch z))
    obtain ⟨⟨ds, w1⟩, e1, e0⟩ := bind_some e0
    refine ⟨_, ha', ?_⟩
    refine ha.q _ _ _ _ _ _ _ R _ _ e1 _ fun F1 H1 vs g1 k1 R1 d1 => ?_
    have e' : (if ds.length = n then m ds w1 else none) = some (d, w') := e0
    by_cases hl : ds.length = n
    · rw [if_pos hl] at e'
      exact ⟨_, F1, w1, vs, ds, d, w', ⟨a, rfl, rfl⟩, R1.sub, R1.wel, d1, hl, e', fun F2 H2 v g2 k2 s2 q2 d2 => q F2 H2 v (g1.trans g2 k1 R1.wel) (k1.trans k2) (R1.step g2 k2 s2 q2) d2⟩
    · rw [if_neg hl] at e'
      cases e'
  | no => rw [z] at e0; cases e0
  | dat _ => rw [z] at e0; cases e0
  | scr _ => rw [z] at e0; cases e0
  | own _ => rw [z] at e0; cases e0⟩
end
end DL
namespace DL
open L2 PySem PySem.Spec PyProof.Rows

section
variable {X : Cx} {a b c e : Expr} {es : List Expr} {fe fa fb fc : FE} {fs : FA} {fq : FQ} {pos p : Pos} {te ta tb tc : TE} {ts : TA} {x : Str} {r : List V → Hp → VK → Prop} {id T : String}
/-! ### built-ins by values: the answer needs no heap -/
def RCd (K : PySem.W.Frag) (r : List V → Hp → VK → Prop) (g : List PyData → Option PyData) : Prop := ∀ F H vs ds z, Same F H → DaAll K F vs ds → g ds = some z → ∃ v, (∀ F, Da K F v z) ∧ ∀ Q : VK, Q v H → r vs H Q
def fBlt (g : List PyData → Option PyData) (fs : FA) : FE := fun η w => (fs η w).bind fun y => (g y.1).bind fun z => some (z, y.2)
theorem blt_ev {K : PySem.W.Frag} {g} (hr : RCd K r g) (h : EvA K ts fs) : EvE K (tCB r ts) (fBlt g fs) := by
  intro wo H0 F η w σ H R d w' e Q q
  obtain ⟨⟨ds, w1⟩, e1, e⟩ := bind_some e
  obtain ⟨z, e2, e⟩ := bind_some e
  cases e
  refine h _ _ _ _ _ _ _ R _ _ e1 _ fun F1 H1 vs g1 k1 R1 d1 => ?_
  obtain ⟨v, h1, h2⟩ := hr F1 H1 vs ds _ R1.sub d1 e2
  exact h2 Q (q F1 H1 v g1 k1 R1 (h1 F1))
theorem de_blt {g} (hc : CallR X (.builtin id) r) (hr : RCd X.K r g) (ha : DA X (e :: es) ts fs) (hg : Gl X x) (hm : X.mg x = none) (hv : bootBuiltins x = some (.builtin id)) (hn : x ≠ "__name__" := by decide) (hdb : (x == ("__debug__" : Str)) = false := by decide)
    (he : starEach (e :: es) X.env = (false, eval e X.env) :: starEach es X.env := by rfl) (hpl : (backTo pos (starEach es X.env)).any (·.1) = false := by rfl) : DE X (.Call (.Name x p) (e :: es) [] pos) (tCB r ts) (fBlt g fs) :=
  ⟨pe_callB hc hg hm hv ha.p hn hdb he hpl, blt_ev hr ha.q⟩
theorem de_bltT {g} (hc : CallR X (.type T) r) (hr : RCd X.K r g) (ha : DA X (e :: es) ts fs) (hg : Gl X x) (hm : X.mg x = none) (hv : bootBuiltins x = some (.type T)) (hn : x ≠ "__name__" := by decide) (hdb : (x == ("__debug__" : Str)) = false := by decide)
    (he : starEach (e :: es) X.env = (false, eval e X.env) :: starEach es X.env := by rfl) (hpl : (backTo pos (starEach es X.env)).any (·.1) = false := by rfl) : DE X (.Call (.Name x p) (e :: es) [] pos) (tCB r ts) (fBlt g fs) :=
  ⟨pe_callTy hc hg hm hv ha.p hn hdb he hpl, blt_ev hr ha.q⟩
def gInt : List PyData → Option PyData
  | [.int i] => some (.int i)
  | [.bool k] => some (.int (if k then 1 else 0))
  | _ => none
theorem rc_int {K} : RCd K (fun xs H Q => (∃ i, xs = [.int i] ∧ Q (.int i) H) ∨ ∃ k, xs = [.bl k] ∧ Q (.int (if k then 1 else 0)) H) gInt := fun F H vs ds z s h e => by
  cases h with
  | nil => cases e
  | cons h1 h2 =>
    cases h2 with
    | cons _ _ =>
      exfalso
      cases h1 <;> cases e
    | nil =>
      cases h1 <;> first | cases e | skip
      · exact ⟨_, fun F => .int _, fun Q q => .inr ⟨_, rfl, q⟩⟩
      · exact ⟨_, fun F => .int _, fun Q q => .inl ⟨_, rfl, q⟩⟩
def gAbs : List PyData → Option PyData
  | [.int i] => some (.int (if i < 0 then -i else i))
  | _ => none
theorem rc_abs {K} : RCd K (fun xs H Q => ∃ i, xs = [.int i] ∧ Q (.int (if i < 0 then -i else i)) H) gAbs := fun F H vs ds z s h e => by
  cases h with
  | nil => cases e
  | cons h1 h2 =>
    cases h2 with
    | cons _ _ =>
      exfalso
      cases h1 <;> cases e
    | nil =>
      cases h1 <;> first | cases e | skip
      exact ⟨_, fun F => .int _, fun Q q => ⟨_, rfl, q⟩⟩
def gMin2 : List PyData → Option PyData
  | [.int i, .int j] => some (.int (if j < i then j else i))
  | _ => none
def gMax2 : List PyData → Option PyData
  | [.int i, .int j] => some (.int (if j > i then j else i))
  | _ => none
theorem int2 {K : PySem.W.Frag} {F : Hp} {vs : List V} {i j : Int} (h : DaAll K F vs [.int i, .int j]) : vs = [.int i, .int j] := by
  cases h with
  | cons h1 h2 =>
    cases h2 with
    | cons h3 h4 =>
      cases h1
      cases h3
      cases h4
      rfl
theorem gMin2_some {ds : List PyData} {z : PyData} (h : gMin2 ds = some z) : ∃ i j, ds = [.int i, .int j] ∧ z = .int (if j < i then j else i) := by
  unfold gMin2 at h
  split at h
  · cases h; exact ⟨_, _, rfl, rfl⟩
  · cases h
theorem gMax2_some {ds : List PyData} {z : PyData} (h : gMax2 ds = some z) : ∃ i j, ds = [.int i, .int j] ∧ z = .int (if j > i then j else i) := by
  unfold gMax2 at h
  split at h
  · cases h; exact ⟨_, _, rfl, rfl⟩
  · cases h
theorem rc_min2 {K} : RCd K (fun xs H Q => ∃ i j, xs = [.int i, .int j] ∧ Q (.int (if j < i then j else i)) H) gMin2 := fun F H vs ds z s h e => by
  obtain ⟨i, j, rfl, rfl⟩ := gMin2_some e
  cases int2 h
  exact ⟨_, fun F => .int _, fun Q q => ⟨i, j, rfl, q⟩⟩
theorem rc_max2 {K} : RCd K (fun xs H Q => ∃ i j, xs = [.int i, .int j] ∧ Q (.int (if j > i then j else i)) H) gMax2 := fun F H vs ds z s h e => by
  obtain ⟨i, j, rfl, rfl⟩ := gMax2_some e
  cases int2 h
  exact ⟨_, fun F => .int _, fun Q q => ⟨i, j, rfl, q⟩⟩

/-! ### isinstance(e, T) -/
def tyOf : PyData → String
  | .none => "NoneType"
  | .bool _ => "bool"
  | .int _ => "int"
  | .str _ => "str"
  | .list _ => "list"
  | .tuple _ => "tuple"
  | .dict _ => "dict"
theorem da_ty {K : PySem.W.Frag} {F H : Hp} (s : Same F H) {v : V} {d : PyData} (h : Da K F v d) : TyX K H v (.type (tyOf d)) := by
  cases h with
  | non => exact .base .non
  | bl b => exact .base (.bl b)
  | int i => exact .base (.int i)
  | str x => exact .base (.str x)
  | lst h1 _ => exact .base (.lst (s _ _ h1))
  | tup h1 _ =>
    rcases h1 with (h | ⟨o, h⟩) | ⟨o, its, n, h, hc, _⟩
    · exact .base (.tup (s _ _ h))
    · exact .fTuple (s _ _ h)
    · exact .kTuple h hc
/-- one of the kinds int, bool, tuple, list, str: c tells, for a kind's name, whether it is one -/
def fIsi (c : String → Option Bool) (fe : FE) : FE := fun η w => (fe η w).bind fun y => (c (tyOf y.1)).bind fun k => some (.bool k, y.2)
theorem de_isi {ty : Expr} {n : String} {cc : String → Option Bool} (h : DE X e te fe) (ht : PE X ty (tC (.ty n))) (hk : ∀ a k, cc a = some k → PySem.W.kitOne X.K (.type a) (.type n) = some k)
    (hg : Gl X x) (hm : X.mg x = none) (hv : bootBuiltins x = some (.builtin "isinstance")) (hn : x ≠ "__name__" := by decide) (hdb : (x == ("__debug__" : Str)) = false := by decide)
    (he : starEach [e, ty] X.env = (false, eval e X.env) :: starEach [ty] X.env := by rfl) (he2 : starEach [ty] X.env = (false, eval ty X.env) :: starEach [] X.env := by rfl) (hpl : (backTo pos (starEach [ty] X.env)).any (·.1) = false := by rfl) :
    DE X (.Call (.Name x p) [e, ty] [] pos) (tCB (rIsi X.K) (tCons te (tCons (tC (.ty n)) tNil))) (fIsi cc fe) :=
  ⟨pe_callB call_isi hg hm hv (pa_cons h.p (pa_cons ht pa_nil he2) he) hn hdb he hpl, fun wo H0 F η w σ H R d w' e Q q => by
    obtain ⟨⟨d1, w1⟩, e1, e⟩ := bind_some e
    obtain ⟨k, e2, e⟩ := bind_some e
    cases e
    refine h.q _ _ _ _ _ _ _ R _ _ e1 _ fun F1 H1 v g1 k1 R1 dd => ?_
    exact ⟨v, _, _, _, k, rfl, .ty n, da_ty R1.sub dd, hk _ _ e2, q F1 H1 _ g1 k1 R1 (.bl _)⟩⟩
def isInt : String → Option Bool
  | "int" => some true
  | "bool" => some true
  | "NoneType" => some false
  | "str" => some false
  | "list" => some false
  | "tuple" => some false
  | _ => none
def isBool : String → Option Bool
  | "int" => some false
  | "bool" => some true
  | "NoneType" => some false
  | "str" => some false
  | "list" => some false
  | "tuple" => some false
  | _ => none
def isTuple : String → Option Bool
  | "int" => some false
  | "bool" => some false
  | "NoneType" => some false
  | "str" => some false
  | "list" => some false
  | "tuple" => some true
  | _ => none
def isStr : String → Option Bool
  | "int" => some false
  | "bool" => some false
  | "NoneType" => some false
  | "str" => some true
  | "list" => some false
  | "tuple" => some false
  | _ => none
theorem ki_int {K : PySem.W.Frag} : ∀ a k, isInt a = some k → PySem.W.kitOne K (.type a) (.type "int") = some k := by
  intro a k h
  unfold isInt at h
  split at h <;> first | (cases h; exact kit_ty (by decide +kernel)) | cases h
theorem ki_bool {K : PySem.W.Frag} : ∀ a k, isBool a = some k → PySem.W.kitOne K (.type a) (.type "bool") = some k := by
  intro a k h
  unfold isBool at h
  split at h <;> first | (cases h; exact kit_ty (by decide +kernel)) | cases h
theorem ki_tuple {K : PySem.W.Frag} : ∀ a k, isTuple a = some k → PySem.W.kitOne K (.type a) (.type "tuple") = some k := by
  intro a k h
  unfold isTuple at h
  split at h <;> first | (cases h; exact kit_ty (by decide +kernel)) | cases h
theorem ki_str {K : PySem.W.Frag} : ∀ a k, isStr a = some k → PySem.W.kitOne K (.type a) (.type "str") = some k := by
  intro a k h
  unfold isStr at h
  split at h <;> first | (cases h; exact kit_ty (by decide +kernel)) | cases h

/-! ### x in xs -/
def flatD : PyData → Bool
  | .none => true
  | .bool _ => true
  | .int _ => true
  | .str _ => true
  | _ => false
theorem flat_of {K : PySem.W.Frag} {F : Hp} {v : V} {d : PyData} (h : Da K F v d) (hf : flatD d = true) : flatV v = true := by
  cases h <;> first | rfl | cases hf
theorem flats_of {K : PySem.W.Frag} {F : Hp} : ∀ {vs : List V} {ds : List PyData}, DaAll K F vs ds → ds.all flatD = true → vs.all flatV = true
  | _, _, .nil, _ => rfl
  | _, _, .cons h t, hf => by
    rw [List.all_cons, Bool.and_eq_true] at hf ⊢
    exact ⟨flat_of h hf.1, flats_of t hf.2⟩
theorem eqv_of {K : PySem.W.Frag} {F : Hp} {v u : V} {d e : PyData} (h : Da K F v d) (h' : Da K F u e) (hf : flatD d = true) (hf' : flatD e = true) : eqV v u = PyData.eqv d e := by
  cases h <;> first | exact Bool.noConfusion hf | (cases h' <;> first | exact Bool.noConfusion hf' | rfl)
def inD (a : PyData) (ds : List PyData) : Bool := ds.any fun y => PyData.eqv y a
theorem in_of {K : PySem.W.Frag} {F : Hp} {u : V} {e : PyData} (h' : Da K F u e) (hf' : flatD e = true) : ∀ {vs : List V} {ds : List PyData}, DaAll K F vs ds → ds.all flatD = true → inV u vs = inD e ds
  | _, _, .nil, _ => rfl
  | _, _, .cons h t, hf => by
    rw [List.all_cons, Bool.and_eq_true_iff] at hf
    have ih := in_of h' hf' t hf.2
    unfold inV inD at ih ⊢
    rw [List.any_cons, List.any_cons, ih, eqv_of h h' hf.1 hf']
def fIn (neg : Bool) (fa : FE) (fq : FQ) : FE := fun η w => (fa η w).bind fun x => (fq η x.2).bind fun y => if (flatD x.1 && y.1.2.all flatD) = true then some (.bool (if neg then !inD x.1 y.1.2 else inD x.1 y.1.2), y.2) else none
theorem in_ev {K : PySem.W.Frag} {neg : Bool} (ha : EvE K ta fa) (hb : EvQ K tb fq) : EvE K (tOp (rIn K neg) ta tb) (fIn neg fa fq) := by
  intro wo H0 F η w σ H R d w' e Q q
  obtain ⟨⟨d1, w1⟩, e1, e⟩ := bind_some e
  obtain ⟨⟨⟨l, ds⟩, w2⟩, e2, e⟩ := bind_some e
  refine ha _ _ _ _ _ _ _ R _ _ e1 _ fun F1 H1 x g1 k1 R1 dx => ?_
  refine hb _ _ _ _ _ _ _ R1 _ _ _ e2 _ fun F2 H2 p vs g2 k2 R2 hp dv => ?_
  have e' : (if (flatD d1 && ds.all flatD) = true then some (PyData.bool (if neg then !inD d1 ds else inD d1 ds), w2) else none) = some (d, w') := e
  cases hf : (flatD d1 && ds.all flatD) with
  | false => rw [hf] at e'; cases e'
  | true =>
    rw [hf] at e'
    cases e'
    obtain ⟨f1, f2⟩ := Bool.and_eq_true_iff.mp hf
    have dx' := da_mono g2.le _ _ dx
    refine ⟨p, vs, rfl, sq_of hp, flat_of dx' f1, flats_of dv f2, ?_⟩
    rw [in_of dx' f1 dv f2]
    exact q F2 H2 _ (g1.trans g2 k1 R1.wel) (k1.trans k2) R2 (.bl _)
theorem de_in (ha : DE X a ta fa) (hb : DQ X b tb fq) (hm : behindInMarks .In b = false) : DE X (.Compare a [.In] [b] pos) (tOp (rIn X.K false) ta tb) (fIn false fa fq) := ⟨pe_cmpR op_in_seq ha.p hb.p hm, in_ev ha.q hb.q⟩
theorem de_notIn (ha : DE X a ta fa) (hb : DQ X b tb fq) (hm : behindInMarks .NotIn b = false) : DE X (.Compare a [.NotIn] [b] pos) (tOp (rIn X.K true) ta tb) (fIn true fa fq) := ⟨pe_cmpR op_notIn_seq ha.p hb.p hm, in_ev ha.q hb.q⟩
theorem dt_in (ha : DE X a ta fa) (hb : DQ X b tb fq) (hm : behindInMarks .In b = false) : DT X (.Compare a [.In] [b] pos) (tTest (tOp (rIn X.K false) ta tb)) (fB (fIn false fa fq)) := ⟨pt_cmpR op_in_seq ha.p hb.p hm, test_of (in_ev ha.q hb.q)⟩
theorem dt_notIn (ha : DE X a ta fa) (hb : DQ X b tb fq) (hm : behindInMarks .NotIn b = false) : DT X (.Compare a [.NotIn] [b] pos) (tTest (tOp (rIn X.K true) ta tb)) (fB (fIn true fa fq)) := ⟨pt_cmpR op_notIn_seq ha.p hb.p hm, test_of (in_ev ha.q hb.q)⟩

/-! ### == of lists and tuples that are looked at -/
def seqD : Bool × List PyData → PyData
  | (true, ds) => .list ds
  | (false, ds) => .tuple ds
def fCmpQ (g : PyData → PyData → Option PyData) (fq : FQ) (fb : FE) : FE := fun η w => (fq η w).bind fun x => (fb η x.2).bind fun y => (g (seqD x.1) y.1).bind fun z => some (z, y.2)
theorem dpq {K : PySem.W.Frag} {H F : Hp} (s : Same F H) {l : Bool} {p : Addr} {vs : List V} {ds : List PyData} {wo : Option Addr} (h : if l = true then H p = some (.lst vs) ∧ wo ≠ some p else SqT K H p vs) (hd : DaAll K F vs ds) : Dp K H (.ref p) (seqD (l, ds)) := by
  cases l with
  | true => exact .lst (SqL.of h.1) (daAll_dp _ _ (daAll_mono s _ _ hd))
  | false => exact .tup h (daAll_dp _ _ (daAll_mono s _ _ hd))
theorem kpq {K : PySem.W.Frag} {H H2 F F2 : Hp} {wo : Option Addr} (k : Kp wo H H2) {l : Bool} {p : Addr} {vs : List V} (hw : ∀ a, wo = some a → ∃ us, H a = some (.lst us)) (h : if l = true then H p = some (.lst vs) ∧ wo ≠ some p else SqT K H p vs) : if l = true then H2 p = some (.lst vs) ∧ wo ≠ some p else SqT K H2 p vs := by
  cases l with
  | true => exact ⟨k p _ h.2 h.1, h.2⟩
  | false =>
    have tr : ∀ {o : HO}, (∀ us, o ≠ .lst us) → H p = some o → H2 p = some o := fun {o} n e => k p o (fun z => by
      obtain ⟨us, q⟩ := hw p z
      rw [e] at q
      cases q
      exact n us rfl) e
    rcases (show SqT K H p vs from h) with (z | ⟨o, z⟩) | z
    · exact .inl (.inl (tr (fun us e => nomatch e) z))
    · exact .inl (.inr ⟨o, tr (fun us e => nomatch e) z⟩)
    · exact .inr z
theorem cmpq_ev {K : PySem.W.Frag} {r : R2} {g} (hr : ∀ x y H d e z, Dp K H x d → Dp K H y e → g d e = some z → ∃ v, (∀ F, Da K F v z) ∧ ∀ Q : VK, Q v H → r x y H Q) (ha : EvQ K ta fq) (hb : EvE K tb fb) : EvE K (tOp r ta tb) (fCmpQ g fq fb) := by
  intro wo H0 F η w σ H R d w' e Q q
  obtain ⟨⟨⟨l, ds⟩, w1⟩, e1, e⟩ := bind_some e
  obtain ⟨⟨d2, w2⟩, e2, e⟩ := bind_some e
  obtain ⟨z, e3, e⟩ := bind_some e
  cases e
  refine ha _ _ _ _ _ _ _ R _ _ _ e1 _ fun F1 H1 p vs g1 k1 R1 hp dv => ?_
  refine hb _ _ _ _ _ _ _ R1 _ _ e2 _ fun F2 H2 y g2 k2 R2 dy => ?_
  have hp2 := kpq (F := F1) (F2 := F2) k2 (fun a z => ⟨_, (R1.wel a z).2⟩) hp
  obtain ⟨v, h1, h2⟩ := hr (.ref p) y H2 _ _ _ (dpq R2.sub hp2 (daAll_mono g2.le _ _ dv)) (da_dp _ _ (da_mono R2.sub _ _ dy)) e3
  exact h2 Q (q F2 H2 v (g1.trans g2 k1 R1.wel) (k1.trans k2) R2 (h1 F2))
theorem hr_eq {K : PySem.W.Frag} : ∀ x y H d e z, Dp K H x d → Dp K H y e → gEq d e = some z → ∃ v, (∀ F, Da K F v z) ∧ ∀ Q : VK, Q v H → rEqD K x y H Q := by
  intro x y H d e z h1 h2 hz
  unfold gEq at hz
  split at hz
  · rename_i h
    obtain ⟨s1, s2⟩ := Bool.and_eq_true_iff.mp h
    cases hz
    exact ⟨_, fun F => .bl _, fun Q q => ⟨d, e, h1, h2, s1, s2, q⟩⟩
  · cases hz
theorem hr_ne {K : PySem.W.Frag} : ∀ x y H d e z, Dp K H x d → Dp K H y e → gNe d e = some z → ∃ v, (∀ F, Da K F v z) ∧ ∀ Q : VK, Q v H → rNeD K x y H Q := by
  intro x y H d e z h1 h2 hz
  unfold gNe at hz
  split at hz
  · rename_i h
    obtain ⟨s1, s2⟩ := Bool.and_eq_true_iff.mp h
    cases hz
    exact ⟨_, fun F => .bl _, fun Q q => ⟨d, e, h1, h2, s1, s2, q⟩⟩
  · cases hz
theorem dt_eqQ (hu : X.A.units + 64 < cLine) (ha : DQ X a ta fq) (hb : DE X b tb fb) (hm : behindInMarks .Eq b = false) : DT X (.Compare a [.Eq] [b] pos) (tTest (tOp (rEqD X.K) ta tb)) (fB (fCmpQ gEq fq fb)) := ⟨pt_cmpR (op_eqD hu) ha.p hb.p hm, test_of (cmpq_ev hr_eq ha.q hb.q)⟩
theorem dt_neQ (hu : X.A.units + 64 < cLine) (ha : DQ X a ta fq) (hb : DE X b tb fb) (hm : behindInMarks .NotEq b = false) : DT X (.Compare a [.NotEq] [b] pos) (tTest (tOp (rNeD X.K) ta tb)) (fB (fCmpQ gNe fq fb)) := ⟨pt_cmpR (op_neD hu) ha.p hb.p hm, test_of (cmpq_ev hr_ne ha.q hb.q)⟩

/-! ### slices -/
abbrev FO := Vw → Wl → Option (Option Int × Wl)
structure DO (X : Cx) (o : Option Expr) (t : TO) (f : FO) : Prop where
  p : PO X o t
  q : ∀ wo H0 F η w σ H, Rel X.K wo H0 F η w σ H → ∀ o w', f η w = some (o, w') → ∀ Q : Option Int → Hp → Prop, (∀ F' H', Gr H F F' → Kp wo H H' → Rel X.K wo H0 F' η w' σ H' → Q o H') → t σ H Q
def fNoPart : FO := fun _ w => some (none, w)
def fPart (fe : FE) : FO := fun η w => (fe η w).bind fun x => (intOf x.1).bind fun i => some (some i, x.2)
theorem do_none : DO X none tNoPart fNoPart := ⟨po_none, fun wo H0 F η w σ H R o w' e Q q => by
  cases e
  exact q F H (Gr.refl _ _) (Kp.refl _ _) R⟩
theorem do_some (h : DE X e te fe) : DO X (some e) (tPart te) (fPart fe) := ⟨po_some h.p, fun wo H0 F η w σ H R o w' e Q q => by
  obtain ⟨⟨d, w1⟩, e1, e⟩ := bind_some e
  obtain ⟨i, e2, e⟩ := bind_some e
  cases e
  cases intOf_some e2
  refine h.q _ _ _ _ _ _ _ R _ _ e1 _ fun F1 H1 v g1 k1 R1 d1 => ?_
  cases d1
  exact ⟨i, rfl, q F1 H1 g1 k1 R1⟩⟩
variable {lo hi : Option Expr} {tl th : TO} {fl fh : FO} {p2 : Pos}
/-- the part of a list of things from lo on below hi -/
def cutD (xs : List PyData) (lo hi : Option Int) : List PyData := (xs.drop (HT.sIx xs.length 0 lo)).take (HT.sIx xs.length xs.length hi - HT.sIx xs.length 0 lo)
theorem all_drop {K : PySem.W.Frag} {F : Hp} : ∀ (n : Nat) {vs : List V} {ds : List PyData}, DaAll K F vs ds → DaAll K F (vs.drop n) (ds.drop n)
  | 0, _, _, h => h
  | n + 1, _, _, .nil => .nil
  | n + 1, _, _, .cons _ h => all_drop n h
theorem all_take {K : PySem.W.Frag} {F : Hp} : ∀ (n : Nat) {vs : List V} {ds : List PyData}, DaAll K F vs ds → DaAll K F (vs.take n) (ds.take n)
  | 0, _, _, _ => .nil
  | n + 1, _, _, .nil => .nil
  | n + 1, _, _, .cons a h => .cons a (all_take n h)
theorem all_cut {K : PySem.W.Frag} {F : Hp} {vs : List V} {ds : List PyData} {lo hi : Option Int} (h : DaAll K F vs ds) : DaAll K F (cutV vs lo hi) (cutD ds lo hi) := by
  unfold cutV cutD
  rw [all_len h]
  exact all_take _ (all_drop _ h)
def fSlL (fq : FQ) (fl fh : FO) : FA := fun η w => (fq η w).bind fun x => (fl η x.2).bind fun y => (fh η y.2).bind fun z => if x.1.1 = true then some (cutD x.1.2 y.1 z.1, z.2) else none
theorem dn_slice (h : DQ X e te fq) (hl : DO X lo tl fl) (hh : DO X hi th fh) : DN X (.Subscript e (.Slice lo hi none p2) pos) (tSl (rSlL X.K) te tl th) (fSlL fq fl fh) := ⟨pe_slice sl_list h.p hl.p hh.p, fun wo H0 F η w σ H R ds' w' e Q q => by
  obtain ⟨⟨⟨l, ds⟩, w1⟩, e1, e⟩ := bind_some e
  obtain ⟨⟨o1, w2⟩, e2, e⟩ := bind_some e
  obtain ⟨⟨o2, w3⟩, e3, e⟩ := bind_some e
  cases l with
  | false => cases e
  | true =>
    cases e
    refine h.q _ _ _ _ _ _ _ R _ _ _ e1 _ fun F1 H1 p vs g1 k1 R1 hp dv => ?_
    refine hl.q _ _ _ _ _ _ _ R1 _ _ e2 _ fun F2 H2 g2 k2 R2 => ?_
    refine hh.q _ _ _ _ _ _ _ R2 _ _ e3 _ fun F3 H3 g3 k3 R3 => ?_
    refine ⟨p, vs, rfl, SqL.of (k3 p _ hp.2 (k2 p _ hp.2 hp.1)), fun l hl => ?_⟩
    have kk := k1.trans (k2.trans k3)
    exact q F3 _ l _ (g1.trans (g2.trans g3 k2 R2.wel) k1 R1.wel) (kk.trans (kp_new hl)) (R3.mute hl _) (back_free kk R3 hl) (R3.sub.free hl) (R3.wne hl) upd_same (all_cut (daAll_mono g3.le _ _ (daAll_mono g2.le _ _ dv)))⟩
def fSlT (fe : FE) (fl fh : FO) : FE := fun η w => (fe η w).bind fun x => (tupOf x.1).bind fun ds => (fl η x.2).bind fun y => (fh η y.2).bind fun z => some (.tuple (cutD ds y.1 z.1), z.2)
theorem cut_whole {ds : List PyData} {lo hi : Option Int} (h : HT.sIx ds.length 0 lo = 0 ∧ HT.sIx ds.length ds.length hi = ds.length) : cutD ds lo hi = ds := by
  unfold cutD
  rw [h.1, h.2]
  simp
theorem de_slice (h : DE X e te fe) (hl : DO X lo tl fl) (hh : DO X hi th fh) : DE X (.Subscript e (.Slice lo hi none p2) pos) (tSl (rSlA X.K) te tl th) (fSlT fe fl fh) := ⟨pe_slice sl_tupA h.p hl.p hh.p, fun wo H0 F η w σ H R ds' w' e Q q => by
  obtain ⟨⟨d, w1⟩, e1, e⟩ := bind_some e
  obtain ⟨ds, ed, e⟩ := bind_some e
  obtain ⟨⟨o1, w2⟩, e2, e⟩ := bind_some e
  obtain ⟨⟨o2, w3⟩, e3, e⟩ := bind_some e
  cases e
  refine h.q _ _ _ _ _ _ _ R _ _ e1 _ fun F1 H1 v g1 k1 R1 d1 => ?_
  refine hl.q _ _ _ _ _ _ _ R1 _ _ e2 _ fun F2 H2 g2 k2 R2 => ?_
  refine hh.q _ _ _ _ _ _ _ R2 _ _ e3 _ fun F3 H3 g3 k3 R3 => ?_
  cases d1 with
  | tup h1 h2 =>
    cases ed
    rename_i a xs
    have gg := g1.trans (g2.trans g3 k2 R2.wel) k1 R1.wel
    have kk := k1.trans (k2.trans k3)
    have le : Same F1 F3 := g2.le.trans g3.le
    refine ⟨_, _, rfl, same_t R3.sub (same_t le h1), fun hw => ?_, fun _ l hl => ?_⟩
    · rw [cut_whole (by rw [← all_len h2]; exact hw)] at q
      exact q F3 H3 _ gg kk R3 (.tup (same_t le h1) (daAll_mono le _ _ h2))
    · exact q _ _ _ (gg.trans (gr_new R3.sub hl) kk R3.wel) (kk.trans (kp_new hl)) (R3.new hl _) (.tup (SqT.of upd_same) (all_cut (daAll_mono (gr_new R3.sub hl).le _ _ (daAll_mono le _ _ h2))))
  | _ => cases ed⟩
end
end DL
namespace DL
open L2 PySem PySem.Spec PyProof.Rows

/-! ### repr of data -/
mutual
theorem da_noDict {K : PySem.W.Frag} {F : Hp} : ∀ (d : PyData) (v : V), Da K F v d → d.hasDict = false
  | .none, _, _ => rfl
  | .bool _, _, _ => rfl
  | .int _, _, _ => rfl
  | .str _, _, _ => rfl
  | .list ds, _, h => by
    cases h with
    | lst _ ha => exact daAll_noDict ds _ ha
  | .tuple ds, _, h => by
    cases h with
    | tup _ ha => exact daAll_noDict ds _ ha
  | .dict _, _, h => by cases h
theorem daAll_noDict {K : PySem.W.Frag} {F : Hp} : ∀ (ds : List PyData) (vs : List V), DaAll K F vs ds → PyData.hasDictAll ds = false
  | [], _, _ => rfl
  | d :: ds, _, h => by
    cases h with
    | cons h1 h2 =>
      show (d.hasDict || PyData.hasDictAll ds) = false
      rw [da_noDict d _ h1, daAll_noDict ds _ h2]
      rfl
end
def okShow (d : PyData) : Bool := d.showable && (decide (d.depth ≤ 50) && decide (d.shown.length ≤ sizeLine))
def rRepr (K : PySem.W.Frag) : List V → Hp → VK → Prop := fun xs H Q => ∃ v d F, xs = [v] ∧ Same F H ∧ Da K F v d ∧ okShow d = true ∧ Q (.str d.shown) H
section
variable {X : Cx} {k : Nat}
theorem call_repr (hr : Room k X.A) (gd : X.A.guards = some []) : CallR X (.builtin "repr") (rRepr X.K) := by
  rintro pins s σ H _ us Q I r ⟨v, d, F, rfl, hs, hd, ok, q⟩
  obtain ⟨u, rfl, ru⟩ := (vals1 r : _)
  obtain ⟨o1, o2⟩ := Bool.and_eq_true_iff.mp ok
  obtain ⟨o3, o4⟩ := Bool.and_eq_true_iff.mp o2
  have hdep : d.depth ≤ 50 := of_decide_eq_true o3
  have hlen : d.shown.length ≤ sizeLine := of_decide_eq_true o4
  have hd' := da_mono hs _ _ hd
  obtain ⟨as, rd⟩ := Dp.reads I d v u (da_dp _ _ hd') ru
  have hu : X.A.units + 200 < cLine := by have := hr.un; omega
  have isref : ∀ {a : Addr}, u = .ref a → wpAny (model X.prog X.w) X.A (call (.builtin "repr") [.ref a]) (EP X pins σ Q) X.xe s := fun {a} e => by
    subst e
    refine repr_of_reads' rd o1 (fun z => ?_) gd (by omega) (fun _ _ z => z) (fun h' u' tk hk => ?_) hlen
    · rw [da_noDict _ _ hd] at z; cases z
    · exact ⟨.str d.shown, H, I.kept (t' := tk) hk, ⟨_, rfl⟩, q⟩
  cases hd with
  | non =>
    cases ru
    exact PySem.P.repr_of_none ⟨.str _, H, I.tok _, ⟨_, rfl⟩, q⟩
  | bl b =>
    cases ru
    exact PySem.P.repr_of_bool ⟨.str _, H, I.tok _, ⟨_, rfl⟩, q⟩
  | int i =>
    obtain ⟨t, rfl⟩ := ru
    exact PySem.P.repr_of_int (of_decide_eq_true o1) ⟨.str _, H, I.tok _, ⟨_, rfl⟩, q⟩
  | str x =>
    obtain ⟨t, rfl⟩ := ru
    exact PySem.P.repr_of_str (hsz := hlen) ⟨.str _, H, I.tok _, ⟨_, rfl⟩, q⟩
  | lst _ _ =>
    cases ru
    exact isref rfl
  | tup _ _ =>
    cases ru
    exact isref rfl
end
def fRepr (fe : FE) : FE := fun η w => (fe η w).bind fun y => if okShow y.1 = true then some (.str y.1.shown, y.2) else none
section
variable {X : Cx} {a b c e : Expr} {es : List Expr} {fe fa fb fi : FE} {fs : FA} {fq fq' : FQ} {pos p : Pos} {te ta tb tc ti : TE} {ts : TA} {x : Str} {k : Nat}
theorem de_repr (hr : Room k X.A) (gd : X.A.guards = some []) (h : DE X e te fe) (hg : Gl X x) (hm : X.mg x = none) (hv : bootBuiltins x = some (.builtin "repr")) (hn : x ≠ "__name__" := by decide) (hdb : (x == ("__debug__" : Str)) = false := by decide)
    (he : starEach [e] X.env = (false, eval e X.env) :: starEach [] X.env := by rfl) (hpl : (backTo pos (starEach [] X.env)).any (·.1) = false := by rfl) : DE X (.Call (.Name x p) [e] [] pos) (tCB (rRepr X.K) (tCons te tNil)) (fRepr fe) :=
  ⟨pe_callB (call_repr hr gd) hg hm hv (pa_cons h.p pa_nil he) hn hdb he hpl, fun wo H0 F η w σ H R d w' e Q q => by
    obtain ⟨⟨d1, w1⟩, e1, e⟩ := bind_some e
    refine h.q _ _ _ _ _ _ _ R _ _ e1 _ fun F1 H1 v g1 k1 R1 dd => ?_
    have e' : (if okShow d1 = true then some (PyData.str d1.shown, w1) else none) = some (d, w') := e
    cases ok : okShow d1 with
    | false => rw [ok] at e'; cases e'
    | true =>
      rw [ok] at e'
      cases e'
      exact ⟨v, d1, F1, rfl, R1.sub, dd, ok, q F1 H1 _ g1 k1 R1 (.str _)⟩⟩

/-! ### a list of one's own changed -/
/-- x.append(e) -/
def fApp (i : Nat) (fe : FE) : FS := fun η w => match slAt η i with
  | .own ds => (fe η w).bind fun x => if ds.length < sizeLine then some (.nx (η.set i (.own (ds ++ [x.1]))), x.2) else none
  | _ => none
theorem own_of {i : Nat} {η : Vw} {α : Type} {f : List PyData → Option α} {z : α} (h : (match slAt η i with | .own ds => f ds | _ => none) = some z) : ∃ ds, η[i]? = some (.own ds) ∧ f ds = some z := by
  cases e : slAt η i with
  | own ds => rw [e] at h; exact ⟨ds, slAt_some e (fun z => nomatch z), h⟩
  | no => rw [e] at h; cases h
  | dat _ => rw [e] at h; cases h
  | scr _ => rw [e] at h; cases h
  | well => rw [e] at h; cases h
theorem ds_app {i : Nat} {y : Str} {py apos cpos : Pos} (hy : PE X (.Name y py) (tVar i)) (h : DE X e te fe)
    (hbase : attributeBase (.Name y py) "append" X.env (eval (.Name y py) X.env) = eval (.Name y py) X.env := by rfl)
    (hfew : ((backTo cpos (starEach [e] X.env)).all (fun x => !x.1) && (backToKw cpos (keywordEach [] X.env)).all (fun x => x.1.isSome) && decide ([e].length + ([] : List Keyword).length + (if ([] : List Keyword).isEmpty then 0 else 1) < 30)) = true := by rfl)
    (hline : (apos.endLine == cpos.line) = true := by rfl) (hst : starEach [e] X.env = (false, eval e X.env) :: starEach [] X.env := by rfl) (hplain : (backTo cpos (starEach [] X.env)).any (·.1) = false := by rfl)
    (hs : swapsWith (.Call (.Attribute (.Name y py) "append" apos) [e] [] cpos) none pos.line X.env = pure false := by rfl) :
    DS X (.Expr (.Call (.Attribute (.Name y py) "append" apos) [e] [] cpos) pos) (tDrop (tBM X.K "list" rAppend (tVar i) (tCons te tNil))) (fApp i fe) := ⟨ps_expr (pe_bm PySem.F.plainAttrs_list PySem.F.slot_list_append PySem.F.type_list_append mt_append hy (pa_cons h.p pa_nil hst) hbase hfew hline hst hplain) hs, fun wo H0 F η w σ H R c w' e0 D kk => by
  obtain ⟨ds, ei, e0⟩ := own_of e0
  obtain ⟨⟨d, w1⟩, e1, e0⟩ := bind_some e0
  obtain ⟨q, vs, g1, _, _, _, g5, _⟩ := R.slt i _ ei
  refine ⟨_, g1, .inl ⟨rfl, _, SqL.of g5⟩, ?_⟩
  refine h.q _ _ _ _ _ _ _ R _ _ e1 _ fun F1 H1 v g k1 R1 dv => ?_
  obtain ⟨q', vs', z1, _, _, _, z5, z6⟩ := R1.slt i _ ei
  rw [g1] at z1
  cases z1
  have e' : (if ds.length < sizeLine then some (Ctl.nx (η.set i (.own (ds ++ [d]))), w1) else none) = some (c, w') := e0
  by_cases hz : ds.length < sizeLine
  · rw [if_pos hz] at e'
    cases e'
    have W := R1.write ei g1 z5 (all_app z6 (.cons dv .nil))
    rw [show σ = σ from rfl] at W
    exact ⟨q, vs', v, rfl, rfl, z5, by rw [all_len z6]; exact hz, kk F1 σ _ (R.gr0 g) W⟩
  · rw [if_neg hz] at e'
    cases e'⟩
/-- x[j] = e -/
def fPut (i : Nat) (fi : FE) (fe : FE) : FS := fun η w => match slAt η i with
  | .own ds => (fe η w).bind fun x => (fi η x.2).bind fun y => (intOf y.1).bind fun k => (ixN ds.length k).bind fun j => some (.nx (η.set i (.own (ds.set j x.1))), y.2)
  | _ => none
theorem all_set {K : PySem.W.Frag} {F : Hp} {v : V} {d : PyData} (h : Da K F v d) : ∀ (n : Nat) {vs : List V} {ds : List PyData}, DaAll K F vs ds → DaAll K F (vs.set n v) (ds.set n d)
  | _, _, _, .nil => .nil
  | 0, _, _, .cons _ t => .cons h t
  | n + 1, _, _, .cons a t => .cons a (all_set h n t)
theorem ds_put {i : Nat} {y : Str} {py spos : Pos} (hy : PE X (.Name y py) (tVar i)) (hi : DE X a ti fi) (h : DE X e te fe) (hs : swapsWithSole [.Subscript (.Name y py) a spos] e pos.line X.env = pure false := by rfl)
    (hw : swappedStores [.Subscript (.Name y py) a spos] e X.env = pure none := by rfl)
    (hz : ∀ v, assign (.Subscript (.Name y py) a spos) X.env v = (do
      let o ← holding [v] (eval (.Name y py) X.env)
      let j ← holding [v, o] (eval a X.env)
      standAt spos
      holding [v, o, j] (setItem o j v)
      release [v, o, j] []) := by intro _; rfl) (h1 : (assignEach [.Subscript (.Name y py) a spos] X.env).map (·.2) = [assign (.Subscript (.Name y py) a spos) X.env] := by rfl) :
    DS X (.Assign [.Subscript (.Name y py) a spos] e pos) (tAsg te (gSub (tVar i) ti rSetL)) (fPut i fi fe) := ⟨ps_asg h.p (pg_sub hy hi.p set_list hz) hs hw h1, fun wo H0 F η w σ H R c w' e0 D kk => by
  obtain ⟨ds, ei, e0⟩ := own_of e0
  obtain ⟨⟨d, w1⟩, e1, e0⟩ := bind_some e0
  obtain ⟨⟨dk, w2⟩, e2, e0⟩ := bind_some e0
  obtain ⟨k, e3, e0⟩ := bind_some e0
  obtain ⟨j, e4, e9⟩ := bind_some e0
  cases e9
  cases intOf_some e3
  refine h.q _ _ _ _ _ _ _ R _ _ e1 _ fun F1 H1 v g k1 R1 dv => ?_
  obtain ⟨q', vs', z1, _, _, _, z5, z6⟩ := R1.slt i _ ei
  refine ⟨_, z1, ?_⟩
  refine hi.q _ _ _ _ _ _ _ R1 _ _ e2 _ fun F2 H2 u g2 k2 R2 du => ?_
  cases du
  obtain ⟨q2, vs2, y1, _, _, _, y5, y6⟩ := R2.slt i _ ei
  rw [z1] at y1
  cases y1
  have W := R2.write ei z1 y5 (all_set (da_mono g2.le _ _ dv) j y6)
  exact ⟨_, vs2, k, j, rfl, rfl, y5, by rw [all_len y6]; exact e4, kk F2 σ _ (gr0_trans (R.gr0 g) (R1.gr0 g2)) W⟩⟩
/-- z = x.pop(j) -/
def fPop (i n : Nat) (fi : FE) : FS := fun η w => match slAt η i with
  | .own ds => (fi η w).bind fun y => (intOf y.1).bind fun k => (seqIndex? k ds.length).bind fun j => (ds[j]?).bind fun d => if decide (-(2 ^ 63) ≤ k ∧ k < 2 ^ 63) = true then some (.nx ((η.set i (.own (ds.eraseIdx j))).set n (.dat d)), y.2) else none
  | _ => none
theorem all_erase {K : PySem.W.Frag} {F : Hp} : ∀ (n : Nat) {vs : List V} {ds : List PyData}, DaAll K F vs ds → DaAll K F (vs.eraseIdx n) (ds.eraseIdx n)
  | _, _, _, .nil => .nil
  | 0, _, _, .cons _ t => t
  | n + 1, _, _, .cons a t => .cons a (all_erase n t)
theorem ds_pop {i n : Nat} {y z : Str} {py pz apos cpos : Pos} (hN : X.N.Nodup) (hn : X.N[n]? = some z) (hx : Loc X.env.scope z) (hy : PE X (.Name y py) (tVar i)) (hi : DE X a ti fi)
    (hs : swapsWith (.Call (.Attribute (.Name y py) "pop" apos) [a] [] cpos) (some (.Name z pz)) pos.line X.env = pure false := by rfl) (hf : X.fn z = true ∨ X.env.scope.names.lookup z = some .local := by first | exact .inl rfl | exact .inr rfl | assumption)
    (hbase : attributeBase (.Name y py) "pop" X.env (eval (.Name y py) X.env) = eval (.Name y py) X.env := by rfl)
    (hfew : ((backTo cpos (starEach [a] X.env)).all (fun x => !x.1) && (backToKw cpos (keywordEach [] X.env)).all (fun x => x.1.isSome) && decide ([a].length + ([] : List Keyword).length + (if ([] : List Keyword).isEmpty then 0 else 1) < 30)) = true := by rfl)
    (hline : (apos.endLine == cpos.line) = true := by rfl) (hst : starEach [a] X.env = (false, eval a X.env) :: starEach [] X.env := by rfl) (hplain : (backTo cpos (starEach [] X.env)).any (·.1) = false := by rfl) :
    DS X (.Assign [.Name z pz] (.Call (.Attribute (.Name y py) "pop" apos) [a] [] cpos) pos) (tAsg (tBM X.K "list" rPopAt (tVar i) (tCons ti tNil)) (gName n)) (fPop i n fi) := ⟨ps_set hN hn hx (pe_bm PySem.F.plainAttrs_list PySem.F.slot_list_pop PySem.F.type_list_pop mt_popAt hy (pa_cons hi.p pa_nil hst) hbase hfew hline hst hplain) hs hf, fun wo H0 F η w σ H R c w' e0 D kk => by
  obtain ⟨ds, ei, e0⟩ := own_of e0
  obtain ⟨⟨dk, w1⟩, e1, e0⟩ := bind_some e0
  obtain ⟨k, e3, e0⟩ := bind_some e0
  obtain ⟨j, e4, e0⟩ := bind_some e0
  obtain ⟨d, e5, e9⟩ := bind_some e0
  cases intOf_some e3
  obtain ⟨q, vs, g1, _, _, _, g5, _⟩ := R.slt i _ ei
  refine ⟨_, g1, .inl ⟨rfl, _, SqL.of g5⟩, ?_⟩
  refine hi.q _ _ _ _ _ _ _ R _ _ e1 _ fun F1 H1 v g k1 R1 dv => ?_
  cases dv
  obtain ⟨q', vs', z1, _, _, _, z5, z6⟩ := R1.slt i _ ei
  rw [g1] at z1
  cases z1
  cases ok : decide (-(2 ^ 63) ≤ k ∧ k < 2 ^ 63) with
  | false => rw [ok] at e9; cases e9
  | true =>
    rw [ok] at e9
    cases e9
    obtain ⟨o1, o2⟩ := of_decide_eq_true ok
    obtain ⟨u, hu, du⟩ := all_get z6 e5
    have W := R1.write ei g1 z5 (all_erase j z6)
    exact ⟨_, vs', k, j, u, rfl, rfl, z5, o1, o2, by rw [all_len z6]; exact e4, hu, kk F1 _ _ (R.gr0 g) (W.put n du)⟩⟩

/-! ### a, b = .. -/
def fAsg (fe : FE) (kt : PyData → Vw → Option Vw) : FS := fun η w => (fe η w).bind fun x => (kt x.1 η).bind fun η' => some (.nx η', x.2)
theorem ds_asg {tg : Expr} {g : TG} {vs : List Nat} {kt : PyData → Vw → Option Vw} (h : DE X e te fe) (hg : DG X tg g vs kt) (hs : swapsWithSole [tg] e pos.line X.env = pure false := by rfl) (hw : swappedStores [tg] e X.env = pure none := by rfl)
    (h1 : (assignEach [tg] X.env).map (·.2) = [assign tg X.env] := by rfl) : DS X (.Assign [tg] e pos) (tAsg te g) (fAsg fe kt) := ⟨ps_asg h.p hg.p hs hw h1, fun wo H0 F η w σ H R c w' e0 D kk => by
  obtain ⟨⟨d, w1⟩, e1, e0⟩ := bind_some e0
  obtain ⟨η', e2, e9⟩ := bind_some e0
  cases e9
  refine h.q _ _ _ _ _ _ _ R _ _ e1 _ fun F1 H1 v g1 k1 R1 dv => ?_
  exact hg.q _ _ _ _ _ _ _ R1 _ _ _ dv e2 _ fun σ' R2 _ => kk F1 σ' H1 (R.gr0 g1) R2⟩

/-! ### while -/
def fWh (fc : FT) (fb : FS) : Nat → Vw → Wl → Option (Ctl × Wl)
  | 0, _, _ => none
  | n + 1, η, w => (fc η w).bind fun b => if b.1 = true then (fb η b.2).bind fun x => match x.1 with
    | .nx η' => fWh fc fb n η' x.2
    | .ct η' => fWh fc fb n η' x.2
    | .bk η' => some (.nx η', x.2)
    | .rt r => some (.rt r, x.2)
    else some (.nx η, b.2)
theorem ds_while {body : List Stmt} {ut : TT} {ft : FT} {tb : TS} {fb : FS} (n : Nat) (hp : PassesOwn (model X.prog X.w) X.A X.env X.xe) (hc : DT X c ut ft) (hb : DSs X body tb fb) : DS X (.While c body [] pos) (tWhile ut tb) (fWh ft fb n) := ⟨ps_while hp hc.p hb.p, fun wo H0 F η w σ H R c w' e0 D kk => by
  refine ⟨fun m σ H => ∃ F' η' w2, Gr H0 F F' ∧ Rel X.K wo H0 F' η' w2 σ H ∧ fWh ft fb m η' w2 = some (c, w'), ⟨n, F, η, w, Gr.refl _ _, R, e0⟩, ?_⟩
  rintro m σ2 H2 ⟨F', η', w2, g', R', e⟩
  cases m with
  | zero => cases e
  | succ m =>
    obtain ⟨⟨b, w3⟩, e1, e⟩ := bind_some e
    refine hc.q _ _ _ _ _ _ _ R' _ _ e1 _ fun F1 H1 g1 k1 R1 => ?_
    have g01 := gr0_trans g' (R'.gr0 g1)
    cases b with
    | true =>
      refine iteT ?_
      have e2 : ((fb η' w3).bind fun x => match x.1 with | .nx η' => fWh ft fb m η' x.2 | .ct η' => fWh ft fb m η' x.2 | .bk η' => some (.nx η', x.2) | .rt r => some (.rt r, x.2)) = some (c, w') := e
      obtain ⟨⟨c1, w4⟩, e3, e2⟩ := bind_some e2
      refine ⟨fun σ' H' => ∃ F' η' w2, Gr H0 F F' ∧ Rel X.K wo H0 F' η' w2 σ' H' ∧ fWh ft fb m η' w2 = some (c, w'), fun σ' H' z => ⟨m, Nat.lt_succ_self m, z⟩, ?_⟩
      refine hb.q _ _ _ _ _ _ _ R1 _ _ e3 _ ?_
      cases c1 with
      | nx η2 => exact fun F5 σ5 H5 g5 R5 => ⟨F5, η2, w4, gr0_trans g01 g5, R5, e2⟩
      | ct η2 => exact fun F5 σ5 H5 g5 R5 => ⟨F5, η2, w4, gr0_trans g01 g5, R5, e2⟩
      | bk η2 =>
        cases e2
        exact fun F5 σ5 H5 g5 R5 => kk F5 σ5 H5 (gr0_trans g01 g5) R5
      | rt r =>
        cases e2
        exact fun F5 H5 v g5 => kk F5 H5 v (gr0_trans g01 g5)
    | false =>
      refine iteF ?_
      cases e
      exact kk F1 σ2 H1 g01 R1⟩

/-! ### sum, all, any of a list -/
def intsOf : List PyData → Option (List Int)
  | [] => some []
  | .int i :: r => (intsOf r).bind fun z => some (i :: z)
  | _ => none
def boolsOf : List PyData → Option (List Bool)
  | [] => some []
  | .bool i :: r => (boolsOf r).bind fun z => some (i :: z)
  | _ => none
theorem ints_of {K : PySem.W.Frag} {F : Hp} : ∀ {vs : List V} {ds : List PyData} {ns : List Int}, DaAll K F vs ds → intsOf ds = some ns → vs = ns.map V.int
  | _, _, _, .nil, e => by cases e; rfl
  | _, _, _, .cons h t, e => by
    cases h with
    | int i =>
      obtain ⟨z, e1, e2⟩ := bind_some e
      cases e2
      rw [ints_of t e1]
      rfl
    | _ => cases e
theorem bools_of {K : PySem.W.Frag} {F : Hp} : ∀ {vs : List V} {ds : List PyData} {ns : List Bool}, DaAll K F vs ds → boolsOf ds = some ns → vs = ns.map V.bl
  | _, _, _, .nil, e => by cases e; rfl
  | _, _, _, .cons h t, e => by
    cases h with
    | bl i =>
      obtain ⟨z, e1, e2⟩ := bind_some e
      cases e2
      rw [bools_of t e1]
      rfl
    | _ => cases e
def fSum (fq : FQ) : FE := fun η w => (fq η w).bind fun x => if x.1.1 = true then (intsOf x.1.2).bind fun ns => some (.int ns.sum, x.2) else none
def fAllB (fq : FQ) : FE := fun η w => (fq η w).bind fun x => if x.1.1 = true then (boolsOf x.1.2).bind fun bs => some (.bool (bs.all id), x.2) else none
def fAnyB (fq : FQ) : FE := fun η w => (fq η w).bind fun x => if x.1.1 = true then (boolsOf x.1.2).bind fun bs => some (.bool (bs.any id), x.2) else none
theorem de_sum (hc : X.calm = true) (h : DQ X e te fq) (hg : Gl X x) (hm : X.mg x = none) (hv : bootBuiltins x = some (.builtin "sum")) (hn : x ≠ "__name__" := by decide) (hdb : (x == ("__debug__" : Str)) = false := by decide)
    (he : starEach [e] X.env = (false, eval e X.env) :: starEach [] X.env := by rfl) (hpl : (backTo pos (starEach [] X.env)).any (·.1) = false := by rfl) : DE X (.Call (.Name x p) [e] [] pos) (tCB (rSum X.K) (tCons te tNil)) (fSum fq) :=
  ⟨pe_callB (cr_sum hc) hg hm hv (pa_cons h.p pa_nil he) hn hdb he hpl, fun wo H0 F η w σ H R d w' e Q q => by
    obtain ⟨⟨⟨l, ds⟩, w1⟩, e1, e⟩ := bind_some e
    cases l with
    | false => cases e
    | true =>
      obtain ⟨ns, e2, e9⟩ := bind_some (show ((intsOf ds).bind fun ns => some (PyData.int ns.sum, w1)) = some (d, w') from e)
      cases e9
      refine h.q _ _ _ _ _ _ _ R _ _ _ e1 _ fun F1 H1 p vs g1 k1 R1 hp d1 => ?_
      exact ⟨p, ns, rfl, by rw [← ints_of d1 e2]; exact SqL.of hp.1, q F1 H1 _ g1 k1 R1 (.int _)⟩⟩
theorem de_all (hc : X.calm = true) (h : DQ X e te fq) (hg : Gl X x) (hm : X.mg x = none) (hv : bootBuiltins x = some (.builtin "all")) (hn : x ≠ "__name__" := by decide) (hdb : (x == ("__debug__" : Str)) = false := by decide)
    (he : starEach [e] X.env = (false, eval e X.env) :: starEach [] X.env := by rfl) (hpl : (backTo pos (starEach [] X.env)).any (·.1) = false := by rfl) : DE X (.Call (.Name x p) [e] [] pos) (tCB (rAll X.K) (tCons te tNil)) (fAllB fq) :=
  ⟨pe_callB (cr_all hc) hg hm hv (pa_cons h.p pa_nil he) hn hdb he hpl, fun wo H0 F η w σ H R d w' e Q q => by
    obtain ⟨⟨⟨l, ds⟩, w1⟩, e1, e⟩ := bind_some e
    cases l with
    | false => cases e
    | true =>
      obtain ⟨ns, e2, e9⟩ := bind_some (show ((boolsOf ds).bind fun bs => some (PyData.bool (bs.all id), w1)) = some (d, w') from e)
      cases e9
      refine h.q _ _ _ _ _ _ _ R _ _ _ e1 _ fun F1 H1 p vs g1 k1 R1 hp d1 => ?_
      exact ⟨p, ns, rfl, by rw [← bools_of d1 e2]; exact SqL.of hp.1, q F1 H1 _ g1 k1 R1 (.bl _)⟩⟩
theorem de_any (hc : X.calm = true) (h : DQ X e te fq) (hg : Gl X x) (hm : X.mg x = none) (hv : bootBuiltins x = some (.builtin "any")) (hn : x ≠ "__name__" := by decide) (hdb : (x == ("__debug__" : Str)) = false := by decide)
    (he : starEach [e] X.env = (false, eval e X.env) :: starEach [] X.env := by rfl) (hpl : (backTo pos (starEach [] X.env)).any (·.1) = false := by rfl) : DE X (.Call (.Name x p) [e] [] pos) (tCB (rAny X.K) (tCons te tNil)) (fAnyB fq) :=
  ⟨pe_callB (cr_any hc) hg hm hv (pa_cons h.p pa_nil he) hn hdb he hpl, fun wo H0 F η w σ H R d w' e Q q => by
    obtain ⟨⟨⟨l, ds⟩, w1⟩, e1, e⟩ := bind_some e
    cases l with
    | false => cases e
    | true =>
      obtain ⟨ns, e2, e9⟩ := bind_some (show ((boolsOf ds).bind fun bs => some (PyData.bool (bs.any id), w1)) = some (d, w') from e)
      cases e9
      refine h.q _ _ _ _ _ _ _ R _ _ _ e1 _ fun F1 H1 p vs g1 k1 R1 hp d1 => ?_
      exact ⟨p, ns, rfl, by rw [← bools_of d1 e2]; exact SqL.of hp.1, q F1 H1 _ g1 k1 R1 (.bl _)⟩⟩

/-! ### + and * of lists and tuples -/
def fCatL (fq fq' : FQ) : FA := fun η w => (fq η w).bind fun x => (fq' η x.2).bind fun y => if (x.1.1 && y.1.1 && decide (x.1.2.length + y.1.2.length ≤ sizeLine)) = true then some (x.1.2 ++ y.1.2, y.2) else none
theorem dn_cat (ha : DQ X a ta fq) (hb : DQ X b tb fq') : DN X (.BinOp a .Add b pos) (tOp rCat ta tb) (fCatL fq fq') := ⟨pe_op op_cat ha.p hb.p, fun wo H0 F η w σ H R ds w' e Q q => by
  obtain ⟨⟨⟨l1, ds1⟩, w1⟩, e1, e⟩ := bind_some e
  obtain ⟨⟨⟨l2, ds2⟩, w2⟩, e2, e⟩ := bind_some e
  have e' : (if (l1 && l2 && decide (ds1.length + ds2.length ≤ sizeLine)) = true then some (ds1 ++ ds2, w2) else none) = some (ds, w') := e
  cases ok : (l1 && l2 && decide (ds1.length + ds2.length ≤ sizeLine)) with
  | false => rw [ok] at e'; cases e'
  | true =>
    rw [ok] at e'
    cases e'
    obtain ⟨o1, o2⟩ := Bool.and_eq_true_iff.mp ok
    obtain ⟨o3, o4⟩ := Bool.and_eq_true_iff.mp o1
    subst o3
    subst o4
    refine ha.q _ _ _ _ _ _ _ R _ _ _ e1 _ fun F1 H1 p vs g1 k1 R1 hp dv => ?_
    refine hb.q _ _ _ _ _ _ _ R1 _ _ _ e2 _ fun F2 H2 p' us g2 k2 R2 hp' du => ?_
    refine ⟨p, p', vs, us, rfl, rfl, k2 p _ hp.2 hp.1, hp'.1, by rw [all_len dv, all_len du]; exact of_decide_eq_true o2, fun l hl => ?_⟩
    exact q F2 _ l _ (g1.trans g2 k1 R1.wel) ((k1.trans k2).trans (kp_new hl)) (R2.mute hl _) (back_free (k1.trans k2) R2 hl) (R2.sub.free hl) (R2.wne hl) upd_same (all_app (daAll_mono g2.le _ _ dv) du)⟩
theorem all_rep {K : PySem.W.Frag} {F : Hp} {vs : List V} {ds : List PyData} (h : DaAll K F vs ds) : ∀ n : Nat, DaAll K F (List.replicate n vs).flatten (List.replicate n ds).flatten
  | 0 => .nil
  | n + 1 => by
    simp only [List.replicate_succ, List.flatten_cons]
    exact all_app h (all_rep h n)
def fRepL (fq : FQ) (fb : FE) : FA := fun η w => (fq η w).bind fun x => (fb η x.2).bind fun y => (intOf y.1).bind fun k => if (x.1.1 && decide (-(2 ^ 63) ≤ k ∧ k < 2 ^ 63 ∧ x.1.2.length * k.toNat ≤ sizeLine)) = true then some ((List.replicate k.toNat x.1.2).flatten, y.2) else none
theorem dn_rep (ha : DQ X a ta fq) (hb : DE X b tb fb) : DN X (.BinOp a .Mult b pos) (tOp rRep ta tb) (fRepL fq fb) := ⟨pe_op op_rep ha.p hb.p, fun wo H0 F η w σ H R ds w' e Q q => by
  obtain ⟨⟨⟨l1, ds1⟩, w1⟩, e1, e⟩ := bind_some e
  obtain ⟨⟨d2, w2⟩, e2, e⟩ := bind_some e
  obtain ⟨k, e3, e⟩ := bind_some e
  cases intOf_some e3
  have e' : (if (l1 && decide (-(2 ^ 63) ≤ k ∧ k < 2 ^ 63 ∧ ds1.length * k.toNat ≤ sizeLine)) = true then some ((List.replicate k.toNat ds1).flatten, w2) else none) = some (ds, w') := e
  cases ok : (l1 && decide (-(2 ^ 63) ≤ k ∧ k < 2 ^ 63 ∧ ds1.length * k.toNat ≤ sizeLine)) with
  | false => rw [ok] at e'; cases e'
  | true =>
    rw [ok] at e'
    cases e'
    obtain ⟨o1, o2⟩ := Bool.and_eq_true_iff.mp ok
    subst o1
    obtain ⟨o3, o4, o5⟩ := of_decide_eq_true o2
    refine ha.q _ _ _ _ _ _ _ R _ _ _ e1 _ fun F1 H1 p vs g1 k1 R1 hp dv => ?_
    refine hb.q _ _ _ _ _ _ _ R1 _ _ e2 _ fun F2 H2 y g2 k2 R2 dy => ?_
    cases dy
    refine ⟨p, k, vs, rfl, rfl, k2 p _ hp.2 hp.1, o3, o4, by rw [all_len dv]; exact o5, fun l hl => ?_⟩
    exact q F2 _ l _ (g1.trans g2 k1 R1.wel) ((k1.trans k2).trans (kp_new hl)) (R2.mute hl _) (back_free (k1.trans k2) R2 hl) (R2.sub.free hl) (R2.wne hl) upd_same (all_rep (daAll_mono g2.le _ _ dv) _)⟩
def gCatT : PyData → PyData → Option PyData
  | .tuple xs, .tuple ys => if xs.length + ys.length ≤ sizeLine then some (.tuple (xs ++ ys)) else none
  | _, _ => none
theorem rd_catT {K} : RD K (rCatA K) gCatT := fun wo H0 F η w σ H R x y a b z dx dy e Q q => by
  cases dx with
  | tup h1 h2 =>
    cases dy with
    | tup h3 h4 =>
      rename_i a xs ds a' ys es
      have e' : (if ds.length + es.length ≤ sizeLine then some (PyData.tuple (ds ++ es)) else none) = some z := e
      by_cases hl : ds.length + es.length ≤ sizeLine
      · rw [if_pos hl] at e'
        cases e'
        refine ⟨_, _, xs, ys, rfl, rfl, same_t R.sub h1, same_t R.sub h3, by rw [all_len h2, all_len h4]; exact hl, fun z => ?_, fun z1 z2 => ?_, fun _ _ p hp => ?_⟩
        · subst z
          cases h2
          exact q F H _ (Gr.refl _ _) (Kp.refl _ _) R (.tup h3 h4)
        · subst z2
          cases h4
          rw [List.append_nil] at q
          exact q F H _ (Gr.refl _ _) (Kp.refl _ _) R (.tup h1 h2)
        · exact q _ _ _ (gr_new R.sub hp) (kp_new hp) (R.new hp _) (.tup (SqT.of upd_same) (daAll_mono (gr_new R.sub hp).le _ _ (all_app h2 h4)))
      · rw [if_neg hl] at e'
        cases e'
    | _ => cases e
  | _ => cases e
def gRepT : PyData → PyData → Option PyData
  | .tuple xs, .int k => if (!xs.isEmpty && decide (2 ≤ k ∧ k ≤ 1000 ∧ xs.length ≤ 1000)) = true then some (.tuple (List.replicate k.toNat xs).flatten) else none
  | _, _ => none
theorem rd_repT {K} : RD K (rRepT K) gRepT := fun wo H0 F η w σ H R x y a b z dx dy e Q q => by
  cases dx with
  | tup h1 h2 =>
    cases dy with
    | int k =>
      rename_i a xs ds
      have e' : (if (!ds.isEmpty && decide (2 ≤ k ∧ k ≤ 1000 ∧ ds.length ≤ 1000)) = true then some (PyData.tuple (List.replicate k.toNat ds).flatten) else none) = some z := e
      cases ok : (!ds.isEmpty && decide (2 ≤ k ∧ k ≤ 1000 ∧ ds.length ≤ 1000)) with
      | false => rw [ok] at e'; cases e'
      | true =>
        rw [ok] at e'
        cases e'
        obtain ⟨o1, o2⟩ := Bool.and_eq_true_iff.mp ok
        obtain ⟨o3, o4, o5⟩ := of_decide_eq_true o2
        refine ⟨_, k, xs, rfl, rfl, same_t R.sub h1, fun z => ?_, o3, o4, by rw [all_len h2]; exact o5, fun p hp => ?_⟩
        · subst z
          cases h2
          cases o1
        · exact q _ _ _ (gr_new R.sub hp) (kp_new hp) (R.new hp _) (.tup (SqT.of upd_same) (daAll_mono (gr_new R.sub hp).le _ _ (all_rep h2 _)))
    | _ => cases e
  | _ => cases e
end
end DL
namespace DL
open L2 PySem PySem.Spec PyProof.Rows

/-! ### a, b = e1, e2 with lists of one's own among them -/
def SlV (K : PySem.W.Frag) (wo : Option Addr) (H F' H' : Hp) : Sl → V → Prop
  | .dat d, v => Da K F' v d
  | .own ds, v => ∃ p us, v = .ref p ∧ H p = none ∧ F' p = none ∧ wo ≠ some p ∧ H' p = some (.lst us) ∧ DaAll K F' us ds
  | _, _ => False
/-- the values of written things: data, or new lists, told apart -/
inductive SlVs (K : PySem.W.Frag) (wo : Option Addr) (H F' H' : Hp) : List Sl → List V → Prop
  | nil : SlVs K wo H F' H' [] []
  | cons {s : Sl} {v : V} {ss : List Sl} {vs : List V} : SlV K wo H F' H' s v → SlVs K wo H F' H' ss vs → (∀ p, v = .ref p → (∃ ds, s = .own ds) → ∀ es q, (Sl.own es, V.ref q) ∈ ss.zip vs → q ≠ p) → SlVs K wo H F' H' (s :: ss) (v :: vs)
abbrev FMx := Vw → Wl → Option (List Sl × Wl)
def EvM (K : PySem.W.Frag) (t : TA) (f : FMx) : Prop := ∀ wo H0 F η w σ H, Rel K wo H0 F η w σ H → ∀ ss w', f η w = some (ss, w') →
  ∀ Q : List V → Hp → Prop, (∀ F' H' vs, Gr H F F' → Kp wo H H' → Rel K wo H0 F' η w' σ H' → SlVs K wo H F' H' ss vs → Q vs H') → t σ H Q
structure DM (X : Cx) (es : List Expr) (t : TA) (f : FMx) : Prop where
  p : PA X es t
  q : EvM X.K t f
section
variable {K : PySem.W.Frag} {wo : Option Addr} {H H1 F1 F2 H2 : Hp}
theorem SlVs.len : ∀ {ss : List Sl} {vs : List V}, SlVs K wo H F1 H1 ss vs → vs.length = ss.length
  | _, _, .nil => rfl
  | _, _, .cons _ t _ => congrArg (· + 1) (SlVs.len t)
/-- later: what stands has grown, all but the well is kept -/
theorem SlVs.step (g : Gr H1 F1 F2) (k : Kp wo H1 H2) : ∀ {ss : List Sl} {vs : List V}, SlVs K wo H F1 H1 ss vs → SlVs K wo H F2 H2 ss vs
  | _, _, .nil => .nil
  | s :: _, _, .cons h t n => by
    refine .cons ?_ (SlVs.step g k t) n
    cases s with
    | dat d => exact da_mono g.le _ _ h
    | own ds =>
      obtain ⟨p, us, h1, h2, h3, h4, h5, h6⟩ := h
      exact ⟨p, us, h1, h2, g.nw p h3 (by rw [h5]; exact fun z => nomatch z), h4, k p _ h4 h5, daAll_mono g.le _ _ h6⟩
    | no => exact h
    | scr _ => exact h
    | well => exact h
/-- seen from an earlier heap -/
theorem SlVs.back {H0' : Hp} (b : ∀ p, wo ≠ some p → H p = none → H0' p = none) : ∀ {ss : List Sl} {vs : List V}, SlVs K wo H F1 H1 ss vs → SlVs K wo H0' F1 H1 ss vs
  | _, _, .nil => .nil
  | s :: _, _, .cons h t n => by
    refine .cons ?_ (SlVs.back b t) n
    cases s with
    | own ds =>
      obtain ⟨p, us, h1, h2, h3, h4, h5, h6⟩ := h
      exact ⟨p, us, h1, b p h4 h2, h3, h4, h5, h6⟩
    | dat d => exact h
    | no => exact h
    | scr _ => exact h
    | well => exact h
theorem SlVs.mem : ∀ {ss : List Sl} {vs : List V}, SlVs K wo H F1 H1 ss vs → ∀ es q, (Sl.own es, V.ref q) ∈ ss.zip vs → H q = none ∧ ∃ us, H1 q = some (.lst us)
  | _, _, .nil, _, _, h => by cases h
  | s :: ss, v :: vs, .cons a t _, es, q, h => by
    rw [List.zip_cons_cons] at h
    rcases List.mem_cons.mp h with z1 | z
    · cases z1
      obtain ⟨p, us, h1, h2, h3, h4, h5, h6⟩ := a
      cases h1
      exact ⟨h2, us, h5⟩
    · exact SlVs.mem t es q z
end
section
variable {X : Cx} {e : Expr} {es : List Expr} {te : TE} {fe : FE} {ts : TA} {fs : FA} {fm : FMx} {pos : Pos}
def fmNil : FMx := fun _ w => some ([], w)
def fmD (fe : FE) (fm : FMx) : FMx := fun η w => (fe η w).bind fun x => (fm η x.2).bind fun y => some (.dat x.1 :: y.1, y.2)
def fmN (fs : FA) (fm : FMx) : FMx := fun η w => (fs η w).bind fun x => (fm η x.2).bind fun y => some (.own x.1 :: y.1, y.2)
theorem dm_nil : DM X [] tNil fmNil := ⟨pa_nil, fun wo H0 F η w σ H R ds w' e Q q => by
  cases e
  exact q F H [] (Gr.refl _ _) (Kp.refl _ _) R .nil⟩
theorem dm_d (he : DE X e te fe) (hs : DM X es ts fm) (h : starEach (e :: es) X.env = (false, eval e X.env) :: starEach es X.env := by rfl) : DM X (e :: es) (tCons te ts) (fmD fe fm) :=
  ⟨pa_cons he.p hs.p h, fun wo H0 F η w σ H R ss w' e Q q => by
    obtain ⟨⟨d, w1⟩, e1, e⟩ := bind_some e
    obtain ⟨⟨ss1, w2⟩, e2, e9⟩ := bind_some e
    cases e9
    refine he.q _ _ _ _ _ _ _ R _ _ e1 _ fun F1 H1 x g1 k1 R1 d1 => ?_
    refine hs.q _ _ _ _ _ _ _ R1 _ _ e2 _ fun F2 H2 vs g2 k2 R2 m => ?_
    exact q F2 H2 _ (g1.trans g2 k1 R1.wel) (k1.trans k2) R2 (.cons (da_mono g2.le _ _ d1) (m.back fun p n z => by
      cases y : H p with
      | none => rfl
      | some o => rw [k1 p o n y] at z; cases z) fun p _ h => by
        obtain ⟨ds, h⟩ := h
        cases h)⟩
theorem dm_n (he : DN X e te fs) (hs : DM X es ts fm) (h : starEach (e :: es) X.env = (false, eval e X.env) :: starEach es X.env := by rfl) : DM X (e :: es) (tCons te ts) (fmN fs fm) :=
  ⟨pa_cons he.p hs.p h, fun wo H0 F η w σ H R ss w' e Q q => by
    obtain ⟨⟨d, w1⟩, e1, e⟩ := bind_some e
    obtain ⟨⟨ss1, w2⟩, e2, e9⟩ := bind_some e
    cases e9
    refine he.q _ _ _ _ _ _ _ R _ _ e1 _ fun F1 H1 p vs0 g1 k1 R1 hp0 hF hw hp d1 => ?_
    refine hs.q _ _ _ _ _ _ _ R1 _ _ e2 _ fun F2 H2 vs g2 k2 R2 m => ?_
    have m' := m.back (H0' := H) fun p n z => by
      cases y : H p with
      | none => rfl
      | some o => rw [k1 p o n y] at z; cases z
    refine q F2 H2 _ (g1.trans g2 k1 R1.wel) (k1.trans k2) R2 (.cons ⟨p, vs0, rfl, hp0, g2.nw p hF (by rw [hp]; exact fun z => nomatch z), hw, k2 p _ hw hp, daAll_mono g2.le _ _ d1⟩ m' fun p' hv _ es q hq z => ?_)
    cases hv
    have := (SlVs.mem m es q hq).1
    rw [z, hp] at this
    cases this⟩
def gNames : List Nat → TGs
  | [] => gNil
  | i :: is => gCons (gName i) (gNames is)
def setAll : List Nat → List Sl → Vw → Option Vw
  | [], [], η => some η
  | i :: is, .dat d :: ss, η => setAll is ss (η.set i (.dat d))
  | i :: is, .own ds :: ss, η => setAll is ss (η.set i (.own ds))
  | _, _, _ => none
theorem names_ev {K : PySem.W.Frag} {wo : Option Addr} {H0 F H Hs : Hp} : ∀ {is : List Nat} {ss : List Sl} {vs : List V} {η η' : Vw} {w : Wl} {σ : L2.St}, Rel K wo H0 F η w σ H → (∀ p, wo ≠ some p → Hs p = none → H0 p = none) → SlVs K wo Hs F H ss vs →
    (∀ (j : Nat) (es : List PyData) (q : Addr), η[j]? = some (.own es) → σ[j]? = some (some (.ref q)) → ∀ us p, (Sl.own us, V.ref p) ∈ ss.zip vs → q ≠ p) → setAll is ss η = some η' →
    ∀ Q : L2.St → Hp → Prop, (∀ σ', Rel K wo H0 F η' w σ' H → Q σ' H) → gNames is vs σ H Q
  | [], [], _, η, η', w, σ, R, _, .nil, _, e, Q, q => by
    cases e
    exact ⟨rfl, q σ R⟩
  | i :: is, .dat d :: ss, _, η, η', w, σ, R, hb, .cons (v := v) h t _, ne, e, Q, q => by
    refine ⟨_, _, rfl, ?_⟩
    refine names_ev (R.put i h) hb t (fun j es q' e1 e2 us p hm => ?_) e Q q
    by_cases hj : i = j
    · subst hj
      exfalso
      by_cases hl : i < η.length
      · rw [List.getElem?_set_self hl] at e1; cases e1
      · rw [List.getElem?_eq_none (by rw [List.length_set]; omega)] at e1; cases e1
    · rw [List.getElem?_set_ne hj] at e1 e2
      exact ne j es q' e1 e2 us p (by rw [List.zip_cons_cons]; exact List.mem_cons_of_mem _ hm)
  | i :: is, .own ds :: ss, _, η, η', w, σ, R, hb, .cons (v := v) h t n, ne, e, Q, q => by
    obtain ⟨p, us, rfl, h2, h3, h4, h5, h6⟩ := h
    refine ⟨_, _, rfl, ?_⟩
    refine names_ev (R.putN i (hb p h4 h2) h3 h4 h5 h6 fun j es q' e1 e2 => ne j es q' e1 e2 ds p (by rw [List.zip_cons_cons]; exact List.mem_cons_self)) hb t (fun j es q' e1 e2 us' p' hm => ?_) e Q q
    by_cases hj : i = j
    · subst hj
      by_cases hl : i < σ.length
      · rw [List.getElem?_set_self hl] at e2
        cases e2
        exact fun z => n p rfl ⟨ds, rfl⟩ us' p' hm z.symm
      · rw [List.getElem?_eq_none (by rw [List.length_set]; omega)] at e2
        cases e2
    · rw [List.getElem?_set_ne hj] at e1 e2
      exact ne j es q' e1 e2 us' p' (by rw [List.zip_cons_cons]; exact List.mem_cons_of_mem _ hm)
  | [], _ :: _, _, _, _, _, _, _, _, _, _, e, _, _ => by cases e
  | _ :: _, [], _, _, _, _, _, _, _, _, _, e, _, _ => by cases e
  | _ :: _, .no :: _, _, _, _, _, _, _, _, _, _, e, _, _ => by cases e
  | _ :: _, .scr _ :: _, _, _, _, _, _, _, _, _, _, e, _, _ => by cases e
  | _ :: _, .well :: _, _, _, _, _, _, _, _, _, _, e, _, _ => by cases e
def fAsgM (is : List Nat) (fm : FMx) : FS := fun η w => (fm η w).bind fun x => if x.1.length ≤ sizeLine then (setAll is x.1 η).bind fun η' => some (.nx η', x.2) else none
theorem setAll_len : ∀ {is : List Nat} {ss : List Sl} {η η' : Vw}, setAll is ss η = some η' → ss.length = is.length
  | [], [], _, _, _ => rfl
  | _ :: is, .dat _ :: ss, _, _, e => congrArg (· + 1) (setAll_len (is := is) (ss := ss) e)
  | _ :: is, .own _ :: ss, _, _, e => congrArg (· + 1) (setAll_len (is := is) (ss := ss) e)
  | [], _ :: _, _, _, e => by cases e
  | _ :: _, [], _, _, e => by cases e
  | _ :: _, .no :: _, _, _, e => by cases e
  | _ :: _, .scr _ :: _, _, _, e => by cases e
  | _ :: _, .well :: _, _, _, e => by cases e
theorem ds_asgM {tgs : List Expr} {k k2 : Nat} {p2 spos : Pos} (is : List Nat) (hc : X.calm = true) (h : DM X es ts fm) (hg : PGs X tgs (gNames is)) (hn : (assignEach tgs X.env).length = is.length := by rfl) (hst : (assignEach tgs X.env).findIdx? (·.1) = none := by rfl)
    (hs : swapsWithSole [.Tuple tgs k p2] (.Tuple es k2 pos) spos.line X.env = pure false := by rfl) (hw : swappedStores [.Tuple tgs k p2] (.Tuple es k2 pos) X.env = pure none := by rfl)
    (h1 : (assignEach [.Tuple tgs k p2] X.env).map (·.2) = [assign (.Tuple tgs k p2) X.env] := by rfl) : DS X (.Assign [.Tuple tgs k p2] (.Tuple es k2 pos) spos) (tAsg (tTup ts) (gTup X.K is.length (gNames is))) (fAsgM is fm) := ⟨ps_asg (pe_tup h.p) (pg_tup hc hg hn hst) hs hw h1, fun wo H0 F η w σ H R c w' e0 D kk => by
  obtain ⟨⟨ss, w1⟩, e1, e0⟩ := bind_some e0
  refine h.q _ _ _ _ _ _ _ R _ _ e1 _ fun F1 H1 vs g1 k1 R1 m => ?_
  have e' : (if ss.length ≤ sizeLine then (setAll is ss η).bind fun η' => some (Ctl.nx η', w1) else none) = some (c, w') := e0
  by_cases hl : ss.length ≤ sizeLine
  · rw [if_pos hl] at e'
    obtain ⟨η', e2, e9⟩ := bind_some e'
    cases e9
    refine ⟨by rw [SlVs.len m]; exact hl, fun T hT => ?_⟩
    have RT : Rel X.K wo H0 F1 η w' σ (upd H1 T (.tup vs)) := R1.mute hT _
    refine ⟨T, vs, rfl, SqT.of upd_same, by rw [SlVs.len m]; exact setAll_len e2, ?_⟩
    refine names_ev RT (fun p n z => ?_) (m.step (Gr.refl H1 F1) (kp_new hT)) (fun j es q' e3 e4 us p hm z => ?_) e2 _ fun σ' R2 => kk F1 σ' _ (R.gr0 g1) R2
    · cases y : H0 p with
      | none => rfl
      | some o => rw [R.ent p o n y] at z; cases z
    · have := (SlVs.mem m us p hm).1
      exact own_ne R this j es q' e3 e4 z
  · rw [if_neg hl] at e'
    cases e'⟩

/-- two or three written values for plain names of one's own: the stores go from the right -/
theorem names_all {X : Cx} {is : List Nat} {ss : List Sl} {vs : List V} {wo : Option Addr} {H0 F F1 H H1 : Hp} {η : Vw} {w w1 w' : Wl} {σ : L2.St} {c : Ctl} {D : Ends} (R : Rel X.K wo H0 F η w σ H) (g1 : Gr H F F1) (R1 : Rel X.K wo H0 F1 η w1 σ H1) (m : SlVs X.K wo H F1 H1 ss vs)
    (e' : (if ss.length ≤ sizeLine then (setAll is ss η).bind fun η' => some (Ctl.nx η', w1) else none) = some (c, w')) (kk : EndOk X.K wo H0 F w' D c) : ss.length = is.length ∧ gNames is vs σ H1 D.nx := by
  by_cases hl : ss.length ≤ sizeLine
  · rw [if_pos hl] at e'
    obtain ⟨η', e2, e9⟩ := bind_some e'
    cases e9
    refine ⟨setAll_len e2, names_ev R1 (fun p n z => ?_) m (fun j es q e3 e4 us p hm z => ?_) e2 _ fun σ' R2 => kk F1 σ' _ (R.gr0 g1) R2⟩
    · cases y : H0 p with
      | none => rfl
      | some o => rw [R.ent p o n y] at z; cases z
    · exact own_ne R (SlVs.mem m us p hm).1 j es q e3 e4 z
  · rw [if_neg hl] at e'
    cases e'
theorem ds_par2 {i j : Nat} {x y : Str} {a b : Expr} {px py pt spos : Pos} {k k2 : Nat} (hc : X.calm = true) (hN : X.N.Nodup) (hi : X.N[i]? = some x) (hj : X.N[j]? = some y) (hij : i ≠ j) (hx : X.env.scope.names.lookup x = some .local) (hy : X.env.scope.names.lookup y = some .local)
    (h : DM X [a, b] ts fm) (hw : swappedStores [.Tuple [.Name x px, .Name y py] k pt] (.Tuple [a, b] k2 pos) X.env = pure (some [x, y])) (hs : swapsWithSole [.Tuple [.Name x px, .Name y py] k pt] (.Tuple [a, b] k2 pos) spos.line X.env = pure false := by rfl) :
    DS X (.Assign [.Tuple [.Name x px, .Name y py] k pt] (.Tuple [a, b] k2 pos) spos) (tPar i j ts) (fAsgM [i, j] fm) := ⟨ps_par hc hN hi hj hij hx hy h.p hw hs, fun wo H0 F η w σ H R c w' e0 D kk => by
  obtain ⟨⟨ss, w1⟩, e1, e0⟩ := bind_some e0
  refine h.q _ _ _ _ _ _ _ R _ _ e1 _ fun F1 H1 vs g1 k1 R1 m => ?_
  obtain ⟨hl, q⟩ := names_all R g1 R1 m e0 kk
  obtain ⟨v, r, rfl, u, r', rfl, rfl, q⟩ := q
  exact ⟨v, u, rfl, q⟩⟩
theorem ds_par3 {i j l : Nat} {x y z : Str} {a b c : Expr} {px py pz pt spos : Pos} {k k2 : Nat} (hc : X.calm = true) (hN : X.N.Nodup) (hi : X.N[i]? = some x) (hj : X.N[j]? = some y) (hl : X.N[l]? = some z) (hij : i ≠ j) (hil : i ≠ l) (hjl : j ≠ l)
    (hx : X.env.scope.names.lookup x = some .local) (hy : X.env.scope.names.lookup y = some .local) (hz : X.env.scope.names.lookup z = some .local)
    (h : DM X [a, b, c] ts fm) (hw : swappedStores [.Tuple [.Name x px, .Name y py, .Name z pz] k pt] (.Tuple [a, b, c] k2 pos) X.env = pure (some [x, y, z])) (hs : swapsWithSole [.Tuple [.Name x px, .Name y py, .Name z pz] k pt] (.Tuple [a, b, c] k2 pos) spos.line X.env = pure false := by rfl) :
    DS X (.Assign [.Tuple [.Name x px, .Name y py, .Name z pz] k pt] (.Tuple [a, b, c] k2 pos) spos) (tPar3 i j l ts) (fAsgM [i, j, l] fm) := ⟨ps_par3 hc hN hi hj hl hij hil hjl hx hy hz h.p hw hs, fun wo H0 F η w σ H R c w' e0 D kk => by
  obtain ⟨⟨ss, w1⟩, e1, e0⟩ := bind_some e0
  refine h.q _ _ _ _ _ _ _ R _ _ e1 _ fun F1 H1 vs g1 k1 R1 m => ?_
  obtain ⟨_, q⟩ := names_all R g1 R1 m e0 kk
  obtain ⟨v, r, rfl, u, r', rfl, t, r2, rfl, rfl, q⟩ := q
  exact ⟨v, u, t, rfl, q⟩⟩

/-! ### any list or tuple walked -/
def tOr2 (a b : TI) : TI := fun σ H R => a σ H R ∨ b σ H R
theorem pi_or {tg it : Expr} {a b : TI} (h1 : PI X tg it a) (h2 : PI X tg it b) : PI X tg it (tOr2 a b) := ⟨fun pins s σ H R I h => by
  rcases h with h | h
  · exact h1.run pins s σ H R I h
  · exact h2.run pins s σ H R I h⟩
def seqItems : PyData → Option (List PyData)
  | .list ds => some ds
  | .tuple ds => some ds
  | _ => none
theorem di_seq {tg : Expr} (h : DE X e te fe) : DI X tg e (tOr2 (iList X.K te) (iTup X.K te)) (fGet seqItems fe) := ⟨pi_or (pi_list h.p) (pi_tup h.p), fun wo H0 F η w σ H R ds w' e0 Q q => by
  obtain ⟨⟨d, w1⟩, e1, e⟩ := bind_some e0
  obtain ⟨ds', e2, e9⟩ := bind_some e
  cases e9
  cases d with
  | list es =>
    refine .inl ((di_list (tg := tg) h).q _ _ _ _ _ _ _ R _ w1 ?_ Q q)
    show (fe η w).bind _ = _
    rw [e1]
    exact congrArg (fun z => Option.bind z fun ds => some (ds, w1)) e2
  | tuple es =>
    refine .inr ((di_tup (tg := tg) h).q _ _ _ _ _ _ _ R _ w1 ?_ Q q)
    show (fe η w).bind _ = _
    rw [e1]
    exact congrArg (fun z => Option.bind z fun ds => some (ds, w1)) e2
  | _ => cases e2⟩

/-! ### f(.., k = v, ..) -/
/-- the given values, by position and by name, in the parameters' order -/
def gp {α : Type} (np nk : Nat) (pm : List Nat) (us ws : List α) : List α := if us.length = np ∧ ws.length = nk then pm.filterMap fun i => (us ++ ws)[i]? else []
theorem gp_len {α : Type} {np nk : Nat} {pm : List Nat} {us ws : List α} {n : Nat} (h : (gp np nk pm us ws).length = n + 1) : us.length = np ∧ ws.length = nk := by
  unfold gp at h
  split at h
  · assumption
  · cases h
theorem pick_vals {xs : List V} {us : List Value} (r : Vals xs us) : ∀ pm : List Nat, Vals (pm.filterMap fun i => xs[i]?) (pm.filterMap fun i => us[i]?)
  | [] => .nil
  | i :: pm => by
    cases z : xs[i]? with
    | none =>
      rw [List.filterMap_cons_none z, List.filterMap_cons_none (Vals.none_of r z)]
      exact pick_vals r pm
    | some x =>
      obtain ⟨u, h1, h2⟩ := Vals.get r z
      rw [List.filterMap_cons_some z, List.filterMap_cons_some h1]
      exact .cons h2 (pick_vals r pm)
theorem gp_vals {np nk : Nat} {pm : List Nat} {vs zs : List V} {us ws : List Value} (r : Vals vs us) (r2 : Vals zs ws) : Vals (gp np nk pm vs zs) (gp np nk pm us ws) := by
  unfold gp
  rw [r.length, r2.length]
  split
  · exact pick_vals (r.append r2) pm
  · exact .nil
theorem pick_das {K : PySem.W.Frag} {F : Hp} {xs : List V} {ds : List PyData} (r : DaAll K F xs ds) : ∀ pm : List Nat, DaAll K F (pm.filterMap fun i => xs[i]?) (pm.filterMap fun i => ds[i]?)
  | [] => .nil
  | i :: pm => by
    cases z : ds[i]? with
    | none =>
      have z' : xs[i]? = none := List.getElem?_eq_none_iff.mpr (by rw [all_len r]; exact List.getElem?_eq_none_iff.mp z)
      rw [List.filterMap_cons_none z, List.filterMap_cons_none z']
      exact pick_das r pm
    | some x =>
      obtain ⟨u, h1, h2⟩ := all_get r z
      rw [List.filterMap_cons_some z, List.filterMap_cons_some h1]
      exact .cons h2 (pick_das r pm)
theorem gp_das {K : PySem.W.Frag} {F : Hp} {np nk : Nat} {pm : List Nat} {vs zs : List V} {ds es : List PyData} (r : DaAll K F vs ds) (r2 : DaAll K F zs es) : DaAll K F (gp np nk pm vs zs) (gp np nk pm ds es) := by
  unfold gp
  rw [all_len r, all_len r2]
  split
  · exact pick_das (all_app r r2) pm
  · exact .nil
structure DK (X : Cx) (kws : List Keyword) (t : TA) (f : FA) : Prop where
  p : PK X kws t
  q : EvA X.K t f
theorem dk_nil : DK X [] tNil fNil := ⟨pk_nil, (da_nil (X := X)).q⟩
theorem dk_cons {kws : List Keyword} {nm : Option Str} {kpos : Pos} (he : DE X e te fe) (hs : DK X kws ts fs) : DK X (⟨nm, e, kpos⟩ :: kws) (tCons te ts) (fCons fe fs) := ⟨pk_cons he.p hs.p, fun wo H0 F η w σ H R ds w' e Q q => by
    obtain ⟨⟨d, w1⟩, e1, e⟩ := bind_some e
    obtain ⟨⟨ds1, w2⟩, e2, e⟩ := bind_some e
    cases e
    refine he.q _ _ _ _ _ _ _ R _ _ e1 _ fun F1 H1 x g1 k1 R1 d1 => ?_
    exact hs.q _ _ _ _ _ _ _ R1 _ _ e2 _ fun F2 H2 vs g2 k2 R2 d2 => q F2 H2 _ (g1.trans g2 k1 R1.wel) (k1.trans k2) R2 (.cons (da_mono g2.le _ _ d1) d2)⟩
variable {k n np nk : Nat} {pm : List Nat} {f : Addr} {fd : FuncData} {ps ks : List Str} {x : Str} {p : Pos} {m : FM} {fk : FA} {tk : TA} {kws : List Keyword}
def fCallK (np nk : Nat) (pm : List Nat) (m : FM) (n : Nat) (fs fk : FA) : FE := fun η w => (fs η w).bind fun y => (fk η y.2).bind fun z => if (gp np nk pm y.1 z.1).length = n then m (gp np nk pm y.1 z.1) z.2 else none
theorem callk_ev {K : PySem.W.Frag} (ha : EvA K ts fs) (hk : EvA K tk fk) : EvE K (fun σ H Q => ts σ H fun vs H1 => tk σ H1 fun zs H2 => SpD K false n m (gp np nk pm vs zs) H2 Q E0) (fCallK np nk pm m n fs fk) := by
  intro wo H0 F η w σ H R d w' e Q q
  obtain ⟨⟨ds, w1⟩, e1, e⟩ := bind_some e
  obtain ⟨⟨es, w2⟩, e2, e⟩ := bind_some e
  refine ha _ _ _ _ _ _ _ R _ _ e1 _ fun F1 H1 vs g1 k1 R1 d1 => ?_
  refine hk _ _ _ _ _ _ _ R1 _ _ e2 _ fun F2 H2 zs g2 k2 R2 d2 => ?_
  have e' : (if (gp np nk pm ds es).length = n then m (gp np nk pm ds es) w2 else none) = some (d, w') := e
  by_cases hl : (gp np nk pm ds es).length = n
  · rw [if_pos hl] at e'
    exact ⟨wo, F2, w2, _, _, d, w', rfl, R2.sub, R2.wel, gp_das (daAll_mono g2.le _ _ d1) d2, hl, e', fun F3 H3 v g3 k3 s3 q3 d3 => q F3 H3 v (g1.trans (g2.trans g3 k2 R2.wel) k1 R1.wel) (k1.trans (k2.trans k3)) (R2.step g3 k3 s3 q3) d3⟩
  · rw [if_neg hl] at e'
    cases e'
theorem de_callK (G : FnG X.prog X.w X.K X.mg X.base k f fd ps (SpD X.K false n m)) (gd : X.A.guards = some []) (hr : Room k X.A) (hg : Gl X x) (hm : X.mg x = some (.ref f)) (hkp : PySem.W.keepIn X.K (.ref f) = true) (hb : KBinds X.K fd ps ks (gp np nk pm) (gp np nk pm))
    (ha : DA X (e :: es) ts fs) (hkw : DK X kws tk fk) (hall : (backToKw pos (keywordEach kws X.env)).all (·.1.isSome) = true := by rfl) (hks : (backToKw pos (keywordEach kws X.env)).filterMap (·.1) = ks := by rfl) (hdb : (x == ("__debug__" : Str)) = false := by decide) (he : starEach (e :: es) X.env = (false, eval e X.env) :: starEach es X.env := by rfl) (hpl : ((backTo pos (starEach (e :: es) X.env)).any (·.1) || (backToKw pos (keywordEach kws X.env)).any (·.1.isNone)) = false := by rfl) :
    DE X (.Call (.Name x p) (e :: es) kws pos) (fun σ H Q => ts σ H fun vs H1 => tk σ H1 fun zs H2 => SpD X.K false n m (gp np nk pm vs zs) H2 Q E0) (fCallK np nk pm m n fs fk) := ⟨pe_callKG G gd hr hg hm hkp hb ha.p hkw.p hall hks hdb he hpl, callk_ev ha.q hkw.q⟩
theorem de_callK0 (G : FnG X.prog X.w X.K X.mg X.base k f fd ps (SpD X.K false n m)) (gd : X.A.guards = some []) (hr : Room k X.A) (hg : Gl X x) (hm : X.mg x = some (.ref f)) (hkp : PySem.W.keepIn X.K (.ref f) = true) (hb : KBinds X.K fd ps ks (gp 0 nk pm) (gp 0 nk pm))
    (hkw : DK X kws tk fk) (hall : (backToKw pos (keywordEach kws X.env)).all (·.1.isSome) = true := by rfl) (hks : (backToKw pos (keywordEach kws X.env)).filterMap (·.1) = ks := by rfl) (hdb : (x == ("__debug__" : Str)) = false := by decide) (hpl : ((backTo pos (starEach [] X.env)).any (·.1) || (backToKw pos (keywordEach kws X.env)).any (·.1.isNone)) = false := by rfl) :
    DE X (.Call (.Name x p) [] kws pos) (fun σ H Q => tNil σ H fun vs H1 => tk σ H1 fun zs H2 => SpD X.K false n m (gp 0 nk pm vs zs) H2 Q E0) (fCallK 0 nk pm m n fNil fk) := ⟨pe_callK0G G gd hr hg hm hkp hb hkw.p hall hks hdb hpl, callk_ev (da_nil (X := X)).q hkw.q⟩

/-! ### names of built-ins -/
theorem bl_len : bootBuiltins "len" = some (.builtin "len") := by decide +kernel
theorem bl_isinstance : bootBuiltins "isinstance" = some (.builtin "isinstance") := by decide +kernel
theorem bl_repr : bootBuiltins "repr" = some (.builtin "repr") := by decide +kernel
theorem bl_abs : bootBuiltins "abs" = some (.builtin "abs") := by decide +kernel
theorem bl_min : bootBuiltins "min" = some (.builtin "min") := by decide +kernel
theorem bl_max : bootBuiltins "max" = some (.builtin "max") := by decide +kernel
theorem bl_sum : bootBuiltins "sum" = some (.builtin "sum") := by decide +kernel
theorem bl_all : bootBuiltins "all" = some (.builtin "all") := by decide +kernel
theorem bl_any : bootBuiltins "any" = some (.builtin "any") := by decide +kernel
theorem bl_divmod : bootBuiltins "divmod" = some (.builtin "divmod") := by decide +kernel
theorem bt_int : bootBuiltins "int" = some (.type "int") := by decide +kernel
theorem bt_bool : bootBuiltins "bool" = some (.type "bool") := by decide +kernel
theorem bt_str : bootBuiltins "str" = some (.type "str") := by decide +kernel
theorem bt_list : bootBuiltins "list" = some (.type "list") := by decide +kernel
theorem bt_tuple : bootBuiltins "tuple" = some (.type "tuple") := by decide +kernel
end

/-! ### a def of the text and its promise -/
def Df (P : Program) (w : World) (K : PySem.W.Frag) (mg : Str → Option Value) (base : Heap) (k : Nat) (x : Str) (st : Stmt) (ps : List Str) (wl : Bool) (n : Nat) (m : FM) : Prop :=
  ∃ f fd, mg x = some (.ref f) ∧ Fun K x x st f fd ∧ FnG P w K mg base k f fd ps (SpD K wl n m)
end DL
namespace DL
open L2 PySem PySem.Spec PyProof.Rows

/-! ### the well itself: read and changed -/
def wGet (w : Wl) : Int → Option Int
  | 0 => some w.1
  | 1 => some w.2.1
  | 2 => some w.2.2
  | _ => none
def wSet (w : Wl) (z : Int) : Int → Option Wl
  | 0 => some (z, w.2.1, w.2.2)
  | 1 => some (w.1, z, w.2.2)
  | 2 => some (w.1, w.2.1, z)
  | _ => none
abbrev wV (w : Wl) : List V := [.int w.1, .int w.2.1, .int w.2.2]
theorem wGet_some {w : Wl} {c z : Int} (h : wGet w c = some z) : atI (wV w) c = some (.int z) := by
  unfold wGet at h
  split at h <;> (cases h <;> rfl)
theorem wSet_some {w w' : Wl} {c z : Int} (h : wSet w z c = some w') : ∃ j, ixN (wV w).length c = some j ∧ (wV w).set j (.int z) = wV w' := by
  unfold wSet at h
  split at h
  · cases h; exact ⟨0, rfl, rfl⟩
  · cases h; exact ⟨1, rfl, rfl⟩
  · cases h; exact ⟨2, rfl, rfl⟩
  · cases h
section
variable {K : PySem.W.Frag} {wo : Option Addr} {H0 F H : Hp} {η : Vw} {w w' : Wl} {σ : L2.St}
theorem well_of {i : Nat} {α : Type} {f : Option α} {z : α} (h : (match slAt η i with | .well => f | _ => none) = some z) : η[i]? = some .well ∧ f = some z := by
  cases e : slAt η i with
  | well => rw [e] at h; exact ⟨slAt_some e (fun z => nomatch z), h⟩
  | no => rw [e] at h; cases h
  | dat _ => rw [e] at h; cases h
  | own _ => rw [e] at h; cases h
  | scr _ => rw [e] at h; cases h
theorem Rel.pour (R : Rel K wo H0 F η w σ H) {a : Addr} (ha : wo = some a) (w' : Wl) : Rel K wo H0 F η w' σ (upd H a (.lst (wV w'))) := by
  subst ha
  obtain ⟨hF, hH⟩ := R.wel a rfl
  refine ⟨fun b u q => ?_, fun b q => ?_, fun b u n q => ?_, R.len, fun j s q => ?_, R.sep⟩
  · rw [upd_ne (ne_of_none q hF)]; exact R.sub b u q
  · cases q
    exact ⟨hF, upd_same⟩
  · rw [upd_ne (fun z => n (by rw [z]))]; exact R.ent b u n q
  · have h := R.slt j s q
    cases s with
    | no => trivial
    | dat d => exact h
    | scr _ => exact h
    | well => exact h
    | own zs =>
      obtain ⟨x, ys, z1, z2, z3, z4, z5, z6⟩ := h
      exact ⟨x, ys, z1, z2, z3, z4, by rw [upd_ne (fun z => z4 (by rw [z]))]; exact z5, z6⟩
end
section
variable {X : Cx} {st : Stmt} {rest sts : List Stmt} {t u : TS} {f g : FS} {a b e : Expr} {es : List Expr} {te ti : TE} {ts : TA} {fe : FE} {fs : FA} {pos p py sp : Pos} {x y z : Str}
/-- well[c] -/
def fWix (i : Nat) (c : Int) : FE := fun η w => match slAt η i with
  | .well => (wGet w c).bind fun z => some (.int z, w)
  | _ => none
theorem de_wix {i : Nat} {c : Int} (hy : PE X (.Name y py) (tVar i)) (hi : DE X b ti (fC (.int c))) (hp : PlainIx b := by exact (fun _ _ => rfl)) : DE X (.Subscript (.Name y py) b pos) (tOp (rIx X.K) (tVar i) ti) (fWix i c) :=
  ⟨pe_ix ix_seq hy hi.p hp, fun wo H0 F η w σ H R d w' e Q q => by
    obtain ⟨ei, e⟩ := well_of e
    obtain ⟨z, e1, e9⟩ := bind_some e
    cases e9
    obtain ⟨a, ha, hv⟩ := R.slt i _ ei
    refine ⟨_, hv, ?_⟩
    refine hi.q _ _ _ _ _ _ _ R _ _ rfl _ fun F1 H1 v g1 k1 R1 d1 => ?_
    cases d1
    exact .inl ⟨a, _, c, .int z, rfl, rfl, SqL.of (R1.wel a ha).2, wGet_some e1, q F1 H1 _ g1 k1 R1 (.int z)⟩⟩
/-- well[c] = e -/
def fWput (i : Nat) (c : Int) (fe : FE) : FS := fun η w => match slAt η i with
  | .well => (fe η w).bind fun x => (intOf x.1).bind fun z => (wSet x.2 z c).bind fun w' => some (.nx η, w')
  | _ => none
theorem ds_wput {i : Nat} {c : Int} (hy : PE X (.Name y py) (tVar i)) (hi : DE X a ti (fC (.int c))) (h : DE X e te fe) (hs : swapsWithSole [.Subscript (.Name y py) a sp] e pos.line X.env = pure false := by rfl)
    (hw : swappedStores [.Subscript (.Name y py) a sp] e X.env = pure none := by rfl)
    (hz : ∀ v, assign (.Subscript (.Name y py) a sp) X.env v = (do
      let o ← holding [v] (eval (.Name y py) X.env)
      let j ← holding [v, o] (eval a X.env)
      standAt sp
      holding [v, o, j] (setItem o j v)
      release [v, o, j] []) := by intro _; rfl) (h1 : (assignEach [.Subscript (.Name y py) a sp] X.env).map (·.2) = [assign (.Subscript (.Name y py) a sp) X.env] := by rfl) :
    DS X (.Assign [.Subscript (.Name y py) a sp] e pos) (tAsg te (gSub (tVar i) ti rSetL)) (fWput i c fe) := ⟨ps_asg h.p (pg_sub hy hi.p set_list hz) hs hw h1, fun wo H0 F η w σ H R c' w' e0 D kk => by
  obtain ⟨ei, e0⟩ := well_of e0
  obtain ⟨⟨d, w1⟩, e1, e0⟩ := bind_some e0
  obtain ⟨k, e2, e0⟩ := bind_some e0
  obtain ⟨w2, e3, e9⟩ := bind_some e0
  cases e9
  cases intOf_some e2
  refine h.q _ _ _ _ _ _ _ R _ _ e1 _ fun F1 H1 v g k1 R1 dv => ?_
  cases dv
  obtain ⟨q, ha, hv⟩ := R1.slt i _ ei
  refine ⟨_, hv, ?_⟩
  refine hi.q _ _ _ _ _ _ _ R1 _ _ rfl _ fun F2 H2 u g2 k2 R2 du => ?_
  cases du
  obtain ⟨j, j1, j2⟩ := wSet_some e3
  refine ⟨q, wV w1, c, j, rfl, rfl, (R2.wel q ha).2, j1, ?_⟩
  rw [j2]
  exact kk F2 σ _ (gr0_trans (R.gr0 g) (R1.gr0 g2)) (R2.pour ha w')⟩
/-- divmod(a, b) -/
def gDivmod : List PyData → Option PyData
  | [.int i, .int j] => if 0 < j ∧ j < 1073741824 then some (.tuple [.int (i / j), .int (i % j)]) else none
  | _ => none
theorem gDivmod_some {ds : List PyData} {d : PyData} (h : gDivmod ds = some d) : ∃ i j, ds = [.int i, .int j] ∧ (0 < j ∧ j < 1073741824) ∧ d = .tuple [.int (i / j), .int (i % j)] := by
  unfold gDivmod at h
  split at h
  · next i j =>
    split at h
    · cases h; exact ⟨i, j, rfl, by assumption, rfl⟩
    · cases h
  · cases h
def rDivmod : List V → Hp → VK → Prop := fun xs H Q => ∃ i j, xs = [.int i, .int j] ∧ CDiv i j ∧ ∀ p, H p = none → Q (.ref p) (upd H p (.tup [.int (i / j), .int (i % j)]))
def fDivmod (fs : FA) : FE := fun η w => (fs η w).bind fun x => (gDivmod x.1).bind fun d => some (d, x.2)
theorem de_divmod (h : DA X (e :: es) ts fs) (hg : Gl X x) (hm : X.mg x = none) (hv : bootBuiltins x = some (.builtin "divmod")) (hn : x ≠ "__name__" := by decide) (hdb : (x == ("__debug__" : Str)) = false := by decide)
    (he : starEach (e :: es) X.env = (false, eval e X.env) :: starEach es X.env := by rfl) (hpl : (backTo pos (starEach es X.env)).any (·.1) = false := by rfl) : DE X (.Call (.Name x p) (e :: es) [] pos) (tCB rDivmod ts) (fDivmod fs) :=
  ⟨pe_callB call_divmod hg hm hv h.p hn hdb he hpl, fun wo H0 F η w σ H R d w' e Q q => by
    obtain ⟨⟨ds, w1⟩, e1, e⟩ := bind_some e
    obtain ⟨d1, e2, e9⟩ := bind_some e
    cases e9
    obtain ⟨i, j, rfl, hc, rfl⟩ := gDivmod_some e2
    refine h.q _ _ _ _ _ _ _ R _ _ e1 _ fun F1 H1 vs g1 k1 R1 dd => ?_
    cases dd with
    | cons x1 t1 =>
    cases t1 with
    | cons x2 t2 =>
    cases t2
    cases x1
    cases x2
    exact ⟨i, j, rfl, hc, fun l hl => q _ _ _ (g1.trans (gr_new R1.sub hl) k1 R1.wel) (k1.trans (kp_new hl)) (R1.new hl _) (.tup (SqT.of upd_same) (.cons (.int _) (.cons (.int _) .nil)))⟩⟩
/-- well[c], z = e -/
def fWdiv (i j : Nat) (c : Int) (fe : FE) : FS := fun η w => match slAt η i with
  | .well => (fe η w).bind fun x => match x.1 with
    | .tuple [.int m, d] => (wSet x.2 m c).bind fun w' => some (.nx (η.set j (.dat d)), w')
    | _ => none
  | _ => none
theorem ds_wdiv {i j : Nat} {c : Int} {k : Nat} {p2 pz : Pos} (hc : X.calm = true) (hN : X.N.Nodup) (hj : X.N[j]? = some z) (hx : Loc X.env.scope z) (hy : PE X (.Name y py) (tVar i)) (hi : DE X a ti (fC (.int c))) (h : DE X e te fe)
    (hz : ∀ v, assign (.Subscript (.Name y py) a sp) X.env v = (do
      let o ← holding [v] (eval (.Name y py) X.env)
      let j ← holding [v, o] (eval a X.env)
      standAt sp
      holding [v, o, j] (setItem o j v)
      release [v, o, j] []) := by intro _; rfl)
    (hn : (assignEach [.Subscript (.Name y py) a sp, .Name z pz] X.env).length = 2 := by rfl) (hst : (assignEach [.Subscript (.Name y py) a sp, .Name z pz] X.env).findIdx? (·.1) = none := by rfl)
    (hs : swapsWithSole [.Tuple [.Subscript (.Name y py) a sp, .Name z pz] k p2] e pos.line X.env = pure false := by rfl) (hw : swappedStores [.Tuple [.Subscript (.Name y py) a sp, .Name z pz] k p2] e X.env = pure none := by rfl)
    (h1 : (assignEach [.Tuple [.Subscript (.Name y py) a sp, .Name z pz] k p2] X.env).map (·.2) = [assign (.Tuple [.Subscript (.Name y py) a sp, .Name z pz] k p2) X.env] := by rfl)
    (hf : X.fn z = true ∨ X.env.scope.names.lookup z = some .local := by first | exact .inl rfl | exact .inr rfl | assumption) :
    DS X (.Assign [.Tuple [.Subscript (.Name y py) a sp, .Name z pz] k p2] e pos) (tAsg te (gTup X.K 2 (gCons (gSub (tVar i) ti rSetL) (gCons (gName j) gNil)))) (fWdiv i j c fe) :=
  ⟨ps_asg h.p (pg_tup hc (pgs_cons (pg_sub hy hi.p set_list hz) (pgs_cons (pg_name hN hj hx hf) pgs_nil)) hn hst) hs hw h1, fun wo H0 F η w σ H R c' w' e0 D kk => by
  obtain ⟨ei, e0⟩ := well_of e0
  obtain ⟨⟨d0, w1⟩, e1, e0⟩ := bind_some e0
  split at e0
  · next m d ed =>
    cases (ed : d0 = _)
    obtain ⟨w2, e3, e9⟩ := bind_some e0
    cases e9
    refine h.q _ _ _ _ _ _ _ R _ _ e1 _ fun F1 H1 v g k1 R1 dv => ?_
    cases dv with
    | tup hq ha =>
    cases ha with
    | cons x1 t1 =>
    cases t1 with
    | cons x2 t2 =>
    cases t2
    cases x1
    refine ⟨_, _, rfl, same_t R1.sub hq, rfl, _, _, rfl, ?_⟩
    obtain ⟨q, hwo, hv⟩ := R1.slt i _ ei
    refine ⟨_, hv, ?_⟩
    refine hi.q _ _ _ _ _ _ _ R1 _ _ rfl _ fun F2 H2 u g2 k2 R2 du => ?_
    cases du
    obtain ⟨n, j1, j2⟩ := wSet_some e3
    refine ⟨q, wV w1, c, n, rfl, rfl, (R2.wel q hwo).2, j1, _, _, rfl, rfl, ?_⟩
    rw [j2]
    exact kk F2 _ _ (gr0_trans (R.gr0 g) (R1.gr0 g2)) ((R2.pour hwo w').put j (da_mono g2.le _ _ x2))
  · cases e0⟩
end

/-! ### a def that ends in a new list -/
abbrev FSN := Vw → Wl → Option (List PyData × Wl)
def EvR (K : PySem.W.Frag) (t : TS) (f : FSN) : Prop := ∀ wo H0 F η w σ H, Rel K wo H0 F η w σ H → ∀ ds w', f η w = some (ds, w') → ∀ D : Ends,
  (∀ F' H' p vs, Gr H0 F F' → Kp wo H0 H' → Same F' H' → Wel wo F' H' w' → H0 p = none → F' p = none → wo ≠ some p → H' p = some (.lst vs) → DaAll K F' vs ds → D.rt (.ref p) H') → t D σ H
structure DR (X : Cx) (sts : List Stmt) (t : TS) (f : FSN) : Prop where
  p : PSs X sts t
  q : EvR X.K t f
section
variable {X : Cx} {st : Stmt} {rest sts : List Stmt} {t u : TS} {f : FS} {g : FSN} {e : Expr} {te : TE} {fs : FA} {pos : Pos}
theorem dr_ret (h : DN X e te fs) : DR X [.Return (some e) pos] (tRet te) fs := ⟨pss_one (ps_ret h.p), fun wo H0 F η w σ H R ds w' e0 D k =>
  h.q _ _ _ _ _ _ _ R _ _ e0 _ fun F1 H1 p vs g1 k1 R1 n1 n2 n3 hp d1 => k F1 H1 p vs (R.gr0 g1) R1.ent R1.sub R1.wel (by
    cases y : H0 p with
    | none => rfl
    | some o => rw [R.ent p o n3 y] at n1; cases n1) n2 n3 hp d1⟩
def fSeqN (f : FS) (g : FSN) : FSN := fun η w => (f η w).bind fun x => match x.1 with
  | .nx η' => g η' x.2
  | _ => none
theorem dr_cons (h : DS X st t f) (h2 : DR X rest u g) : DR X (st :: rest) (tSeq t u) (fSeqN f g) := ⟨pss_cons h.p h2.p, fun wo H0 F η w σ H R ds w' e D k => by
  obtain ⟨⟨c1, w1⟩, e1, e⟩ := bind_some e
  refine h.q _ _ _ _ _ _ _ R _ _ e1 _ ?_
  cases c1 with
  | nx η' => exact fun F' σ' H' g' R' => h2.q _ _ _ _ _ _ _ R' _ _ e D fun F2 H2 p vs g2 => k F2 H2 p vs (gr0_trans g' g2)
  | rt d => cases e
  | bk η' => cases e
  | ct η' => cases e⟩
end
/-! ### the script -/
theorem scr_of {i : Nat} {η : Vw} {α : Type} {f : List Int → Option α} {z : α} (h : (match slAt η i with | .scr ns => f ns | _ => none) = some z) : ∃ ns, η[i]? = some (.scr ns) ∧ f ns = some z := by
  cases e : slAt η i with
  | scr ns => rw [e] at h; exact ⟨ns, slAt_some e (fun z => nomatch z), h⟩
  | no => rw [e] at h; cases h
  | dat _ => rw [e] at h; cases h
  | own _ => rw [e] at h; cases h
  | well => rw [e] at h; cases h
abbrev intsD (ns : List Int) : List PyData := ns.map PyData.int
theorem all_ints {K : PySem.W.Frag} {F : Hp} : ∀ ns : List Int, DaAll K F (ns.map V.int) (intsD ns)
  | [] => .nil
  | n :: ns => .cons (.int n) (all_ints ns)
section
variable {X : Cx} {a e : Expr} {te ti tl th : TE} {fe fi : FE} {pos p py p2 : Pos} {x y : Str} {lo hi : Option Expr} {tlo thi : TO} {flo fhi : FO}
def fSlen (i : Nat) : FE := fun η w => match slAt η i with
  | .scr ns => some (.int (ns.length : Int), w)
  | _ => none
theorem de_slen {i : Nat} (hy : PE X (.Name y py) (tVar i)) (hg : Gl X x) (hm : X.mg x = none) (hv : bootBuiltins x = some (.builtin "len")) (hn : x ≠ "__name__" := by decide) (hdb : (x == ("__debug__" : Str)) = false := by decide)
    (he : starEach [.Name y py] X.env = (false, eval (.Name y py) X.env) :: starEach [] X.env := by rfl) (hpl : (backTo pos (starEach [] X.env)).any (·.1) = false := by rfl) : DE X (.Call (.Name x p) [.Name y py] [] pos) (tCB (rLen X.K) (tCons (tVar i) tNil)) (fSlen i) :=
  ⟨pe_callB call_len_seq hg hm hv (pa_cons hy pa_nil he) hn hdb he hpl, fun wo H0 F η w σ H R d w' e Q q => by
    obtain ⟨ns, ei, e⟩ := scr_of e
    cases e
    obtain ⟨a, ha, hs⟩ := R.slt i _ ei
    exact ⟨_, ha, a, ns.map V.int, rfl, .inl (hs H R.ent), by rw [List.length_map]; exact q F H _ (Gr.refl _ _) (Kp.refl _ _) R (.int _)⟩⟩
/-- script[e] -/
def fSix (i : Nat) (fi : FE) : FE := fun η w => match slAt η i with
  | .scr ns => (fi η w).bind fun y => (intOf y.1).bind fun k => (atI ns k).bind fun z => some (.int z, y.2)
  | _ => none
theorem atI_map {ns : List Int} {k z : Int} (h : atI ns k = some z) : atI (ns.map V.int) k = some (.int z) := by
  unfold atI at h ⊢
  rw [List.length_map]
  obtain ⟨j, h1, h2⟩ := bind_some h
  rw [h1]
  show (ns.map V.int)[j]? = _
  rw [List.getElem?_map, h2]
  rfl
theorem de_six {i : Nat} (hy : PE X (.Name y py) (tVar i)) (h : DE X a ti fi) (hp : PlainIx a := by exact (fun _ _ => rfl)) : DE X (.Subscript (.Name y py) a pos) (tOp (rIx X.K) (tVar i) ti) (fSix i fi) :=
  ⟨pe_ix ix_seq hy h.p hp, fun wo H0 F η w σ H R d w' e Q q => by
    obtain ⟨ns, ei, e⟩ := scr_of e
    obtain ⟨⟨d1, w1⟩, e1, e⟩ := bind_some e
    obtain ⟨k, e2, e⟩ := bind_some e
    obtain ⟨z, e3, e9⟩ := bind_some e
    cases e9
    cases intOf_some e2
    obtain ⟨b, ha, hs⟩ := R.slt i _ ei
    refine ⟨_, ha, ?_⟩
    refine h.q _ _ _ _ _ _ _ R _ _ e1 _ fun F1 H1 v g1 k1 R1 dv => ?_
    cases dv
    exact .inl ⟨b, _, k, .int z, rfl, rfl, hs H1 R1.ent, atI_map e3, q F1 H1 _ g1 k1 R1 (.int z)⟩⟩
/-- script[lo:hi] -/
def fScut (i : Nat) (fl fh : FO) : FA := fun η w => match slAt η i with
  | .scr ns => (fl η w).bind fun y => (fh η y.2).bind fun z => some (cutD (intsD ns) y.1 z.1, z.2)
  | _ => none
theorem dn_scut {i : Nat} (hy : PE X (.Name y py) (tVar i)) (hl : DO X lo tlo flo) (hh : DO X hi thi fhi) : DN X (.Subscript (.Name y py) (.Slice lo hi none p2) pos) (tSl (rSlL X.K) (tVar i) tlo thi) (fScut i flo fhi) := ⟨pe_slice sl_list hy hl.p hh.p, fun wo H0 F η w σ H R ds' w' e Q q => by
  obtain ⟨ns, ei, e⟩ := scr_of e
  obtain ⟨⟨o1, w2⟩, e2, e⟩ := bind_some e
  obtain ⟨⟨o2, w3⟩, e3, e⟩ := bind_some e
  cases e
  obtain ⟨b, ha, hs⟩ := R.slt i _ ei
  refine ⟨_, ha, ?_⟩
  refine hl.q _ _ _ _ _ _ _ R _ _ e2 _ fun F2 H2 g2 k2 R2 => ?_
  refine hh.q _ _ _ _ _ _ _ R2 _ _ e3 _ fun F3 H3 g3 k3 R3 => ?_
  have kk := k2.trans k3
  exact ⟨b, _, rfl, hs H3 R3.ent, fun l hl => q F3 _ l _ (g2.trans g3 k2 R2.wel) (kk.trans (kp_new hl)) (R3.mute hl _) (back_free kk R3 hl) (R3.sub.free hl) (R3.wne hl) upd_same (all_cut (all_ints ns))⟩⟩
end
/-- the start of a def whose first argument is the script -/
def iniS (nn : Nat) (ns : List Int) (ds : List PyData) : Vw := .scr ns :: (ds.map Sl.dat ++ List.replicate (nn - (ds.length + 1)) .no)
theorem rel_startS {K : PySem.W.Frag} {wo : Option Addr} {a : Addr} {F H : Hp} {w : Wl} {vs : List V} {ds : List PyData} {ns : List Int} {nn : Nat} (s : Same F H) (q : Wel wo F H w) (h : DaAll K F vs ds) (hs : ∀ G, Kp wo H G → SqL K G a (ns.map V.int)) (N : List Str) (hN : N.length = nn) (hl : vs.length < nn) :
    Rel K wo H F (iniS nn ns ds) w (L2.start N (.ref a :: vs)) H := by
  cases N with
  | nil => rw [← hN] at hl; exact absurd hl (Nat.not_lt_zero _)
  | cons x N =>
    have hN' : N.length = nn - 1 := by rw [List.length_cons] at hN; omega
    have R := rel_start s q h N hN' (by omega)
    have e1 : iniS nn ns ds = .scr ns :: ini false (nn - 1) ds := by
      show Sl.scr ns :: (ds.map Sl.dat ++ List.replicate (nn - (ds.length + 1)) .no) = .scr ns :: (ds.map Sl.dat ++ List.replicate (nn - 1 - ds.length) .no)
      rw [show nn - (ds.length + 1) = nn - 1 - ds.length by omega]
    have e2 : L2.start (x :: N) (.ref a :: vs) = some (.ref a) :: L2.start N vs := by
      unfold L2.start
      rw [List.map_cons, List.length_cons, List.length_cons, Nat.add_sub_add_right]
      rfl
    rw [e1, e2]
    refine ⟨s, q, Kp.refl _ _, by rw [List.length_cons, List.length_cons, R.len], fun i sl e => ?_, fun i j p es us e1 e2 q1 q2 => ?_⟩
    · cases i with
      | zero =>
        cases e
        exact ⟨a, rfl, hs⟩
      | succ i => exact R.slt i sl e
    · cases i with
      | zero => cases e1
      | succ i =>
        cases j with
        | zero => cases e2
        | succ j => exact congrArg (· + 1) (R.sep i j p es us e1 e2 q1 q2)
/-- well(script, ..) gives a new list -/
abbrev FMN := List Int → List PyData → Wl → Option (List PyData × Wl)
def SpN (K : PySem.W.Frag) (n : Nat) (m : FMN) : Sp := fun vs H Q _ => ∃ wo F w a ns vs' ds r w', vs = V.ref a :: vs' ∧ (∀ G, Kp wo H G → SqL K G a (ns.map V.int)) ∧ Same F H ∧ Wel wo F H w ∧ DaAll K F vs' ds ∧ ds.length = n ∧ m ns ds w = some (r, w') ∧
  ∀ F' H' p us, Gr H F F' → Kp wo H H' → Same F' H' → Wel wo F' H' w' → H p = none → F' p = none → wo ≠ some p → H' p = some (.lst us) → DaAll K F' us r → Q (.ref p) H'
def mOfN (nn : Nat) (f : FSN) : FMN := fun ns ds w => f (iniS nn ns ds) w
section
variable {K : PySem.W.Frag} {P : Program} {w : World} {base : Heap} {mg : Str → Option Value} {x qual : Str} {st : Stmt} {f : Addr} {fd : FuncData} {N ps : List Str} {k n : Nat}
theorem scope_len {N ps : List Str} {sc : Scope} (S : FnScope N ps sc) : ps.length ≤ N.length := by
  have := congrArg List.length S.pre
  rw [List.length_take] at this
  omega
theorem fnN {fS : FSN} (F : Fun K x qual st f fd) (S : FnScope N ps (defScope st)) (hn : ps.length = n + 1)
    (hbody : ∀ (cdv : Value) (A : Around) (outer : List Env) (s : Shared) (H : Hp) (E : XK), A.guards = some [] → Room k (A.deeper (envOfC qual (defScope st) s.heap.objs.size f cdv)) →
      ∃ t, DR (cxOf CX0 P w K mg base N qual (defScope st) f cdv A outer s H E).nox (defBody st) t fS) : FnG P w K mg base (k + 1) f fd ps (SpN K n (mOfN N.length fS)) := by
  have hpl := scope_len S
  refine fnG_body F S ?_ ?_
  · rintro vs H Q E ⟨wo, F0, w0, a, ns, vs', ds, r, w', rfl, _, _, _, hd, hl, _⟩
    rw [hn, List.length_cons, all_len hd, hl]
  · rintro cdv A outer s H vs Q E hg hr ⟨wo, F0, w0, a, ns, vs', ds, r, w', rfl, hsc, hs, hw, hd, hl, hm, q⟩
    obtain ⟨t, B⟩ := hbody cdv A outer s H E hg hr
    refine ⟨t, B.p, ?_⟩
    have R := rel_startS hs hw hd hsc N rfl (by rw [all_len hd, hl]; omega)
    exact B.q _ _ _ _ _ _ _ R _ _ hm _ fun F' H' p us g k' s' q' n1 n2 n3 hp dd => q F' H' p us g k' s' q' n1 n2 n3 hp dd
/-- a def's promise where it stands, told as one thing -/
def Dn (P : Program) (w : World) (K : PySem.W.Frag) (mg : Str → Option Value) (base : Heap) (k : Nat) (x : Str) (st : Stmt) (ps : List Str) (n : Nat) (m : FMN) : Prop := ∃ f fd, mg x = some (.ref f) ∧ Fun K x x st f fd ∧ FnG P w K mg base k f fd ps (SpN K n m)
/-- the law: a script, no well -/
abbrev FML := List Int → Option PyData
def SpL (K : PySem.W.Frag) (m : FML) : Sp := fun vs H Q _ => ∃ a ns r, vs = [V.ref a] ∧ (∀ G, Kp none H G → SqL K G a (ns.map V.int)) ∧ m ns = some r ∧ ∀ H' F' v, Same F' H' → Da K F' v r → Q v H'
def mOfL (nn : Nat) (f : FS) : FML := fun ns => (f (iniS nn ns []) (0, 0, 0)).bind fun x => match x.1 with
  | .rt d => some d
  | _ => none
theorem fnL {fS : FS} (F : Fun K x qual st f fd) (S : FnScope N ps (defScope st)) (hn : ps.length = 1)
    (hbody : ∀ (cdv : Value) (A : Around) (outer : List Env) (s : Shared) (H : Hp) (E : XK), A.guards = some [] → Room k (A.deeper (envOfC qual (defScope st) s.heap.objs.size f cdv)) →
      ∃ t, DSs (cxOf CX0 P w K mg base N qual (defScope st) f cdv A outer s H E).nox (defBody st) t fS) : FnG P w K mg base (k + 1) f fd ps (SpL K (mOfL N.length fS)) := by
  have hpl := scope_len S
  refine fnG_body F S ?_ ?_
  · rintro vs H Q E ⟨a, ns, r, rfl, _⟩
    rw [hn]
    rfl
  · rintro cdv A outer s H vs Q E hg hr ⟨a, ns, r, rfl, hsc, hm, q⟩
    obtain ⟨t, B⟩ := hbody cdv A outer s H E hg hr
    refine ⟨t, B.p, ?_⟩
    obtain ⟨⟨c, w1⟩, e1, e2⟩ := bind_some hm
    have R := rel_startS (K := K) (wo := none) (F := fun _ => none) (w := (0, 0, 0)) (ds := []) (ns := ns) (fun b o z => by cases z) (fun b z => by cases z) .nil hsc N rfl (by rw [List.length_nil]; omega)
    refine B.q _ _ _ _ _ _ _ R _ _ e1 _ ?_
    cases c with
    | rt d =>
      cases e2
      exact fun F' H' v g' s' q' k' d' => q H' F' v s' d'
    | nx η' => cases e2
    | bk _ => cases e2
    | ct _ => cases e2
def Dl (P : Program) (w : World) (K : PySem.W.Frag) (mg : Str → Option Value) (base : Heap) (k : Nat) (x : Str) (st : Stmt) (ps : List Str) (m : FML) : Prop := ∃ f fd, mg x = some (.ref f) ∧ Fun K x x st f fd ∧ FnG P w K mg base k f fd ps (SpL K m)
end
def wOf : List PyData → Option Wl
  | [.int a, .int b, .int c] => some (a, b, c)
  | _ => none
theorem wOf_some {K : PySem.W.Frag} {F : Hp} {vs : List V} {ds : List PyData} {w : Wl} (h : DaAll K F vs ds) (e : wOf ds = some w) : vs = wV w := by
  unfold wOf at e
  split at e
  · cases e
    cases h with
    | cons x1 t1 =>
    cases t1 with
    | cons x2 t2 =>
    cases t2 with
    | cons x3 t3 =>
    cases t3
    cases x1
    cases x2
    cases x3
    rfl
  · cases e
section
variable {X : Cx} {k k2 n : Nat} {f f2 : Addr} {fd fd2 : FuncData} {ps ps2 : List Str} {x x2 y : Str} {p p2 pos pos2 py : Pos} {e : Expr} {es : List Expr} {t : TA} {m : FM} {mn : FMN} {fs : FA}
/-- judge(well(script, ..)): a new well for one call -/
def fCallWN (i : Nat) (mn : FMN) (n : Nat) (m : FM) (fs : FA) : FE := fun η w => match slAt η i with
  | .scr ns => (fs η w).bind fun y => if y.1.length = n then (mn ns y.1 y.2).bind fun z => (wOf z.1).bind fun w0 => (m [] w0).bind fun r => some (r.1, z.2) else none
  | _ => none
theorem de_callWN {i : Nat} (G : FnG X.prog X.w X.K X.mg X.base k f fd ps (SpD X.K true 0 m)) (G2 : FnG X.prog X.w X.K X.mg X.base k2 f2 fd2 ps2 (SpN X.K n mn)) (gd : X.A.guards = some []) (hr : Room k X.A) (hr2 : Room k2 X.A)
    (hg : Gl X x) (hm : X.mg x = some (.ref f)) (hk : PySem.W.keepIn X.K (.ref f) = true) (hb : Binds X.K fd ps [])
    (hg2 : Gl X x2) (hm2 : X.mg x2 = some (.ref f2)) (hk2 : PySem.W.keepIn X.K (.ref f2) = true) (hb2 : Binds X.K fd2 ps2 []) (hy : PE X (.Name y py) (tVar i)) (ha : DA X es t fs)
    (hdb : (x == ("__debug__" : Str)) = false := by decide) (he : starEach [.Call (.Name x2 p2) (.Name y py :: es) [] pos2] X.env = (false, eval (.Call (.Name x2 p2) (.Name y py :: es) [] pos2) X.env) :: starEach [] X.env := by rfl) (hpl : (backTo pos (starEach [] X.env)).any (·.1) = false := by rfl)
    (hdb2 : (x2 == ("__debug__" : Str)) = false := by decide) (he2 : starEach (.Name y py :: es) X.env = (false, eval (.Name y py) X.env) :: starEach es X.env := by rfl) (hpl2 : (backTo pos2 (starEach es X.env)).any (·.1) = false := by rfl) :
    DE X (.Call (.Name x p) [.Call (.Name x2 p2) (.Name y py :: es) [] pos2] [] pos) (tCallD X.K true 0 m (tCons (fun σ H Q => tCons (tVar i) t σ H fun vs H1 => SpN X.K n mn vs H1 Q E0) tNil)) (fCallWN i mn n m fs) :=
  ⟨pe_callG G gd hr hg hm hk hb (pa_cons (pe_callG G2 gd hr2 hg2 hm2 hk2 hb2 (pa_cons hy ha.p he2) hdb2 he2 hpl2) pa_nil he) hdb he hpl, fun wo H0 F η w σ H R d w' e Q q => by
  obtain ⟨ns, ei, e⟩ := scr_of e
  obtain ⟨b, hb1, hsc⟩ := R.slt i _ ei
  obtain ⟨⟨ds, w1⟩, e1, e⟩ := bind_some e
  have e' : (if ds.length = n then (mn ns ds w1).bind fun z => (wOf z.1).bind fun w0 => (m [] w0).bind fun r => some (r.1, z.2) else none) = some (d, w') := e
  by_cases hl : ds.length = n
  · rw [if_pos hl] at e'
    obtain ⟨⟨r, w2⟩, e2, e'⟩ := bind_some e'
    obtain ⟨w0, e3, e'⟩ := bind_some e'
    obtain ⟨⟨d2', w3⟩, e4, e9⟩ := bind_some e'
    cases e9
    refine ⟨_, hb1, ?_⟩
    refine ha.q _ _ _ _ _ _ _ R _ _ e1 _ fun F1 H1 vs g1 k1 R1 d1 => ?_
    refine ⟨wo, F1, w1, b, ns, vs, ds, r, _, rfl, fun G kG => hsc G (R1.ent.trans kG), R1.sub, R1.wel, d1, hl, e2, fun F2 H2 a us g2 k2 s2 q2 n1 n2 n3 hp d2 => ?_⟩
    have eu := wOf_some d2 e3
    refine ⟨some a, F2, w0, [], [], d2', w3, ⟨a, rfl, rfl⟩, s2, fun b hb => by cases hb; exact ⟨n2, by rw [hp, eu]⟩, .nil, rfl, e4, fun F3 H3 v g3 k3 s3 q3 dv => ?_⟩
    have ne : ∀ b, wo = some b → a ≠ b := fun b hb z => n3 (by rw [z]; exact hb)
    have k13 : Kp wo H1 H3 := fun b o nb hb => k3 b o (fun z => by
      cases z
      rw [n1] at hb
      cases hb) (k2 b o nb hb)
    have g13 : Gr H1 F1 F3 := g2.trans g3 k2 q2
    refine q F3 H3 v (g1.trans g13 k1 R1.wel) (k1.trans k13) (R1.step g13 k13 s3 fun b hb => ?_) dv
    obtain ⟨y1, y2⟩ := q2 b hb
    exact ⟨g3.nw b y1 (by rw [y2]; exact fun z => nomatch z), k3 b _ (fun z => ne b hb (Option.some.inj z)) y2⟩
  · rw [if_neg hl] at e'
    cases e'⟩
end
end DL
namespace DL
open L2 PySem PySem.Spec PyProof.Rows

/-! ### the end of a law that is told by data -/
/-- at most one address is known -/
def oneH (a : Addr) (u : Option HO) : Hp := fun b => if b = a then u else none
theorem oneH_same {a : Addr} {u : Option HO} : oneH a u a = u := if_pos rfl
theorem oneH_some {a b : Addr} {u : Option HO} {o : HO} (h : oneH a u b = some o) : b = a ∧ u = some o := by
  by_cases e : b = a
  · subst e
    exact ⟨rfl, oneH_same.symm.trans h⟩
  · have h' : (if b = a then u else none) = some o := h
    rw [if_neg e] at h'
    cases h'
/-- how the script is known: not, where it is an object of the module -/
def scrU (K : PySem.W.Frag) (a : Addr) (vs : List Value) (ns : List Int) : Option HO := match K.lookup a with
  | some _ => none
  | none => some (.frz { cls := .type "list", data := .seq vs.toArray } (.lst (ns.map V.int)))
theorem scrU_some {K : PySem.W.Frag} {a : Addr} {vs : List Value} {ns : List Int} {o : HO} (h : scrU K a vs ns = some o) : K.lookup a = none ∧ o = .frz { cls := .type "list", data := .seq vs.toArray } (.lst (ns.map V.int)) := by
  unfold scrU at h
  cases e : K.lookup a with
  | some x => rw [e] at h; cases h
  | none => rw [e] at h; cases h; exact ⟨rfl, rfl⟩
theorem law_callG {P : Program} {w : World} {K : PySem.W.Frag} {mg mb : Str → Option Value} {k : Nat} {fa a : Addr} {fd : FuncData} {x : Str} {m : FML} {s₁ : Shared} {vs : List Value} {ns : List Int}
    (KX : K.In s₁.heap) (hns : s₁.heap.Ns mainGlobals mg) (hb : s₁.heap.Ns builtinsNs mb) (hbb : ∀ y : Str, y ≠ "__name__" → mb y = bootBuiltins y) (hlim : s₁.heap.NoLimit) (hg : s₁.gens = #[])
    (ha : s₁.heap.get? a = some { cls := .type "list", data := .seq vs.toArray }) (hi : IntsAre vs ns) (hl : ns.length ≤ sizeLine) (hr : Room k callerA) (hbind : ∀ (s : Shared) (u : Value), BindsTo s fd ⟨[u], []⟩ [(x, u)])
    (F : ∀ base : Heap, K.In base → base.Ns mainGlobals mg → FnG P w K mg base k fa fd [x] (SpL K m)) (hm : m ns = some (.bool true)) :
    codeAny (model P w) callerA (.call (.ref fa) ⟨[.ref a], []⟩)
      (fun r s' => r = .ok (.ret (.bool true)) ∧ OldK s₁.heap s'.heap ∧ s'.os = s₁.os ∧ AllBare s'.gens) s₁ := by
  have rv : Vals (ns.map V.int) vs := vals_ints hi
  generalize hH : oneH a (scrU K a vs ns) = H
  have known : ∀ {b : Addr} {o : HO}, H b = some o → b = a ∧ K.lookup a = none ∧ o = .frz { cls := .type "list", data := .seq vs.toArray } (.lst (ns.map V.int)) := fun z => by
    rw [← hH] at z
    exact ⟨(oneH_some z).1, scrU_some (oneH_some z).2⟩
  -- what is a dict, or of the module, is not known
  have hid : ∀ {b : Addr}, (b = a → K.lookup a = none → False) → H b = none := fun {b} n => by
    cases z : H b with
    | none => rfl
    | some o => exact (n (known z).1 (known z).2.1).elim
  have ns_of : ∀ {b : Addr} {g : Str → Option Value}, s₁.heap.Ns b g → (hidT s₁.heap H).Ns b g := fun {b g} N => by
    obtain ⟨o, es, ep, e, d, r⟩ := N
    refine ⟨o, es, ep, hidT_get e (hid fun z _ => ?_), d, r⟩
    subst z
    rw [ha] at e
    cases e
    cases d
  have kin : K.In (hidT s₁.heap H) := fun b o e => hidT_get (KX b o e) (hid fun z y => by
    subst z
    rw [y] at e
    cases e)
  have ok : HOk P w H s₁.heap := fun b o z => by
    obtain ⟨rfl, _, rfl⟩ := known z
    exact ⟨ha, (List.length_map V.int).symm ▸ hl, vs, _, rv, ha⟩
  have scr : ∀ G, Kp none H G → SqL K G a (ns.map V.int) := fun G kG => by
    cases z : K.lookup a with
    | none =>
      have e : H a = some (.frz { cls := .type "list", data := .seq vs.toArray } (.lst (ns.map V.int))) := by
        rw [← hH, oneH_same]
        unfold scrU
        rw [z]
      exact .inl (.inr ⟨_, kG a _ (fun q => nomatch q) e⟩)
    | some o =>
      have e := KX a o z
      rw [ha] at e
      cases e
      exact .inr ⟨_, vs.toArray, _, z, rfl, rfl, rfl, by rw [List.size_toArray, hi.length]; exact hl, by simpa using rv⟩
  have lim : (hidT s₁.heap H).NoLimit := by
    obtain ⟨mc, h1, h2⟩ := hlim
    exact ⟨mc, ns_of h1, h2⟩
  have env : Env0 P w K mg (hidT s₁.heap H) callerA [] s₁ H :=
    ⟨rfl, ⟨kin, ns_of hns, ⟨mb, ns_of hb, hbb⟩, lim⟩, fun b o e => of_hidT e, Nat.le_of_eq (hidT_size _ _), trivial, fun b (q : b ∈ []) => (nomatch q), ok, .of_eq hg⟩
  have run := (F _ kin (ns_of hns)).run callerA [] s₁ H ⟨[.ref a], []⟩ [.ref a] [.ref a] (fun v _ => v = .bl true) E0 rfl hr env (hbind s₁ _) (.cons rfl .nil) ⟨a, ns, _, rfl, scr, hm, fun _ _ _ _ d => by cases d; rfl⟩
  refine codeAny_mono run fun r s' z => ?_
  match r, z with
  | .ok (.ret u), ⟨v, H', os, bare, un, ok', ru, q⟩ =>
    cases (show v = .bl true from q)
    cases (show u = Value.bool true from ru)
    refine ⟨rfl, .of_keep fun b o e => ?_, os, bare⟩
    cases y : H b with
    | none => exact un.keep b o e y (by exact fun z => (nomatch z)) (by exact fun z => (nomatch z))
    | some t =>
      obtain ⟨rfl, _, rfl⟩ := known y
      have e2 := (ok' _ _ (un.frzs _ _ _ y)).1
      rw [ha] at e
      cases e
      exact e2
  | .ok .next, z => exact z.elim
  | .ok .brk, z => exact z.elim
  | .ok .cont, z => exact z.elim
  | .error _, z => exact z.elim
/-- what k_head leaves, from the promise of the law's def -/
theorem walk_ofG {l : PySem.W.OpenLaw} {n k : Nat} {q : Program} {loose : List Str} {XP : (Str → Option Value) → Heap → Prop} {YP : World → Heap → Prop} {d : DefRec} {K : Params → PySem.W.Frag} {x : Str} {m : FML}
    (hn : l.most = some n) (hn2 : n ≤ sizeLine) (hdf : d.params.defaults = []) (hY : ∀ (w : World) (h : Heap), YP w h → (K w.params).In h) (hr : Room k callerA)
    (F : ∀ (w : World) (mg : Str → Option Value) (fa : Addr) (h : Heap), (K w.params).In h → h.Ns mainGlobals mg → mg d.name = some (.ref fa) → ∃ fd : FuncData, (∀ (s : Shared) (u : Value), BindsTo s fd ⟨[u], []⟩ [(x, u)]) ∧ ∀ base : Heap, (K w.params).In base → base.Ns mainGlobals mg → FnG l.prog w (K w.params) mg base k fa fd [x] (SpL (K w.params) m))
    (hm : ∀ ns : List Int, ns.length ≤ n → m ns = some (.bool true)) : PySem.W.WalkO q loose XP YP l.row.toRowW d [] (fun f vs => PySem.call f vs) := by
  refine Att.attach_call hn hdf fun w _ s₁ mg mb fa _ _ _ _ a vs ns G Y _ _ _ hmg hobj hints hlen hg => ?_
  obtain ⟨fd, hb, hF⟩ := F w mg fa s₁.heap (hY w _ Y) G.T.g hmg
  exact law_callG (hY w _ Y) G.T.g G.T.b G.T.builtins G.T.nolimit hg hobj hints (Nat.le_trans hlen hn2) hr hb hF (hm ns hlen)
/-! ### a tuple of numbers of the module -/
def isInts : List Int → List Value → Bool
  | [], [] => true
  | n :: ns, .int i _ :: vs => decide (n = i) && isInts ns vs
  | _, _ => false
theorem vals_isInts : ∀ {ns : List Int} {vs : List Value}, isInts ns vs = true → Vals (ns.map V.int) vs
  | [], [], _ => .nil
  | n :: ns, v :: vs, h => by
    unfold isInts at h
    split at h
    · next h1 h2 => cases h1
    · next i t h1 h2 =>
      cases h1
      cases h2
      obtain ⟨x1, x2⟩ := Bool.and_eq_true_iff.mp h
      cases of_decide_eq_true x1
      exact .cons ⟨_, rfl⟩ (vals_isInts x2)
    · cases h
  | [], _ :: _, h => by cases h
  | _ :: _, [], h => by cases h
theorem da_kints {K : PySem.W.Frag} {a : Addr} {od : Option Addr} {its : Array Value} {n : Nat} {sl : Array (Option Value)} (ns : List Int) (hl : K.lookup a = some ⟨.type "tuple", od, .seq its n, sl⟩) (hz : decide (its.size ≤ sizeLine) = true) (hv : isInts ns its.toList = true) (F : Hp) :
    Da K F (.ref a) (.tuple (ns.map PyData.int)) := .tup (.inr ⟨_, its, n, hl, rfl, rfl, of_decide_eq_true hz, vals_isInts hv⟩) (all_ints ns)
end DL
namespace P11
open PySem PySem.Spec PyProof.Rows L2 DL
def topS (i : Nat) : Stmt := PySem.Challenge.pw_lettermend_k11_whole_bound_and_what_reac.main.body.getD i (.Pass ⟨0, 0, 0, 0⟩)
section
def c_PRIMES_d : PyData := .tuple [.int 11, .int 13, .int 17, .int 19, .int 23, .int 29, .int 31, .int 37, .int 41, .int 43, .int 47, .int 53, .int 59, .int 61, .int 67, .int 71, .int 73, .int 79, .int 83, .int 89, .int 97]
/-! is_whole -/
abbrev s_is_whole : Stmt := topS 6
theorem b_is_whole {K : PySem.W.Frag} {f : Addr} {fd : FuncData} (F : Fun K "is_whole" "is_whole" s_is_whole f fd) : Binds K fd (["value"] : List Str) [] := F.binds fun _ _ _ _ _ _ us hl => match us, hl with | [_], _ => rfl
theorem sc_is_whole : FnScope ["value"] ["value"] (defScope s_is_whole) := ⟨rfl, rfl, rfl, by decide +kernel, rfl, by decide +kernel, by decide +kernel⟩
def f_is_whole : FS := (fRet (fAndV (fIsi isInt (fVar 0)) (fNotV (fIsi isBool (fVar 0)))))
def m_is_whole : FM := mOf false 1 f_is_whole
theorem ok_is_whole {P : Program} {w : World} {K : PySem.W.Frag} {mg : Str → Option Value} {base : Heap} {f : Addr} {fd : FuncData} (m_isinstance : mg "isinstance" = none) (m_int : mg "int" = none) (m_bool : mg "bool" = none)
    (hm : mg "is_whole" = some (.ref f)) (F : Fun K "is_whole" "is_whole" s_is_whole f fd) : Df P w K mg base 1 "is_whole" s_is_whole ["value"] false 1 m_is_whole := by
  refine ⟨f, fd, hm, F, ?_⟩
  refine fnD (k := 0) (n := 1) (wl := false) (N := ["value"]) (fS := f_is_whole) F sc_is_whole rfl ?_
  intro cdv A outer s H E gd hr
  exact ⟨_, (dss_one (ds_ret (de_and (de_isi (de_var 0) (pe_bltn (by rfl) m_int bt_int rfl) ki_int (by rfl) m_isinstance bl_isinstance) (de_one (de_not (de_isi (de_var 0) (pe_bltn (by rfl) m_bool bt_bool rfl) ki_bool (by rfl) m_isinstance bl_isinstance))))))⟩
/-! is_within -/
abbrev s_is_within : Stmt := topS 7
theorem b_is_within {K : PySem.W.Frag} {f : Addr} {fd : FuncData} (F : Fun K "is_within" "is_within" s_is_within f fd) : Binds K fd (["value", "least", "most"] : List Str) [] := F.binds fun _ _ _ _ _ _ us hl => match us, hl with | [_, _, _], _ => rfl
theorem sc_is_within : FnScope ["value", "least", "most"] ["value", "least", "most"] (defScope s_is_within) := ⟨rfl, rfl, rfl, by decide +kernel, rfl, by decide +kernel, by decide +kernel⟩
def f_is_within : FS := (fRet (fAndV (fCall m_is_whole 1 (fCons (fVar 0) fNil)) (f3 gLe gLe (fVar 1) (fVar 0) (fVar 2))))
def m_is_within : FM := mOf false 3 f_is_within
theorem ok_is_within {P : Program} {w : World} {K : PySem.W.Frag} {mg : Str → Option Value} {base : Heap} {f : Addr} {fd : FuncData} (D_is_whole : Df P w K mg base 1 "is_whole" s_is_whole ["value"] false 1 m_is_whole)
    (hm : mg "is_within" = some (.ref f)) (F : Fun K "is_within" "is_within" s_is_within f fd) : Df P w K mg base 2 "is_within" s_is_within ["value", "least", "most"] false 3 m_is_within := by
  obtain ⟨a_is_whole, d_is_whole, g_is_whole, F_is_whole, G_is_whole⟩ := D_is_whole
  refine ⟨f, fd, hm, F, ?_⟩
  refine fnD (k := 1) (n := 3) (wl := false) (N := ["value", "least", "most"]) (fS := f_is_within) F sc_is_within rfl ?_
  intro cdv A outer s H E gd hr
  exact ⟨_, (dss_one (ds_ret (de_and (de_call G_is_whole gd (hr.mono (by decide)) (by rfl) g_is_whole F_is_whole.kp (b_is_whole F_is_whole) (da_cons (de_var 0) da_nil)) (de_one (de_chain op_le rd_le op_le rd_le (de_var 1) (de_var 0) (de_var 2))))))⟩
/-! is_tuple_of -/
abbrev s_is_tuple_of : Stmt := topS 8
theorem b_is_tuple_of {K : PySem.W.Frag} {f : Addr} {fd : FuncData} (F : Fun K "is_tuple_of" "is_tuple_of" s_is_tuple_of f fd) : Binds K fd (["value", "many"] : List Str) [] := F.binds fun _ _ _ _ _ _ us hl => match us, hl with | [_, _], _ => rfl
theorem sc_is_tuple_of : FnScope ["value", "many"] ["value", "many"] (defScope s_is_tuple_of) := ⟨rfl, rfl, rfl, by decide +kernel, rfl, by decide +kernel, by decide +kernel⟩
def f_is_tuple_of : FS := (fRet (fAndV (fIsi isTuple (fVar 0)) (f2 gEq (fLen (fQ (fVar 0))) (fVar 1))))
def m_is_tuple_of : FM := mOf false 2 f_is_tuple_of
theorem ok_is_tuple_of {P : Program} {w : World} {K : PySem.W.Frag} {mg : Str → Option Value} {base : Heap} {f : Addr} {fd : FuncData} (m_isinstance : mg "isinstance" = none) (m_tuple : mg "tuple" = none) (m_len : mg "len" = none)
    (hm : mg "is_tuple_of" = some (.ref f)) (F : Fun K "is_tuple_of" "is_tuple_of" s_is_tuple_of f fd) : Df P w K mg base 1 "is_tuple_of" s_is_tuple_of ["value", "many"] false 2 m_is_tuple_of := by
  refine ⟨f, fd, hm, F, ?_⟩
  refine fnD (k := 0) (n := 2) (wl := false) (N := ["value", "many"]) (fS := f_is_tuple_of) F sc_is_tuple_of rfl ?_
  intro cdv A outer s H E gd hr
  exact ⟨_, (dss_one (ds_ret (de_and (de_isi (de_var 0) (pe_bltn (by rfl) m_tuple bt_tuple rfl) ki_tuple (by rfl) m_isinstance bl_isinstance) (de_one (de_cmp (op_eqD hr.units) rd_eq (de_len (dq_e (de_var 0)) (by rfl) m_len bl_len) (de_var 1) (nomark _))))))⟩
/-! is_prime -/
abbrev s_is_prime : Stmt := topS 9
theorem b_is_prime {K : PySem.W.Frag} {f : Addr} {fd : FuncData} (F : Fun K "is_prime" "is_prime" s_is_prime f fd) : Binds K fd (["value"] : List Str) [] := F.binds fun _ _ _ _ _ _ us hl => match us, hl with | [_], _ => rfl
theorem sc_is_prime : FnScope ["value"] ["value"] (defScope s_is_prime) := ⟨rfl, rfl, rfl, by decide +kernel, rfl, by decide +kernel, by decide +kernel⟩
def f_is_prime : FS := (fRet (fAndV (fCall m_is_whole 1 (fCons (fVar 0) fNil)) (fIn false (fVar 0) (fQ (fC c_PRIMES_d)))))
def m_is_prime : FM := mOf false 1 f_is_prime
theorem ok_is_prime {P : Program} {w : World} {K : PySem.W.Frag} {mg : Str → Option Value} {base : Heap} {f : Addr} {fd : FuncData} {a_PRIMES : Addr} (g_PRIMES : mg "PRIMES" = some (.ref a_PRIMES)) (c_PRIMES : ∀ F, Da K F (.ref a_PRIMES) c_PRIMES_d) (D_is_whole : Df P w K mg base 1 "is_whole" s_is_whole ["value"] false 1 m_is_whole)
    (hm : mg "is_prime" = some (.ref f)) (F : Fun K "is_prime" "is_prime" s_is_prime f fd) : Df P w K mg base 2 "is_prime" s_is_prime ["value"] false 1 m_is_prime := by
  obtain ⟨a_is_whole, d_is_whole, g_is_whole, F_is_whole, G_is_whole⟩ := D_is_whole
  refine ⟨f, fd, hm, F, ?_⟩
  refine fnD (k := 1) (n := 1) (wl := false) (N := ["value"]) (fS := f_is_prime) F sc_is_prime rfl ?_
  intro cdv A outer s H E gd hr
  exact ⟨_, (dss_one (ds_ret (de_and (de_call G_is_whole gd (hr.mono (by decide)) (by rfl) g_is_whole F_is_whole.kp (b_is_whole F_is_whole) (da_cons (de_var 0) da_nil)) (de_one (de_in (de_var 0) (dq_e (de_c (pe_glob (v := .ref a_PRIMES) (by rfl) g_PRIMES rfl) c_PRIMES)) (by rfl))))))⟩
/-! check_within -/
abbrev s_check_within : Stmt := topS 10
theorem b_check_within {K : PySem.W.Frag} {f : Addr} {fd : FuncData} (F : Fun K "check_within" "check_within" s_check_within f fd) : Binds K fd (["value", "least", "most"] : List Str) [] := F.binds fun _ _ _ _ _ _ us hl => match us, hl with | [_, _, _], _ => rfl
theorem sc_check_within : FnScope ["value", "least", "most"] ["value", "least", "most"] (defScope s_check_within) := ⟨rfl, rfl, rfl, by decide +kernel, rfl, by decide +kernel, by decide +kernel⟩
def f_check_within : FS := (fIfS (fNot (fB (fCall m_is_within 3 (fCons (fVar 0) (fCons (fVar 1) (fCons (fVar 2) fNil))))))
  fNever
  fNext)
def m_check_within : FM := mOf false 3 f_check_within
theorem ok_check_within {P : Program} {w : World} {K : PySem.W.Frag} {mg : Str → Option Value} {base : Heap} {f : Addr} {fd : FuncData} (D_is_within : Df P w K mg base 2 "is_within" s_is_within ["value", "least", "most"] false 3 m_is_within)
    (hm : mg "check_within" = some (.ref f)) (F : Fun K "check_within" "check_within" s_check_within f fd) : Df P w K mg base 3 "check_within" s_check_within ["value", "least", "most"] false 3 m_check_within := by
  obtain ⟨a_is_within, d_is_within, g_is_within, F_is_within, G_is_within⟩ := D_is_within
  refine ⟨f, fd, hm, F, ?_⟩
  refine fnD (k := 2) (n := 3) (wl := false) (N := ["value", "least", "most"]) (fS := f_check_within) F sc_check_within rfl ?_
  intro cdv A outer s H E gd hr
  exact ⟨_, (dss_one (ds_if (dt_not (dt_val (de_call G_is_within gd (hr.mono (by decide)) (by rfl) g_is_within F_is_within.kp (b_is_within F_is_within) (da_cons (de_var 0) (da_cons (de_var 1) (da_cons (de_var 2) da_nil))))))
    (dss_one ds_never)
    dss_nil))⟩
/-! check_helpers -/
abbrev s_check_helpers : Stmt := topS 12
theorem b_check_helpers {K : PySem.W.Frag} {f : Addr} {fd : FuncData} (F : Fun K "check_helpers" "check_helpers" s_check_helpers f fd) : Binds K fd (["parts", "helpers"] : List Str) [] := F.binds fun _ _ _ _ _ _ us hl => match us, hl with | [_, _], _ => rfl
theorem sc_check_helpers : FnScope ["parts", "helpers"] ["parts", "helpers"] (defScope s_check_helpers) := ⟨rfl, rfl, rfl, by decide +kernel, rfl, by decide +kernel, by decide +kernel⟩
def f_check_helpers : FS := (fSeq (fDrop (fCall m_check_within 3 (fCons (fVar 0) (fCons (fC (.int 1)) (fCons (fC (.int 12)) fNil)))))
  (fDrop (fCall m_check_within 3 (fCons (fVar 1) (fCons (fVar 0) (fCons (fC (.int 12)) fNil))))))
def m_check_helpers : FM := mOf false 2 f_check_helpers
theorem ok_check_helpers {P : Program} {w : World} {K : PySem.W.Frag} {mg : Str → Option Value} {base : Heap} {f : Addr} {fd : FuncData} (D_check_within : Df P w K mg base 3 "check_within" s_check_within ["value", "least", "most"] false 3 m_check_within)
    (hm : mg "check_helpers" = some (.ref f)) (F : Fun K "check_helpers" "check_helpers" s_check_helpers f fd) : Df P w K mg base 4 "check_helpers" s_check_helpers ["parts", "helpers"] false 2 m_check_helpers := by
  obtain ⟨a_check_within, d_check_within, g_check_within, F_check_within, G_check_within⟩ := D_check_within
  refine ⟨f, fd, hm, F, ?_⟩
  refine fnD (k := 3) (n := 2) (wl := false) (N := ["parts", "helpers"]) (fS := f_check_helpers) F sc_check_helpers rfl ?_
  intro cdv A outer s H E gd hr
  exact ⟨_, (dss_cons (ds_expr (de_call G_check_within gd (hr.mono (by decide)) (by rfl) g_check_within F_check_within.kp (b_check_within F_check_within) (da_cons (de_var 0) (da_cons de_int (da_cons de_int da_nil)))))
    (dss_one (ds_expr (de_call G_check_within gd (hr.mono (by decide)) (by rfl) g_check_within F_check_within.kp (b_check_within F_check_within) (da_cons (de_var 1) (da_cons (de_var 0) (da_cons de_int da_nil)))))))⟩
/-! numbers_held -/
abbrev s_numbers_held : Stmt := topS 13
theorem b_numbers_held {K : PySem.W.Frag} {f : Addr} {fd : FuncData} (F : Fun K "numbers_held" "numbers_held" s_numbers_held f fd) : Binds K fd (["parts", "helpers", "room", "letters"] : List Str) [] := F.binds fun _ _ _ _ _ _ us hl => match us, hl with | [_, _, _, _], _ => rfl
theorem sc_numbers_held : FnScope ["parts", "helpers", "room", "letters", "ahead"] ["parts", "helpers", "room", "letters"] (defScope s_numbers_held) := ⟨rfl, rfl, rfl, by decide +kernel, rfl, by decide +kernel, by decide +kernel⟩
def f_numbers_held : FS := (fRet (fSum (fQN (fComp (fRng1 (fVar 0)) (kName 4) fYes (fBlt gMin2 (fCons (fVar 2) (fCons (f2 gMul (f2 gSubt (fVar 1) (fVar 4)) (fVar 3)) fNil))) [4]))))
def m_numbers_held : FM := mOf false 5 f_numbers_held
theorem ok_numbers_held {P : Program} {w : World} {K : PySem.W.Frag} {mg : Str → Option Value} {base : Heap} {f : Addr} {fd : FuncData} (m_sum : mg "sum" = none) (m_range : mg "range" = none) (m_min : mg "min" = none)
    (hm : mg "numbers_held" = some (.ref f)) (F : Fun K "numbers_held" "numbers_held" s_numbers_held f fd) : Df P w K mg base 1 "numbers_held" s_numbers_held ["parts", "helpers", "room", "letters"] false 4 m_numbers_held := by
  refine ⟨f, fd, hm, F, ?_⟩
  refine fnD (k := 0) (n := 4) (wl := false) (N := ["parts", "helpers", "room", "letters", "ahead"]) (fS := f_numbers_held) F sc_numbers_held rfl ?_
  intro cdv A outer s H E gd hr
  exact ⟨_, (dss_one (ds_ret (de_sum rfl (dq_n (dn_comp (own := [("ahead", 4)]) rfl sc_numbers_held.nd (di_range1 (de_var 0) (by rfl) m_range) (blkOk_by (N := ["parts", "helpers", "room", "letters", "ahead"]) (sc := defScope s_numbers_held) (own := [("ahead", 4)]) (by decide +kernel)) (fun _ _ _ _ _ => (dg_name (i := 4) sc_numbers_held.nd rfl (by first | exact Or.inl rfl | exact Or.inr rfl))) (fun _ _ _ _ _ => dts_nil) (fun _ _ _ _ _ => (de_blt (call_min2 rfl) rc_min2 (da_cons (de_var 2) (da_cons (de_bin op_mul rd_mul (de_bin op_sub rd_sub (de_var 1) (de_var 4)) (de_var 3)) da_nil)) (by rfl) m_min bl_min)))) (by rfl) m_sum bl_sum)))⟩
/-! most_numbers -/
abbrev s_most_numbers : Stmt := topS 14
theorem b_most_numbers {K : PySem.W.Frag} {f : Addr} {fd : FuncData} (F : Fun K "most_numbers" "most_numbers" s_most_numbers f fd) : Binds K fd (["parts", "helpers", "room", "letters"] : List Str) [] := F.binds fun _ _ _ _ _ _ us hl => match us, hl with | [_, _, _, _], _ => rfl
theorem sc_most_numbers : FnScope ["parts", "helpers", "room", "letters"] ["parts", "helpers", "room", "letters"] (defScope s_most_numbers) := ⟨rfl, rfl, rfl, by decide +kernel, rfl, by decide +kernel, by decide +kernel⟩
def f_most_numbers : FS := (fSeq (fDrop (fCall m_check_helpers 2 (fCons (fVar 0) (fCons (fVar 1) fNil))))
  (fSeq (fDrop (fCall m_check_within 3 (fCons (fVar 2) (fCons (fC (.int 1)) (fCons (fC (.int 1000)) fNil)))))
  (fSeq (fDrop (fCall m_check_within 3 (fCons (fVar 3) (fCons (fC (.int 1)) (fCons (fC (.int 1000)) fNil)))))
  (fRet (fCall m_numbers_held 4 (fCons (fVar 0) (fCons (fVar 1) (fCons (fVar 2) (fCons (fVar 3) fNil)))))))))
def m_most_numbers : FM := mOf false 4 f_most_numbers
theorem ok_most_numbers {P : Program} {w : World} {K : PySem.W.Frag} {mg : Str → Option Value} {base : Heap} {f : Addr} {fd : FuncData} (D_check_helpers : Df P w K mg base 4 "check_helpers" s_check_helpers ["parts", "helpers"] false 2 m_check_helpers) (D_check_within : Df P w K mg base 3 "check_within" s_check_within ["value", "least", "most"] false 3 m_check_within) (D_numbers_held : Df P w K mg base 1 "numbers_held" s_numbers_held ["parts", "helpers", "room", "letters"] false 4 m_numbers_held)
    (hm : mg "most_numbers" = some (.ref f)) (F : Fun K "most_numbers" "most_numbers" s_most_numbers f fd) : Df P w K mg base 5 "most_numbers" s_most_numbers ["parts", "helpers", "room", "letters"] false 4 m_most_numbers := by
  obtain ⟨a_check_helpers, d_check_helpers, g_check_helpers, F_check_helpers, G_check_helpers⟩ := D_check_helpers
  obtain ⟨a_check_within, d_check_within, g_check_within, F_check_within, G_check_within⟩ := D_check_within
  obtain ⟨a_numbers_held, d_numbers_held, g_numbers_held, F_numbers_held, G_numbers_held⟩ := D_numbers_held
  refine ⟨f, fd, hm, F, ?_⟩
  refine fnD (k := 4) (n := 4) (wl := false) (N := ["parts", "helpers", "room", "letters"]) (fS := f_most_numbers) F sc_most_numbers rfl ?_
  intro cdv A outer s H E gd hr
  exact ⟨_, (dss_cons (ds_expr (de_call G_check_helpers gd (hr.mono (by decide)) (by rfl) g_check_helpers F_check_helpers.kp (b_check_helpers F_check_helpers) (da_cons (de_var 0) (da_cons (de_var 1) da_nil))))
    (dss_cons (ds_expr (de_call G_check_within gd (hr.mono (by decide)) (by rfl) g_check_within F_check_within.kp (b_check_within F_check_within) (da_cons (de_var 2) (da_cons de_int (da_cons de_int da_nil)))))
    (dss_cons (ds_expr (de_call G_check_within gd (hr.mono (by decide)) (by rfl) g_check_within F_check_within.kp (b_check_within F_check_within) (da_cons (de_var 3) (da_cons de_int (da_cons de_int da_nil)))))
    (dss_one (ds_ret (de_call G_numbers_held gd (hr.mono (by decide)) (by rfl) g_numbers_held F_numbers_held.kp (b_numbers_held F_numbers_held) (da_cons (de_var 0) (da_cons (de_var 1) (da_cons (de_var 2) (da_cons (de_var 3) da_nil))))))))))⟩
/-! least_room -/
abbrev s_least_room : Stmt := topS 15
theorem b_least_room {K : PySem.W.Frag} {f : Addr} {fd : FuncData} (F : Fun K "least_room" "least_room" s_least_room f fd) : Binds K fd (["size", "parts", "helpers", "letters"] : List Str) [] := F.binds fun _ _ _ _ _ _ us hl => match us, hl with | [_, _, _, _], _ => rfl
theorem sc_least_room : FnScope ["size", "parts", "helpers", "letters", "room"] ["size", "parts", "helpers", "letters"] (defScope s_least_room) := ⟨rfl, rfl, rfl, by decide +kernel, rfl, by decide +kernel, by decide +kernel⟩
def f_least_room : FS := (fSeq (fDrop (fCall m_check_within 3 (fCons (fVar 0) (fCons (fC (.int 1)) (fCons (fC (.int 1000)) fNil)))))
  (fSeq (fDrop (fCall m_check_helpers 2 (fCons (fVar 1) (fCons (fVar 2) fNil))))
  (fSeq (fDrop (fCall m_check_within 3 (fCons (fVar 3) (fCons (fC (.int 1)) (fCons (fC (.int 1000)) fNil)))))
  (fSeq (fFor (fRng2 (fC (.int 1)) (f2 gAdd (fVar 0) (fC (.int 1)))) (kName 4)
  (fIfS (fB (f2 gGe (fCall m_numbers_held 4 (fCons (fVar 1) (fCons (fVar 2) (fCons (fVar 4) (fCons (fVar 3) fNil))))) (fVar 0)))
  (fRet (fVar 4))
  fNext))
  (fRet (fC .none))))))
def m_least_room : FM := mOf false 5 f_least_room
theorem ok_least_room {P : Program} {w : World} {K : PySem.W.Frag} {mg : Str → Option Value} {base : Heap} {f : Addr} {fd : FuncData} (m_range : mg "range" = none) (D_check_within : Df P w K mg base 3 "check_within" s_check_within ["value", "least", "most"] false 3 m_check_within) (D_check_helpers : Df P w K mg base 4 "check_helpers" s_check_helpers ["parts", "helpers"] false 2 m_check_helpers) (D_numbers_held : Df P w K mg base 1 "numbers_held" s_numbers_held ["parts", "helpers", "room", "letters"] false 4 m_numbers_held)
    (hm : mg "least_room" = some (.ref f)) (F : Fun K "least_room" "least_room" s_least_room f fd) : Df P w K mg base 5 "least_room" s_least_room ["size", "parts", "helpers", "letters"] false 4 m_least_room := by
  obtain ⟨a_check_within, d_check_within, g_check_within, F_check_within, G_check_within⟩ := D_check_within
  obtain ⟨a_check_helpers, d_check_helpers, g_check_helpers, F_check_helpers, G_check_helpers⟩ := D_check_helpers
  obtain ⟨a_numbers_held, d_numbers_held, g_numbers_held, F_numbers_held, G_numbers_held⟩ := D_numbers_held
  refine ⟨f, fd, hm, F, ?_⟩
  refine fnD (k := 4) (n := 4) (wl := false) (N := ["size", "parts", "helpers", "letters", "room"]) (fS := f_least_room) F sc_least_room rfl ?_
  intro cdv A outer s H E gd hr
  exact ⟨_, (dss_cons (ds_expr (de_call G_check_within gd (hr.mono (by decide)) (by rfl) g_check_within F_check_within.kp (b_check_within F_check_within) (da_cons (de_var 0) (da_cons de_int (da_cons de_int da_nil)))))
    (dss_cons (ds_expr (de_call G_check_helpers gd (hr.mono (by decide)) (by rfl) g_check_helpers F_check_helpers.kp (b_check_helpers F_check_helpers) (da_cons (de_var 1) (da_cons (de_var 2) da_nil))))
    (dss_cons (ds_expr (de_call G_check_within gd (hr.mono (by decide)) (by rfl) g_check_within F_check_within.kp (b_check_within F_check_within) (da_cons (de_var 3) (da_cons de_int (da_cons de_int da_nil)))))
    (dss_cons (ds_for PassesOwn.never rfl (di_range2 de_int (de_bin op_add rd_add (de_var 0) de_int) (by rfl) m_range) (dg_name (i := 4) sc_least_room.nd rfl (by first | exact Or.inl rfl | exact Or.inr rfl))
    (dss_one (ds_if (dt_cmp op_ge rd_ge (de_call G_numbers_held gd (hr.mono (by decide)) (by rfl) g_numbers_held F_numbers_held.kp (b_numbers_held F_numbers_held) (da_cons (de_var 1) (da_cons (de_var 2) (da_cons (de_var 4) (da_cons (de_var 3) da_nil))))) (de_var 0) (nomark _))
    (dss_one (ds_ret (de_var 4)))
    dss_nil)))
    (dss_one (ds_ret de_non))))))⟩
/-! least_letters -/
abbrev s_least_letters : Stmt := topS 16
theorem b_least_letters {K : PySem.W.Frag} {f : Addr} {fd : FuncData} (F : Fun K "least_letters" "least_letters" s_least_letters f fd) : Binds K fd (["size", "parts", "helpers", "room"] : List Str) [] := F.binds fun _ _ _ _ _ _ us hl => match us, hl with | [_, _, _, _], _ => rfl
theorem sc_least_letters : FnScope ["size", "parts", "helpers", "room", "letters"] ["size", "parts", "helpers", "room"] (defScope s_least_letters) := ⟨rfl, rfl, rfl, by decide +kernel, rfl, by decide +kernel, by decide +kernel⟩
def f_least_letters : FS := (fSeq (fDrop (fCall m_check_within 3 (fCons (fVar 0) (fCons (fC (.int 1)) (fCons (fC (.int 1000)) fNil)))))
  (fSeq (fDrop (fCall m_check_helpers 2 (fCons (fVar 1) (fCons (fVar 2) fNil))))
  (fSeq (fDrop (fCall m_check_within 3 (fCons (fVar 3) (fCons (fC (.int 1)) (fCons (fC (.int 1000)) fNil)))))
  (fSeq (fFor (fRng2 (fC (.int 1)) (f2 gAdd (fVar 0) (fC (.int 1)))) (kName 4)
  (fIfS (fB (f2 gGe (fCall m_numbers_held 4 (fCons (fVar 1) (fCons (fVar 2) (fCons (fVar 3) (fCons (fVar 4) fNil))))) (fVar 0)))
  (fRet (fVar 4))
  fNext))
  (fRet (fC .none))))))
def m_least_letters : FM := mOf false 5 f_least_letters
theorem ok_least_letters {P : Program} {w : World} {K : PySem.W.Frag} {mg : Str → Option Value} {base : Heap} {f : Addr} {fd : FuncData} (m_range : mg "range" = none) (D_check_within : Df P w K mg base 3 "check_within" s_check_within ["value", "least", "most"] false 3 m_check_within) (D_check_helpers : Df P w K mg base 4 "check_helpers" s_check_helpers ["parts", "helpers"] false 2 m_check_helpers) (D_numbers_held : Df P w K mg base 1 "numbers_held" s_numbers_held ["parts", "helpers", "room", "letters"] false 4 m_numbers_held)
    (hm : mg "least_letters" = some (.ref f)) (F : Fun K "least_letters" "least_letters" s_least_letters f fd) : Df P w K mg base 5 "least_letters" s_least_letters ["size", "parts", "helpers", "room"] false 4 m_least_letters := by
  obtain ⟨a_check_within, d_check_within, g_check_within, F_check_within, G_check_within⟩ := D_check_within
  obtain ⟨a_check_helpers, d_check_helpers, g_check_helpers, F_check_helpers, G_check_helpers⟩ := D_check_helpers
  obtain ⟨a_numbers_held, d_numbers_held, g_numbers_held, F_numbers_held, G_numbers_held⟩ := D_numbers_held
  refine ⟨f, fd, hm, F, ?_⟩
  refine fnD (k := 4) (n := 4) (wl := false) (N := ["size", "parts", "helpers", "room", "letters"]) (fS := f_least_letters) F sc_least_letters rfl ?_
  intro cdv A outer s H E gd hr
  exact ⟨_, (dss_cons (ds_expr (de_call G_check_within gd (hr.mono (by decide)) (by rfl) g_check_within F_check_within.kp (b_check_within F_check_within) (da_cons (de_var 0) (da_cons de_int (da_cons de_int da_nil)))))
    (dss_cons (ds_expr (de_call G_check_helpers gd (hr.mono (by decide)) (by rfl) g_check_helpers F_check_helpers.kp (b_check_helpers F_check_helpers) (da_cons (de_var 1) (da_cons (de_var 2) da_nil))))
    (dss_cons (ds_expr (de_call G_check_within gd (hr.mono (by decide)) (by rfl) g_check_within F_check_within.kp (b_check_within F_check_within) (da_cons (de_var 3) (da_cons de_int (da_cons de_int da_nil)))))
    (dss_cons (ds_for PassesOwn.never rfl (di_range2 de_int (de_bin op_add rd_add (de_var 0) de_int) (by rfl) m_range) (dg_name (i := 4) sc_least_letters.nd rfl (by first | exact Or.inl rfl | exact Or.inr rfl))
    (dss_one (ds_if (dt_cmp op_ge rd_ge (de_call G_numbers_held gd (hr.mono (by decide)) (by rfl) g_numbers_held F_numbers_held.kp (b_numbers_held F_numbers_held) (da_cons (de_var 1) (da_cons (de_var 2) (da_cons (de_var 3) (da_cons (de_var 4) da_nil))))) (de_var 0) (nomark _))
    (dss_one (ds_ret (de_var 4)))
    dss_nil)))
    (dss_one (ds_ret de_non))))))⟩
/-! powers_from -/
abbrev s_powers_from : Stmt := topS 18
theorem b_powers_from {K : PySem.W.Frag} {f : Addr} {fd : FuncData} (F : Fun K "powers_from" "powers_from" s_powers_from f fd) : Binds K fd (["prime", "number", "many"] : List Str) [] := F.binds fun _ _ _ _ _ _ us hl => match us, hl with | [_, _, _], _ => rfl
theorem sc_powers_from : FnScope ["prime", "number", "many", "row", "_"] ["prime", "number", "many"] (defScope s_powers_from) := ⟨rfl, rfl, rfl, by decide +kernel, rfl, by decide +kernel, by decide +kernel⟩
def f_powers_from : FS := (fSeq (fSetN 3 (fLst (fCons (fC (.int 1)) fNil)))
  (fSeq (fFor (fRng1 (f2 gSubt (fVar 2) (fC (.int 1)))) (kName 4)
  (fApp 3 (f2 gMod (f2 gMul (fIx (fOwn 3) (f1 gNeg (fC (.int 1)))) (fVar 1)) (fVar 0))))
  (fRet (fTuple (fOwn 3)))))
def m_powers_from : FM := mOf false 5 f_powers_from
theorem ok_powers_from {P : Program} {w : World} {K : PySem.W.Frag} {mg : Str → Option Value} {base : Heap} {f : Addr} {fd : FuncData} (m_range : mg "range" = none) (m_tuple : mg "tuple" = none)
    (hm : mg "powers_from" = some (.ref f)) (F : Fun K "powers_from" "powers_from" s_powers_from f fd) : Df P w K mg base 1 "powers_from" s_powers_from ["prime", "number", "many"] false 3 m_powers_from := by
  refine ⟨f, fd, hm, F, ?_⟩
  refine fnD (k := 0) (n := 3) (wl := false) (N := ["prime", "number", "many", "row", "_"]) (fS := f_powers_from) F sc_powers_from rfl ?_
  intro cdv A outer s H E gd hr
  exact ⟨_, (dss_cons (ds_setN (i := 3) sc_powers_from.nd rfl (by first | exact Or.inl rfl | exact Or.inr rfl) (dn_lst (da_cons de_int da_nil)))
    (dss_cons (ds_for PassesOwn.never rfl (di_range1 (de_bin op_sub rd_sub (de_var 2) de_int) (by rfl) m_range) (dg_name (i := 4) sc_powers_from.nd rfl (by first | exact Or.inl rfl | exact Or.inr rfl))
    (dss_one (ds_app (i := 3) (pv 3) (de_bin op_mod rd_mod (de_bin op_mul rd_mul (de_ixO (dq_own 3) (de_neg de_int)) (de_var 1)) (de_var 0)))))
    (dss_one (ds_ret (de_tuple (dq_own 3) (by rfl) m_tuple bt_tuple)))))⟩
/-! points_for -/
abbrev s_points_for : Stmt := topS 20
theorem b_points_for {K : PySem.W.Frag} {f : Addr} {fd : FuncData} (F : Fun K "points_for" "points_for" s_points_for f fd) : Binds K fd (["scheme"] : List Str) [] := F.binds fun _ _ _ _ _ _ us hl => match us, hl with | [_], _ => rfl
theorem sc_points_for : FnScope ["scheme", "prime", "way", "many", "parts", "_", "points", "told", "number", "power", "shelf"] ["scheme"] (defScope s_points_for) := ⟨rfl, rfl, rfl, by decide +kernel, rfl, by decide +kernel, by decide +kernel⟩
def f_points_for : FS := (fSeq (fAsg (fVar 0) (kTup 5 (ksCons (kName 1) (ksCons (kName 2) (ksCons (kName 3) (ksCons (kName 4) (ksCons (kName 5) ksNil)))))))
  (fSeq (fIfS (fB (f2 gEq (fVar 2) (fC (.str "letters"))))
  (fRet (fTuple (fQN (fComp (fRng1 (fVar 3)) (kName 10) fYes (f2 gAdd (fVar 10) (fC (.int 1))) [10]))))
  fNext)
  (fSeq (fAsgM [6, 7] (fmN (fLst fNil) (fmN (fLst fNil) fmNil)))
  (fSeq (fFor (fRng2 (fC (.int 1)) (fVar 1)) (kName 8)
  (fSeq (fSet 9 (fIx (fQ (fCall m_powers_from 3 (fCons (fVar 1) (fCons (fVar 8) (fCons (fVar 4) fNil))))) (f1 gNeg (fC (.int 1)))))
  (fSeq (fIfS (fB (fIn true (fVar 9) (fOwn 7)))
  (fSeq (fApp 6 (fVar 8))
  (fApp 7 (fVar 9)))
  fNext)
  (fIfS (fB (f2 gEq (fLen (fOwn 6)) (fVar 3)))
  fBreak
  fNext))))
  (fRet (fTuple (fOwn 6)))))))
def m_points_for : FM := mOf false 11 f_points_for
theorem ok_points_for {P : Program} {w : World} {K : PySem.W.Frag} {mg : Str → Option Value} {base : Heap} {f : Addr} {fd : FuncData} (m_tuple : mg "tuple" = none) (m_range : mg "range" = none) (m_len : mg "len" = none) (D_powers_from : Df P w K mg base 1 "powers_from" s_powers_from ["prime", "number", "many"] false 3 m_powers_from)
    (hm : mg "points_for" = some (.ref f)) (F : Fun K "points_for" "points_for" s_points_for f fd) : Df P w K mg base 2 "points_for" s_points_for ["scheme"] false 1 m_points_for := by
  obtain ⟨a_powers_from, d_powers_from, g_powers_from, F_powers_from, G_powers_from⟩ := D_powers_from
  refine ⟨f, fd, hm, F, ?_⟩
  refine fnD (k := 1) (n := 1) (wl := false) (N := ["scheme", "prime", "way", "many", "parts", "_", "points", "told", "number", "power", "shelf"]) (fS := f_points_for) F sc_points_for rfl ?_
  intro cdv A outer s H E gd hr
  exact ⟨_, (dss_cons (ds_asg (de_var 0) (dg_tup (n := 5) rfl (dgs_cons (dg_name (i := 1) sc_points_for.nd rfl (by first | exact Or.inl rfl | exact Or.inr rfl)) (dgs_cons (dg_name (i := 2) sc_points_for.nd rfl (by first | exact Or.inl rfl | exact Or.inr rfl)) (dgs_cons (dg_name (i := 3) sc_points_for.nd rfl (by first | exact Or.inl rfl | exact Or.inr rfl)) (dgs_cons (dg_name (i := 4) sc_points_for.nd rfl (by first | exact Or.inl rfl | exact Or.inr rfl)) (dgs_cons (dg_name (i := 5) sc_points_for.nd rfl (by first | exact Or.inl rfl | exact Or.inr rfl)) dgs_nil)))))))
    (dss_cons (ds_if (dt_cmp (op_eqD hr.units) rd_eq (de_var 2) de_str (nomark _))
    (dss_one (ds_ret (de_tuple (dq_n (dn_comp (own := [("shelf", 10)]) rfl sc_points_for.nd (di_range1 (de_var 3) (by rfl) m_range) (blkOk_by (N := ["scheme", "prime", "way", "many", "parts", "_", "points", "told", "number", "power", "shelf"]) (sc := defScope s_points_for) (own := [("shelf", 10)]) (by decide +kernel)) (fun _ _ _ _ _ => (dg_name (i := 10) sc_points_for.nd rfl (by first | exact Or.inl rfl | exact Or.inr rfl))) (fun _ _ _ _ _ => dts_nil) (fun _ _ _ _ _ => (de_bin op_add rd_add (de_var 10) de_int)))) (by rfl) m_tuple bt_tuple)))
    dss_nil)
    (dss_cons (ds_par2 (i := 6) (j := 7) rfl sc_points_for.nd rfl rfl (by decide) rfl rfl (dm_n (dn_lst da_nil) (dm_n (dn_lst da_nil) dm_nil)) (by rfl))
    (dss_cons (ds_for PassesOwn.never rfl (di_range2 de_int (de_var 1) (by rfl) m_range) (dg_name (i := 8) sc_points_for.nd rfl (by first | exact Or.inl rfl | exact Or.inr rfl))
    (dss_cons (ds_set (i := 9) sc_points_for.nd rfl (by first | exact Or.inl rfl | exact Or.inr rfl) (de_ix (de_call G_powers_from gd (hr.mono (by decide)) (by rfl) g_powers_from F_powers_from.kp (b_powers_from F_powers_from) (da_cons (de_var 1) (da_cons (de_var 8) (da_cons (de_var 4) da_nil)))) (de_neg de_int)))
    (dss_cons (ds_if (dt_notIn (de_var 9) (dq_own 7) (by rfl))
    (dss_cons (ds_app (i := 6) (pv 6) (de_var 8))
    (dss_one (ds_app (i := 7) (pv 7) (de_var 9))))
    dss_nil)
    (dss_one (ds_if (dt_cmp (op_eqD hr.units) rd_eq (de_len (dq_own 6) (by rfl) m_len bl_len) (de_var 3) (nomark _))
    (dss_one ds_break)
    dss_nil)))))
    (dss_one (ds_ret (de_tuple (dq_own 6) (by rfl) m_tuple bt_tuple)))))))⟩
/-! room_for -/
abbrev s_room_for : Stmt := topS 21
theorem b_room_for {K : PySem.W.Frag} {f : Addr} {fd : FuncData} (F : Fun K "room_for" "room_for" s_room_for f fd) : Binds K fd (["scheme"] : List Str) [] := F.binds fun _ _ _ _ _ _ us hl => match us, hl with | [_], _ => rfl
theorem sc_room_for : FnScope ["scheme"] ["scheme"] (defScope s_room_for) := ⟨rfl, rfl, rfl, by decide +kernel, rfl, by decide +kernel, by decide +kernel⟩
def f_room_for : FS := (fRet (fIf (fB (f2 gEq (fIx (fQ (fVar 0)) (fC (.int 1))) (fC (.str "letters")))) (fIx (fQ (fVar 0)) (fC (.int 4))) (f2 gSubt (fIx (fQ (fVar 0)) (fC (.int 3))) (fC (.int 1)))))
def m_room_for : FM := mOf false 1 f_room_for
theorem ok_room_for {P : Program} {w : World} {K : PySem.W.Frag} {mg : Str → Option Value} {base : Heap} {f : Addr} {fd : FuncData} 
    (hm : mg "room_for" = some (.ref f)) (F : Fun K "room_for" "room_for" s_room_for f fd) : Df P w K mg base 1 "room_for" s_room_for ["scheme"] false 1 m_room_for := by
  refine ⟨f, fd, hm, F, ?_⟩
  refine fnD (k := 0) (n := 1) (wl := false) (N := ["scheme"]) (fS := f_room_for) F sc_room_for rfl ?_
  intro cdv A outer s H E gd hr
  exact ⟨_, (dss_one (ds_ret (de_if (dt_cmp (op_eqD hr.units) rd_eq (de_ix (de_var 0) de_int) de_str (nomark _)) (de_ix (de_var 0) de_int) (de_bin op_sub rd_sub (de_ix (de_var 0) de_int) de_int))))⟩
/-! size_for -/
abbrev s_size_for : Stmt := topS 22
theorem b_size_for {K : PySem.W.Frag} {f : Addr} {fd : FuncData} (F : Fun K "size_for" "size_for" s_size_for f fd) : Binds K fd (["scheme"] : List Str) [] := F.binds fun _ _ _ _ _ _ us hl => match us, hl with | [_], _ => rfl
theorem sc_size_for : FnScope ["scheme", "_", "way", "parts", "helpers"] ["scheme"] (defScope s_size_for) := ⟨rfl, rfl, rfl, by decide +kernel, rfl, by decide +kernel, by decide +kernel⟩
def f_size_for : FS := (fSeq (fAsg (fVar 0) (kTup 5 (ksCons (kName 1) (ksCons (kName 2) (ksCons (kName 1) (ksCons (kName 3) (ksCons (kName 4) ksNil)))))))
  (fSeq (fIfS (fB (f2 gEq (fVar 2) (fC (.str "letters"))))
  (fRet (f2 gAdd (f2 gDiv (f2 gMul (fVar 3) (f2 gAdd (fVar 3) (fC (.int 1)))) (fC (.int 2))) (f2 gMul (fVar 3) (f2 gSubt (fVar 4) (fVar 3)))))
  fNext)
  (fRet (f2 gMul (fVar 3) (f2 gSubt (fVar 3) (fC (.int 1)))))))
def m_size_for : FM := mOf false 5 f_size_for
theorem ok_size_for {P : Program} {w : World} {K : PySem.W.Frag} {mg : Str → Option Value} {base : Heap} {f : Addr} {fd : FuncData} 
    (hm : mg "size_for" = some (.ref f)) (F : Fun K "size_for" "size_for" s_size_for f fd) : Df P w K mg base 1 "size_for" s_size_for ["scheme"] false 1 m_size_for := by
  refine ⟨f, fd, hm, F, ?_⟩
  refine fnD (k := 0) (n := 1) (wl := false) (N := ["scheme", "_", "way", "parts", "helpers"]) (fS := f_size_for) F sc_size_for rfl ?_
  intro cdv A outer s H E gd hr
  exact ⟨_, (dss_cons (ds_asg (de_var 0) (dg_tup (n := 5) rfl (dgs_cons (dg_name (i := 1) sc_size_for.nd rfl (by first | exact Or.inl rfl | exact Or.inr rfl)) (dgs_cons (dg_name (i := 2) sc_size_for.nd rfl (by first | exact Or.inl rfl | exact Or.inr rfl)) (dgs_cons (dg_name (i := 1) sc_size_for.nd rfl (by first | exact Or.inl rfl | exact Or.inr rfl)) (dgs_cons (dg_name (i := 3) sc_size_for.nd rfl (by first | exact Or.inl rfl | exact Or.inr rfl)) (dgs_cons (dg_name (i := 4) sc_size_for.nd rfl (by first | exact Or.inl rfl | exact Or.inr rfl)) dgs_nil)))))))
    (dss_cons (ds_if (dt_cmp (op_eqD hr.units) rd_eq (de_var 2) de_str (nomark _))
    (dss_one (ds_ret (de_bin op_add rd_add (de_bin op_fdiv rd_div (de_bin op_mul rd_mul (de_var 3) (de_bin op_add rd_add (de_var 3) de_int)) de_int) (de_bin op_mul rd_mul (de_var 3) (de_bin op_sub rd_sub (de_var 4) (de_var 3))))))
    dss_nil)
    (dss_one (ds_ret (de_bin op_mul rd_mul (de_var 3) (de_bin op_sub rd_sub (de_var 3) de_int))))))⟩
/-! is_scheme -/
abbrev s_is_scheme : Stmt := topS 24
theorem b_is_scheme {K : PySem.W.Frag} {f : Addr} {fd : FuncData} (F : Fun K "is_scheme" "is_scheme" s_is_scheme f fd) : Binds K fd (["value"] : List Str) [] := F.binds fun _ _ _ _ _ _ us hl => match us, hl with | [_], _ => rfl
theorem sc_is_scheme : FnScope ["value", "prime", "way", "many", "parts", "helpers"] ["value"] (defScope s_is_scheme) := ⟨rfl, rfl, rfl, by decide +kernel, rfl, by decide +kernel, by decide +kernel⟩
def f_is_scheme : FS := (fSeq (fIfS (fNot (fB (fCall m_is_tuple_of 2 (fCons (fVar 0) (fCons (fC (.int 5)) fNil)))))
  (fRet (fC (.bool false)))
  fNext)
  (fSeq (fAsg (fVar 0) (kTup 5 (ksCons (kName 1) (ksCons (kName 2) (ksCons (kName 3) (ksCons (kName 4) (ksCons (kName 5) ksNil)))))))
  (fSeq (fIfS (fOr (fNot (fB (fCall m_is_prime 1 (fCons (fVar 1) fNil)))) (fOr (fNot (fB (fIsi isStr (fVar 2)))) (fNot (fB (fCall m_is_within 3 (fCons (fVar 3) (fCons (fC (.int 2)) (fCons (fC (.int 10)) fNil))))))))
  (fRet (fC (.bool false)))
  fNext)
  (fSeq (fIfS (fB (f2 gEq (fVar 2) (fC (.str "letters"))))
  (fRet (fAndV (fCall m_is_within 3 (fCons (fVar 4) (fCons (fC (.int 1)) (fCons (f2 gSubt (fVar 3) (fC (.int 1))) fNil)))) (fCall m_is_within 3 (fCons (fVar 5) (fCons (fVar 4) (fCons (f2 gSubt (fVar 3) (fC (.int 1))) fNil))))))
  fNext)
  (fSeq (fIfS (fOr (fB (f2 gNe (fVar 2) (fC (.str "room")))) (fOr (fNot (fB (fCall m_is_within 3 (fCons (fVar 4) (fCons (fC (.int 2)) (fCons (f2 gSubt (fVar 3) (fC (.int 1))) fNil)))))) (fNot (fB (fCall m_is_within 3 (fCons (fVar 5) (fCons (fC (.int 2)) (fCons (f2 gSubt (fVar 3) (fC (.int 1))) fNil))))))))
  (fRet (fC (.bool false)))
  fNext)
  (fRet (fAndV (f2 gEq (fVar 5) (f2 gSubt (f2 gMul (fC (.int 2)) (fVar 4)) (fC (.int 2)))) (f2 gEq (fLen (fQ (fCall m_points_for 1 (fCons (fVar 0) fNil)))) (fVar 3)))))))))
def m_is_scheme : FM := mOf false 6 f_is_scheme
theorem ok_is_scheme {P : Program} {w : World} {K : PySem.W.Frag} {mg : Str → Option Value} {base : Heap} {f : Addr} {fd : FuncData} (m_isinstance : mg "isinstance" = none) (m_str : mg "str" = none) (m_len : mg "len" = none) (D_is_tuple_of : Df P w K mg base 1 "is_tuple_of" s_is_tuple_of ["value", "many"] false 2 m_is_tuple_of) (D_is_prime : Df P w K mg base 2 "is_prime" s_is_prime ["value"] false 1 m_is_prime) (D_is_within : Df P w K mg base 2 "is_within" s_is_within ["value", "least", "most"] false 3 m_is_within) (D_points_for : Df P w K mg base 2 "points_for" s_points_for ["scheme"] false 1 m_points_for)
    (hm : mg "is_scheme" = some (.ref f)) (F : Fun K "is_scheme" "is_scheme" s_is_scheme f fd) : Df P w K mg base 3 "is_scheme" s_is_scheme ["value"] false 1 m_is_scheme := by
  obtain ⟨a_is_tuple_of, d_is_tuple_of, g_is_tuple_of, F_is_tuple_of, G_is_tuple_of⟩ := D_is_tuple_of
  obtain ⟨a_is_prime, d_is_prime, g_is_prime, F_is_prime, G_is_prime⟩ := D_is_prime
  obtain ⟨a_is_within, d_is_within, g_is_within, F_is_within, G_is_within⟩ := D_is_within
  obtain ⟨a_points_for, d_points_for, g_points_for, F_points_for, G_points_for⟩ := D_points_for
  refine ⟨f, fd, hm, F, ?_⟩
  refine fnD (k := 2) (n := 1) (wl := false) (N := ["value", "prime", "way", "many", "parts", "helpers"]) (fS := f_is_scheme) F sc_is_scheme rfl ?_
  intro cdv A outer s H E gd hr
  exact ⟨_, (dss_cons (ds_if (dt_not (dt_val (de_call G_is_tuple_of gd (hr.mono (by decide)) (by rfl) g_is_tuple_of F_is_tuple_of.kp (b_is_tuple_of F_is_tuple_of) (da_cons (de_var 0) (da_cons de_int da_nil)))))
    (dss_one (ds_ret de_bl))
    dss_nil)
    (dss_cons (ds_asg (de_var 0) (dg_tup (n := 5) rfl (dgs_cons (dg_name (i := 1) sc_is_scheme.nd rfl (by first | exact Or.inl rfl | exact Or.inr rfl)) (dgs_cons (dg_name (i := 2) sc_is_scheme.nd rfl (by first | exact Or.inl rfl | exact Or.inr rfl)) (dgs_cons (dg_name (i := 3) sc_is_scheme.nd rfl (by first | exact Or.inl rfl | exact Or.inr rfl)) (dgs_cons (dg_name (i := 4) sc_is_scheme.nd rfl (by first | exact Or.inl rfl | exact Or.inr rfl)) (dgs_cons (dg_name (i := 5) sc_is_scheme.nd rfl (by first | exact Or.inl rfl | exact Or.inr rfl)) dgs_nil)))))))
    (dss_cons (ds_if (DW.dt (dw_or (dt_not (dt_val (de_call G_is_prime gd (hr.mono (by decide)) (by rfl) g_is_prime F_is_prime.kp (b_is_prime F_is_prime) (da_cons (de_var 1) da_nil)))) (dw_or (dt_not (dt_val (de_isi (de_var 2) (pe_bltn (by rfl) m_str bt_str rfl) ki_str (by rfl) m_isinstance bl_isinstance))) (dw_or1 (dt_not (dt_val (de_call G_is_within gd (hr.mono (by decide)) (by rfl) g_is_within F_is_within.kp (b_is_within F_is_within) (da_cons (de_var 3) (da_cons de_int (da_cons de_int da_nil))))))))))
    (dss_one (ds_ret de_bl))
    dss_nil)
    (dss_cons (ds_if (dt_cmp (op_eqD hr.units) rd_eq (de_var 2) de_str (nomark _))
    (dss_one (ds_ret (de_and (de_call G_is_within gd (hr.mono (by decide)) (by rfl) g_is_within F_is_within.kp (b_is_within F_is_within) (da_cons (de_var 4) (da_cons de_int (da_cons (de_bin op_sub rd_sub (de_var 3) de_int) da_nil)))) (de_one (de_call G_is_within gd (hr.mono (by decide)) (by rfl) g_is_within F_is_within.kp (b_is_within F_is_within) (da_cons (de_var 5) (da_cons (de_var 4) (da_cons (de_bin op_sub rd_sub (de_var 3) de_int) da_nil))))))))
    dss_nil)
    (dss_cons (ds_if (DW.dt (dw_or (dt_cmp (op_neD hr.units) rd_ne (de_var 2) de_str (nomark _)) (dw_or (dt_not (dt_val (de_call G_is_within gd (hr.mono (by decide)) (by rfl) g_is_within F_is_within.kp (b_is_within F_is_within) (da_cons (de_var 4) (da_cons de_int (da_cons (de_bin op_sub rd_sub (de_var 3) de_int) da_nil)))))) (dw_or1 (dt_not (dt_val (de_call G_is_within gd (hr.mono (by decide)) (by rfl) g_is_within F_is_within.kp (b_is_within F_is_within) (da_cons (de_var 5) (da_cons de_int (da_cons (de_bin op_sub rd_sub (de_var 3) de_int) da_nil))))))))))
    (dss_one (ds_ret de_bl))
    dss_nil)
    (dss_one (ds_ret (de_and (de_cmp (op_eqD hr.units) rd_eq (de_var 5) (de_bin op_sub rd_sub (de_bin op_mul rd_mul de_int (de_var 4)) de_int) (nomark _)) (de_one (de_cmp (op_eqD hr.units) rd_eq (de_len (dq_e (de_call G_points_for gd (hr.mono (by decide)) (by rfl) g_points_for F_points_for.kp (b_points_for F_points_for) (da_cons (de_var 0) da_nil))) (by rfl) m_len bl_len) (de_var 3) (nomark _)))))))))))⟩
/-! check_scheme -/
abbrev s_check_scheme : Stmt := topS 25
theorem b_check_scheme {K : PySem.W.Frag} {f : Addr} {fd : FuncData} (F : Fun K "check_scheme" "check_scheme" s_check_scheme f fd) : Binds K fd (["scheme"] : List Str) [] := F.binds fun _ _ _ _ _ _ us hl => match us, hl with | [_], _ => rfl
theorem sc_check_scheme : FnScope ["scheme"] ["scheme"] (defScope s_check_scheme) := ⟨rfl, rfl, rfl, by decide +kernel, rfl, by decide +kernel, by decide +kernel⟩
def f_check_scheme : FS := (fIfS (fNot (fB (fCall m_is_scheme 1 (fCons (fVar 0) fNil))))
  fNever
  fNext)
def m_check_scheme : FM := mOf false 1 f_check_scheme
theorem ok_check_scheme {P : Program} {w : World} {K : PySem.W.Frag} {mg : Str → Option Value} {base : Heap} {f : Addr} {fd : FuncData} (D_is_scheme : Df P w K mg base 3 "is_scheme" s_is_scheme ["value"] false 1 m_is_scheme)
    (hm : mg "check_scheme" = some (.ref f)) (F : Fun K "check_scheme" "check_scheme" s_check_scheme f fd) : Df P w K mg base 4 "check_scheme" s_check_scheme ["scheme"] false 1 m_check_scheme := by
  obtain ⟨a_is_scheme, d_is_scheme, g_is_scheme, F_is_scheme, G_is_scheme⟩ := D_is_scheme
  refine ⟨f, fd, hm, F, ?_⟩
  refine fnD (k := 3) (n := 1) (wl := false) (N := ["scheme"]) (fS := f_check_scheme) F sc_check_scheme rfl ?_
  intro cdv A outer s H E gd hr
  exact ⟨_, (dss_one (ds_if (dt_not (dt_val (de_call G_is_scheme gd (hr.mono (by decide)) (by rfl) g_is_scheme F_is_scheme.kp (b_is_scheme F_is_scheme) (da_cons (de_var 0) da_nil))))
    (dss_one ds_never)
    dss_nil))⟩
/-! room_of -/
abbrev s_room_of : Stmt := topS 26
theorem b_room_of {K : PySem.W.Frag} {f : Addr} {fd : FuncData} (F : Fun K "room_of" "room_of" s_room_of f fd) : Binds K fd (["scheme"] : List Str) [] := F.binds fun _ _ _ _ _ _ us hl => match us, hl with | [_], _ => rfl
theorem sc_room_of : FnScope ["scheme"] ["scheme"] (defScope s_room_of) := ⟨rfl, rfl, rfl, by decide +kernel, rfl, by decide +kernel, by decide +kernel⟩
def f_room_of : FS := (fSeq (fDrop (fCall m_check_scheme 1 (fCons (fVar 0) fNil)))
  (fRet (fCall m_room_for 1 (fCons (fVar 0) fNil))))
def m_room_of : FM := mOf false 1 f_room_of
theorem ok_room_of {P : Program} {w : World} {K : PySem.W.Frag} {mg : Str → Option Value} {base : Heap} {f : Addr} {fd : FuncData} (D_check_scheme : Df P w K mg base 4 "check_scheme" s_check_scheme ["scheme"] false 1 m_check_scheme) (D_room_for : Df P w K mg base 1 "room_for" s_room_for ["scheme"] false 1 m_room_for)
    (hm : mg "room_of" = some (.ref f)) (F : Fun K "room_of" "room_of" s_room_of f fd) : Df P w K mg base 5 "room_of" s_room_of ["scheme"] false 1 m_room_of := by
  obtain ⟨a_check_scheme, d_check_scheme, g_check_scheme, F_check_scheme, G_check_scheme⟩ := D_check_scheme
  obtain ⟨a_room_for, d_room_for, g_room_for, F_room_for, G_room_for⟩ := D_room_for
  refine ⟨f, fd, hm, F, ?_⟩
  refine fnD (k := 4) (n := 1) (wl := false) (N := ["scheme"]) (fS := f_room_of) F sc_room_of rfl ?_
  intro cdv A outer s H E gd hr
  exact ⟨_, (dss_cons (ds_expr (de_call G_check_scheme gd (hr.mono (by decide)) (by rfl) g_check_scheme F_check_scheme.kp (b_check_scheme F_check_scheme) (da_cons (de_var 0) da_nil)))
    (dss_one (ds_ret (de_call G_room_for gd (hr.mono (by decide)) (by rfl) g_room_for F_room_for.kp (b_room_for F_room_for) (da_cons (de_var 0) da_nil)))))⟩
/-! size_of -/
abbrev s_size_of : Stmt := topS 27
theorem b_size_of {K : PySem.W.Frag} {f : Addr} {fd : FuncData} (F : Fun K "size_of" "size_of" s_size_of f fd) : Binds K fd (["scheme"] : List Str) [] := F.binds fun _ _ _ _ _ _ us hl => match us, hl with | [_], _ => rfl
theorem sc_size_of : FnScope ["scheme"] ["scheme"] (defScope s_size_of) := ⟨rfl, rfl, rfl, by decide +kernel, rfl, by decide +kernel, by decide +kernel⟩
def f_size_of : FS := (fSeq (fDrop (fCall m_check_scheme 1 (fCons (fVar 0) fNil)))
  (fRet (fCall m_size_for 1 (fCons (fVar 0) fNil))))
def m_size_of : FM := mOf false 1 f_size_of
theorem ok_size_of {P : Program} {w : World} {K : PySem.W.Frag} {mg : Str → Option Value} {base : Heap} {f : Addr} {fd : FuncData} (D_check_scheme : Df P w K mg base 4 "check_scheme" s_check_scheme ["scheme"] false 1 m_check_scheme) (D_size_for : Df P w K mg base 1 "size_for" s_size_for ["scheme"] false 1 m_size_for)
    (hm : mg "size_of" = some (.ref f)) (F : Fun K "size_of" "size_of" s_size_of f fd) : Df P w K mg base 5 "size_of" s_size_of ["scheme"] false 1 m_size_of := by
  obtain ⟨a_check_scheme, d_check_scheme, g_check_scheme, F_check_scheme, G_check_scheme⟩ := D_check_scheme
  obtain ⟨a_size_for, d_size_for, g_size_for, F_size_for, G_size_for⟩ := D_size_for
  refine ⟨f, fd, hm, F, ?_⟩
  refine fnD (k := 4) (n := 1) (wl := false) (N := ["scheme"]) (fS := f_size_of) F sc_size_of rfl ?_
  intro cdv A outer s H E gd hr
  exact ⟨_, (dss_cons (ds_expr (de_call G_check_scheme gd (hr.mono (by decide)) (by rfl) g_check_scheme F_check_scheme.kp (b_check_scheme F_check_scheme) (da_cons (de_var 0) da_nil)))
    (dss_one (ds_ret (de_call G_size_for gd (hr.mono (by decide)) (by rfl) g_size_for F_size_for.kp (b_size_for F_size_for) (da_cons (de_var 0) da_nil)))))⟩
/-! _law_well -/
abbrev s__law_well : Stmt := topS 29
theorem b__law_well {K : PySem.W.Frag} {f : Addr} {fd : FuncData} (F : Fun K "_law_well" "_law_well" s__law_well f fd) : Binds K fd (["_law_script", "_law_turn"] : List Str) [] := F.binds fun _ _ _ _ _ _ us hl => match us, hl with | [_, _], _ => rfl
theorem sc__law_well : FnScope ["_law_script", "_law_turn", "_law_seed", "_law_cell", "_law_own"] ["_law_script", "_law_turn"] (defScope s__law_well) := ⟨rfl, rfl, rfl, by decide +kernel, rfl, by decide +kernel, by decide +kernel⟩
def f__law_well : FSN := (fSeqN (fSet 2 (f2 gAdd (fC (.int 50411)) (f2 gMul (fC (.int 7433)) (fVar 1))))
  (fSeqN (fFor (fGet seqItems (fL (fScut 0 fNoPart (fPart (fC (.int 8)))))) (kName 3)
  (fSet 2 (f2 gMod (fBlt gInt (fCons (f2 gAdd (f2 gAdd (f2 gMul (fVar 2) (fC (.int 61001))) (f2 gMul (f2 gMod (fBlt gInt (fCons (fVar 3) fNil)) (fC (.int 2147483237))) (fC (.int 3)))) (fC (.int 19))) fNil)) (fC (.int 2147483249)))))
  (fSeqN (fSet 4 (fIf (fB (f2 gLt (fVar 1) (fSlen 0))) (fBlt gInt (fCons (fSix 0 (fVar 1)) fNil)) (fC (.int 0))))
  (fSeqN (fSet 2 (f2 gMod (fBlt gInt (fCons (f2 gAdd (f2 gAdd (f2 gMul (fVar 2) (fC (.int 37))) (f2 gMul (f2 gMod (fBlt gInt (fCons (fVar 4) fNil)) (fC (.int 2147483237))) (fC (.int 27011)))) (fC (.int 5))) fNil)) (fC (.int 2147483249))))
  (fLst (fCons (fIf (fOr (fB (f2 gLt (fVar 4) (fC (.int 0)))) (fB (f2 gGe (fVar 4) (f2 gPow (fC (.int 10)) (fC (.int 15)))))) (fBlt gAbs (fCons (fVar 4) fNil)) (fC (.int 0))) (fCons (fVar 2) (fCons (fC (.int 0)) fNil))))))))
def m__law_well : FMN := mOfN 5 f__law_well
theorem ok__law_well {P : Program} {w : World} {K : PySem.W.Frag} {mg : Str → Option Value} {base : Heap} {f : Addr} {fd : FuncData} (m_int : mg "int" = none) (m_len : mg "len" = none) (m_abs : mg "abs" = none)
    (hm : mg "_law_well" = some (.ref f)) (F : Fun K "_law_well" "_law_well" s__law_well f fd) : Dn P w K mg base 1 "_law_well" s__law_well ["_law_script", "_law_turn"] 1 m__law_well := by
  refine ⟨f, fd, hm, F, ?_⟩
  refine fnN (k := 0) (n := 1) (N := ["_law_script", "_law_turn", "_law_seed", "_law_cell", "_law_own"]) (fS := f__law_well) F sc__law_well rfl ?_
  intro cdv A outer s H E gd hr
  exact ⟨_, (dr_cons (ds_set (i := 2) sc__law_well.nd rfl (by first | exact Or.inl rfl | exact Or.inr rfl) (de_bin op_add rd_add de_int (de_bin op_mul rd_mul de_int (de_var 1))))
    (dr_cons (ds_for PassesOwn.never rfl (di_seq (de_n (dn_scut (pv 0) do_none (do_some de_int)))) (dg_name (i := 3) sc__law_well.nd rfl (by first | exact Or.inl rfl | exact Or.inr rfl))
    (dss_one (ds_set (i := 2) sc__law_well.nd rfl (by first | exact Or.inl rfl | exact Or.inr rfl) (de_bin op_mod rd_mod (de_bltT call_int1 rc_int (da_cons (de_bin op_add rd_add (de_bin op_add rd_add (de_bin op_mul rd_mul (de_var 2) de_int) (de_bin op_mul rd_mul (de_bin op_mod rd_mod (de_bltT call_int1 rc_int (da_cons (de_var 3) da_nil) (by rfl) m_int bt_int) de_int) de_int)) de_int) da_nil) (by rfl) m_int bt_int) de_int))))
    (dr_cons (ds_set (i := 4) sc__law_well.nd rfl (by first | exact Or.inl rfl | exact Or.inr rfl) (de_if (dt_cmp op_lt rd_lt (de_var 1) (de_slen (pv 0) (by rfl) m_len bl_len) (nomark _)) (de_bltT call_int1 rc_int (da_cons (de_six (pv 0) (de_var 1)) da_nil) (by rfl) m_int bt_int) de_int))
    (dr_cons (ds_set (i := 2) sc__law_well.nd rfl (by first | exact Or.inl rfl | exact Or.inr rfl) (de_bin op_mod rd_mod (de_bltT call_int1 rc_int (da_cons (de_bin op_add rd_add (de_bin op_add rd_add (de_bin op_mul rd_mul (de_var 2) de_int) (de_bin op_mul rd_mul (de_bin op_mod rd_mod (de_bltT call_int1 rc_int (da_cons (de_var 4) da_nil) (by rfl) m_int bt_int) de_int) de_int)) de_int) da_nil) (by rfl) m_int bt_int) de_int))
    (dr_ret (dn_lst (da_cons (de_if (DW.dt (dw_or (dt_cmp op_lt rd_lt (de_var 4) de_int (nomark _)) (dw_or1 (dt_cmp op_ge rd_ge (de_var 4) (de_bin op_pow rd_pow de_int de_int) (nomark _))))) (de_blt call_abs rc_abs (da_cons (de_var 4) da_nil) (by rfl) m_abs bl_abs) de_int) (da_cons (de_var 2) (da_cons de_int da_nil)))))))))⟩
/-! _law_draw -/
abbrev s__law_draw : Stmt := topS 30
theorem b__law_draw {K : PySem.W.Frag} {f : Addr} {fd : FuncData} (F : Fun K "_law_draw" "_law_draw" s__law_draw f fd) : Binds K fd (["_law_well_here", "_law_limit"] : List Str) [] := F.binds fun _ _ _ _ _ _ us hl => match us, hl with | [_, _], _ => rfl
theorem sc__law_draw : FnScope ["_law_well_here", "_law_limit", "_law_seed", "_law_figure"] ["_law_well_here", "_law_limit"] (defScope s__law_draw) := ⟨rfl, rfl, rfl, by decide +kernel, rfl, by decide +kernel, by decide +kernel⟩
def f__law_draw : FS := (fSeq (fIfS (fB (f2 gGt (fWix 0 0) (fC (.int 0))))
  (fSeq (fWdiv 0 3 0 (fDivmod (fCons (fWix 0 0) (fCons (fVar 1) fNil))))
  (fRet (fVar 3)))
  fNext)
  (fSeq (fWput 0 2 (f2 gAdd (fWix 0 2) (fC (.int 1))))
  (fSeq (fSet 2 (f2 gMod (fBlt gInt (fCons (f2 gAdd (f2 gMul (fWix 0 1) (fC (.int 48017))) (f2 gMul (fC (.int 12347)) (fWix 0 2))) fNil)) (fC (.int 2147483249))))
  (fSeq (fWput 0 1 (f2 gMod (fBlt gInt (fCons (f2 gAdd (f2 gMul (fVar 2) (f2 gAdd (f2 gMod (fBlt gInt (fCons (fVar 2) fNil)) (fC (.int 5003))) (fC (.int 40009)))) (fWix 0 2)) fNil)) (fC (.int 2147483249))))
  (fRet (f2 gMod (fBlt gInt (fCons (f2 gDiv (fWix 0 1) (fC (.int 811))) fNil)) (fVar 1)))))))
def m__law_draw : FM := mOf true 4 f__law_draw
theorem ok__law_draw {P : Program} {w : World} {K : PySem.W.Frag} {mg : Str → Option Value} {base : Heap} {f : Addr} {fd : FuncData} (m_divmod : mg "divmod" = none) (m_int : mg "int" = none)
    (hm : mg "_law_draw" = some (.ref f)) (F : Fun K "_law_draw" "_law_draw" s__law_draw f fd) : Df P w K mg base 1 "_law_draw" s__law_draw ["_law_well_here", "_law_limit"] true 1 m__law_draw := by
  refine ⟨f, fd, hm, F, ?_⟩
  refine fnD (k := 0) (n := 1) (wl := true) (N := ["_law_well_here", "_law_limit", "_law_seed", "_law_figure"]) (fS := f__law_draw) F sc__law_draw rfl ?_
  intro cdv A outer s H E gd hr
  exact ⟨_, (dss_cons (ds_if (dt_cmp op_gt rd_gt (de_wix (pv 0) de_int) de_int (nomark _))
    (dss_cons (ds_wdiv (j := 3) rfl sc__law_draw.nd rfl (by first | exact Or.inl rfl | exact Or.inr rfl) (pv 0) de_int (de_divmod (da_cons (de_wix (pv 0) de_int) (da_cons (de_var 1) da_nil)) (by rfl) m_divmod bl_divmod))
    (dss_one (ds_ret (de_var 3))))
    dss_nil)
    (dss_cons (ds_wput (pv 0) de_int (de_bin op_add rd_add (de_wix (pv 0) de_int) de_int))
    (dss_cons (ds_set (i := 2) sc__law_draw.nd rfl (by first | exact Or.inl rfl | exact Or.inr rfl) (de_bin op_mod rd_mod (de_bltT call_int1 rc_int (da_cons (de_bin op_add rd_add (de_bin op_mul rd_mul (de_wix (pv 0) de_int) de_int) (de_bin op_mul rd_mul de_int (de_wix (pv 0) de_int))) da_nil) (by rfl) m_int bt_int) de_int))
    (dss_cons (ds_wput (pv 0) de_int (de_bin op_mod rd_mod (de_bltT call_int1 rc_int (da_cons (de_bin op_add rd_add (de_bin op_mul rd_mul (de_var 2) (de_bin op_add rd_add (de_bin op_mod rd_mod (de_bltT call_int1 rc_int (da_cons (de_var 2) da_nil) (by rfl) m_int bt_int) de_int) de_int)) (de_wix (pv 0) de_int)) da_nil) (by rfl) m_int bt_int) de_int))
    (dss_one (ds_ret (de_bin op_mod rd_mod (de_bltT call_int1 rc_int (da_cons (de_bin op_fdiv rd_div (de_wix (pv 0) de_int) de_int) da_nil) (by rfl) m_int bt_int) (de_var 1))))))))⟩
/-! _law_any_of -/
abbrev s__law_any_of : Stmt := topS 31
theorem b__law_any_of {K : PySem.W.Frag} {f : Addr} {fd : FuncData} (F : Fun K "_law_any_of" "_law_any_of" s__law_any_of f fd) : Binds K fd (["_law_well_here", "_law_some"] : List Str) [] := F.binds fun _ _ _ _ _ _ us hl => match us, hl with | [_, _], _ => rfl
theorem sc__law_any_of : FnScope ["_law_well_here", "_law_some"] ["_law_well_here", "_law_some"] (defScope s__law_any_of) := ⟨rfl, rfl, rfl, by decide +kernel, rfl, by decide +kernel, by decide +kernel⟩
def f__law_any_of : FS := (fRet (fIx (fQ (fVar 1)) (fCallW 0 m__law_draw 1 (fCons (fLen (fQ (fVar 1))) fNil))))
def m__law_any_of : FM := mOf true 2 f__law_any_of
theorem ok__law_any_of {P : Program} {w : World} {K : PySem.W.Frag} {mg : Str → Option Value} {base : Heap} {f : Addr} {fd : FuncData} (m_len : mg "len" = none) (D__law_draw : Df P w K mg base 1 "_law_draw" s__law_draw ["_law_well_here", "_law_limit"] true 1 m__law_draw)
    (hm : mg "_law_any_of" = some (.ref f)) (F : Fun K "_law_any_of" "_law_any_of" s__law_any_of f fd) : Df P w K mg base 2 "_law_any_of" s__law_any_of ["_law_well_here", "_law_some"] true 1 m__law_any_of := by
  obtain ⟨a__law_draw, d__law_draw, g__law_draw, F__law_draw, G__law_draw⟩ := D__law_draw
  refine ⟨f, fd, hm, F, ?_⟩
  refine fnD (k := 1) (n := 1) (wl := true) (N := ["_law_well_here", "_law_some"]) (fS := f__law_any_of) F sc__law_any_of rfl ?_
  intro cdv A outer s H E gd hr
  exact ⟨_, (dss_one (ds_ret (de_ix (de_var 1) (de_callW G__law_draw gd (hr.mono (by decide)) (by rfl) g__law_draw F__law_draw.kp (b__law_draw F__law_draw) (pv 0) (da_cons (de_len (dq_e (de_var 1)) (by rfl) m_len bl_len) da_nil)))))⟩
/-! _law_primes -/
abbrev s__law_primes : Stmt := topS 32
theorem b__law_primes {K : PySem.W.Frag} {f : Addr} {fd : FuncData} (F : Fun K "_law_primes" "_law_primes" s__law_primes f fd) : Binds K fd ([] : List Str) [] := F.binds fun _ _ _ _ _ _ us hl => match us, hl with | [], _ => rfl
theorem sc__law_primes : FnScope [] [] (defScope s__law_primes) := ⟨rfl, rfl, rfl, by decide +kernel, rfl, by decide +kernel, by decide +kernel⟩
def f__law_primes : FS := (fRet (fTup (fCons (fC (.int 11)) (fCons (fC (.int 13)) (fCons (fC (.int 17)) (fCons (fC (.int 19)) (fCons (fC (.int 23)) (fCons (fC (.int 29)) (fCons (fC (.int 31)) (fCons (fC (.int 37)) (fCons (fC (.int 41)) (fCons (fC (.int 43)) (fCons (fC (.int 47)) (fCons (fC (.int 53)) (fCons (fC (.int 59)) (fCons (fC (.int 61)) (fCons (fC (.int 67)) (fCons (fC (.int 71)) (fCons (fC (.int 73)) (fCons (fC (.int 79)) (fCons (fC (.int 83)) (fCons (fC (.int 89)) (fCons (fC (.int 97)) fNil)))))))))))))))))))))))
def m__law_primes : FM := mOf false 0 f__law_primes
theorem ok__law_primes {P : Program} {w : World} {K : PySem.W.Frag} {mg : Str → Option Value} {base : Heap} {f : Addr} {fd : FuncData} 
    (hm : mg "_law_primes" = some (.ref f)) (F : Fun K "_law_primes" "_law_primes" s__law_primes f fd) : Df P w K mg base 1 "_law_primes" s__law_primes [] false 0 m__law_primes := by
  refine ⟨f, fd, hm, F, ?_⟩
  refine fnD (k := 0) (n := 0) (wl := false) (N := []) (fS := f__law_primes) F sc__law_primes rfl ?_
  intro cdv A outer s H E gd hr
  exact ⟨_, (dss_one (ds_ret (de_tup (da_cons de_int (da_cons de_int (da_cons de_int (da_cons de_int (da_cons de_int (da_cons de_int (da_cons de_int (da_cons de_int (da_cons de_int (da_cons de_int (da_cons de_int (da_cons de_int (da_cons de_int (da_cons de_int (da_cons de_int (da_cons de_int (da_cons de_int (da_cons de_int (da_cons de_int (da_cons de_int (da_cons de_int da_nil))))))))))))))))))))))))⟩
/-! _law_climb -/
abbrev s__law_climb : Stmt := topS 33
theorem b__law_climb {K : PySem.W.Frag} {f : Addr} {fd : FuncData} (F : Fun K "_law_climb" "_law_climb" s__law_climb f fd) : Binds K fd (["_law_base", "_law_x", "_law_often"] : List Str) [] := F.binds fun _ _ _ _ _ _ us hl => match us, hl with | [_, _, _], _ => rfl
theorem sc__law_climb : FnScope ["_law_base", "_law_x", "_law_often", "_law_found", "_law_here", "_law_turn"] ["_law_base", "_law_x", "_law_often"] (defScope s__law_climb) := ⟨rfl, rfl, rfl, by decide +kernel, rfl, by decide +kernel, by decide +kernel⟩
def f__law_climb : FS := (fSeq (fAsgM [3, 4] (fmN (fLst fNil) (fmD (fC (.int 1)) fmNil)))
  (fSeq (fFor (fRng1 (fVar 2)) (kName 5)
  (fSeq (fApp 3 (fVar 4))
  (fSet 4 (f2 gMod (fBlt gInt (fCons (f2 gMul (fVar 4) (fVar 1)) fNil)) (fVar 0)))))
  (fRet (fTuple (fOwn 3)))))
def m__law_climb : FM := mOf false 6 f__law_climb
theorem ok__law_climb {P : Program} {w : World} {K : PySem.W.Frag} {mg : Str → Option Value} {base : Heap} {f : Addr} {fd : FuncData} (m_range : mg "range" = none) (m_int : mg "int" = none) (m_tuple : mg "tuple" = none)
    (hm : mg "_law_climb" = some (.ref f)) (F : Fun K "_law_climb" "_law_climb" s__law_climb f fd) : Df P w K mg base 1 "_law_climb" s__law_climb ["_law_base", "_law_x", "_law_often"] false 3 m__law_climb := by
  refine ⟨f, fd, hm, F, ?_⟩
  refine fnD (k := 0) (n := 3) (wl := false) (N := ["_law_base", "_law_x", "_law_often", "_law_found", "_law_here", "_law_turn"]) (fS := f__law_climb) F sc__law_climb rfl ?_
  intro cdv A outer s H E gd hr
  exact ⟨_, (dss_cons (ds_par2 (i := 3) (j := 4) rfl sc__law_climb.nd rfl rfl (by decide) rfl rfl (dm_n (dn_lst da_nil) (dm_d de_int dm_nil)) (by rfl))
    (dss_cons (ds_for PassesOwn.never rfl (di_range1 (de_var 2) (by rfl) m_range) (dg_name (i := 5) sc__law_climb.nd rfl (by first | exact Or.inl rfl | exact Or.inr rfl))
    (dss_cons (ds_app (i := 3) (pv 3) (de_var 4))
    (dss_one (ds_set (i := 4) sc__law_climb.nd rfl (by first | exact Or.inl rfl | exact Or.inr rfl) (de_bin op_mod rd_mod (de_bltT call_int1 rc_int (da_cons (de_bin op_mul rd_mul (de_var 4) (de_var 1)) da_nil) (by rfl) m_int bt_int) (de_var 0))))))
    (dss_one (ds_ret (de_tuple (dq_own 3) (by rfl) m_tuple bt_tuple)))))⟩
/-! _law_spots -/
abbrev s__law_spots : Stmt := topS 34
theorem b__law_spots {K : PySem.W.Frag} {f : Addr} {fd : FuncData} (F : Fun K "_law_spots" "_law_spots" s__law_spots f fd) : Binds K fd (["_law_base", "_law_way", "_law_often", "_law_few"] : List Str) [] := F.binds fun _ _ _ _ _ _ us hl => match us, hl with | [_, _, _, _], _ => rfl
theorem sc__law_spots : FnScope ["_law_base", "_law_way", "_law_often", "_law_few", "_law_found", "_law_known", "_law_x", "_law_high", "_law_at"] ["_law_base", "_law_way", "_law_often", "_law_few"] (defScope s__law_spots) := ⟨rfl, rfl, rfl, by decide +kernel, rfl, by decide +kernel, by decide +kernel⟩
def f__law_spots : FS := (fSeq (fIfS (fB (f2 gEq (fVar 1) (fC (.str "letters"))))
  (fRet (fL (fComp (fRng1 (fVar 2)) (kName 8) fYes (f2 gAdd (fVar 8) (fC (.int 1))) [8])))
  fNext)
  (fSeq (fAsgM [4, 5] (fmN (fLst fNil) (fmN (fLst fNil) fmNil)))
  (fSeq (fFor (fRng2 (fC (.int 1)) (fVar 0)) (kName 6)
  (fSeq (fSet 7 (fIx (fQ (fCall m__law_climb 3 (fCons (fVar 0) (fCons (fVar 6) (fCons (fVar 3) fNil))))) (f2 gSubt (fVar 3) (fC (.int 1)))))
  (fIfS (fAnd (fB (fIn true (fVar 7) (fOwn 5))) (fB (f2 gLt (fLen (fOwn 4)) (fVar 2))))
  (fSeq (fApp 4 (fVar 6))
  (fApp 5 (fVar 7)))
  fNext)))
  (fFz 4 (fRet (fVar 4))))))
def m__law_spots : FM := mOf false 9 f__law_spots
theorem ok__law_spots {P : Program} {w : World} {K : PySem.W.Frag} {mg : Str → Option Value} {base : Heap} {f : Addr} {fd : FuncData} (m_range : mg "range" = none) (m_len : mg "len" = none) (D__law_climb : Df P w K mg base 1 "_law_climb" s__law_climb ["_law_base", "_law_x", "_law_often"] false 3 m__law_climb)
    (hm : mg "_law_spots" = some (.ref f)) (F : Fun K "_law_spots" "_law_spots" s__law_spots f fd) : Df P w K mg base 2 "_law_spots" s__law_spots ["_law_base", "_law_way", "_law_often", "_law_few"] false 4 m__law_spots := by
  obtain ⟨a__law_climb, d__law_climb, g__law_climb, F__law_climb, G__law_climb⟩ := D__law_climb
  refine ⟨f, fd, hm, F, ?_⟩
  refine fnD (k := 1) (n := 4) (wl := false) (N := ["_law_base", "_law_way", "_law_often", "_law_few", "_law_found", "_law_known", "_law_x", "_law_high", "_law_at"]) (fS := f__law_spots) F sc__law_spots rfl ?_
  intro cdv A outer s H E gd hr
  exact ⟨_, (dss_cons (ds_if (dt_cmp (op_eqD hr.units) rd_eq (de_var 1) de_str (nomark _))
    (dss_one (ds_ret (de_n (dn_comp (own := [("_law_at", 8)]) rfl sc__law_spots.nd (di_range1 (de_var 2) (by rfl) m_range) (blkOk_by (N := ["_law_base", "_law_way", "_law_often", "_law_few", "_law_found", "_law_known", "_law_x", "_law_high", "_law_at"]) (sc := defScope s__law_spots) (own := [("_law_at", 8)]) (by decide +kernel)) (fun _ _ _ _ _ => (dg_name (i := 8) sc__law_spots.nd rfl (by first | exact Or.inl rfl | exact Or.inr rfl))) (fun _ _ _ _ _ => dts_nil) (fun _ _ _ _ _ => (de_bin op_add rd_add (de_var 8) de_int))))))
    dss_nil)
    (dss_cons (ds_par2 (i := 4) (j := 5) rfl sc__law_spots.nd rfl rfl (by decide) rfl rfl (dm_n (dn_lst da_nil) (dm_n (dn_lst da_nil) dm_nil)) (by rfl))
    (dss_cons (ds_for PassesOwn.never rfl (di_range2 de_int (de_var 0) (by rfl) m_range) (dg_name (i := 6) sc__law_spots.nd rfl (by first | exact Or.inl rfl | exact Or.inr rfl))
    (dss_cons (ds_set (i := 7) sc__law_spots.nd rfl (by first | exact Or.inl rfl | exact Or.inr rfl) (de_ix (de_call G__law_climb gd (hr.mono (by decide)) (by rfl) g__law_climb F__law_climb.kp (b__law_climb F__law_climb) (da_cons (de_var 0) (da_cons (de_var 6) (da_cons (de_var 3) da_nil)))) (de_bin op_sub rd_sub (de_var 3) de_int)))
    (dss_one (ds_if (DW.dt (dw_and (dt_notIn (de_var 7) (dq_own 5) (by rfl)) (dw_and1 (dt_cmp op_lt rd_lt (de_len (dq_own 4) (by rfl) m_len bl_len) (de_var 2) (nomark _)))))
    (dss_cons (ds_app (i := 4) (pv 4) (de_var 6))
    (dss_one (ds_app (i := 5) (pv 5) (de_var 7))))
    dss_nil))))
    (dss_fz 4 (dss_one (ds_ret (de_var 4)))))))⟩
/-! _law_plan -/
abbrev s__law_plan : Stmt := topS 35
theorem b__law_plan {K : PySem.W.Frag} {f : Addr} {fd : FuncData} (F : Fun K "_law_plan" "_law_plan" s__law_plan f fd) : Binds K fd (["_law_well_here", "_law_most"] : List Str) [] := F.binds fun _ _ _ _ _ _ us hl => match us, hl with | [_, _], _ => rfl
theorem sc__law_plan : FnScope ["_law_well_here", "_law_most", "_law_base", "_law_often", "_law_few"] ["_law_well_here", "_law_most"] (defScope s__law_plan) := ⟨rfl, rfl, rfl, by decide +kernel, rfl, by decide +kernel, by decide +kernel⟩
def f__law_plan : FS := (fSeq (fAsgM [2, 3] (fmD (fCallW 0 m__law_any_of 1 (fCons (fCall m__law_primes 0 fNil) fNil)) (fmD (f2 gAdd (fC (.int 2)) (fCallW 0 m__law_draw 1 (fCons (f2 gSubt (fVar 1) (fC (.int 1))) fNil))) fmNil)))
  (fSeq (fIfS (fAnd (fB (f2 gGt (fVar 3) (fC (.int 2)))) (fB (f2 gEq (fCallW 0 m__law_draw 1 (fCons (fC (.int 2)) fNil)) (fC (.int 0)))))
  (fSeq (fSet 4 (f2 gAdd (fC (.int 2)) (fCallW 0 m__law_draw 1 (fCons (f2 gDiv (f2 gSubt (fVar 3) (fC (.int 1))) (fC (.int 2))) fNil))))
  (fSeq (fIfS (fB (f2 gLt (fLen (fQ (fCall m__law_spots 4 (fCons (fVar 2) (fCons (fC (.str "room")) (fCons (fVar 3) (fCons (fVar 4) fNil))))))) (fVar 3)))
  (fSet 2 (fC (.int 97)))
  fNext)
  (fRet (fTup (fCons (fVar 2) (fCons (fC (.str "room")) (fCons (fVar 3) (fCons (fVar 4) (fCons (f2 gSubt (f2 gMul (fC (.int 2)) (fVar 4)) (fC (.int 2))) fNil)))))))))
  fNext)
  (fSeq (fSet 4 (f2 gAdd (fC (.int 1)) (fCallW 0 m__law_draw 1 (fCons (f2 gSubt (fVar 3) (fC (.int 1))) fNil))))
  (fRet (fTup (fCons (fVar 2) (fCons (fC (.str "letters")) (fCons (fVar 3) (fCons (fVar 4) (fCons (f2 gAdd (fVar 4) (fCallW 0 m__law_draw 1 (fCons (f2 gSubt (fVar 3) (fVar 4)) fNil))) fNil))))))))))
def m__law_plan : FM := mOf true 5 f__law_plan
theorem ok__law_plan {P : Program} {w : World} {K : PySem.W.Frag} {mg : Str → Option Value} {base : Heap} {f : Addr} {fd : FuncData} (m_len : mg "len" = none) (D__law_any_of : Df P w K mg base 2 "_law_any_of" s__law_any_of ["_law_well_here", "_law_some"] true 1 m__law_any_of) (D__law_primes : Df P w K mg base 1 "_law_primes" s__law_primes [] false 0 m__law_primes) (D__law_draw : Df P w K mg base 1 "_law_draw" s__law_draw ["_law_well_here", "_law_limit"] true 1 m__law_draw) (D__law_spots : Df P w K mg base 2 "_law_spots" s__law_spots ["_law_base", "_law_way", "_law_often", "_law_few"] false 4 m__law_spots)
    (hm : mg "_law_plan" = some (.ref f)) (F : Fun K "_law_plan" "_law_plan" s__law_plan f fd) : Df P w K mg base 3 "_law_plan" s__law_plan ["_law_well_here", "_law_most"] true 1 m__law_plan := by
  obtain ⟨a__law_any_of, d__law_any_of, g__law_any_of, F__law_any_of, G__law_any_of⟩ := D__law_any_of
  obtain ⟨a__law_primes, d__law_primes, g__law_primes, F__law_primes, G__law_primes⟩ := D__law_primes
  obtain ⟨a__law_draw, d__law_draw, g__law_draw, F__law_draw, G__law_draw⟩ := D__law_draw
  obtain ⟨a__law_spots, d__law_spots, g__law_spots, F__law_spots, G__law_spots⟩ := D__law_spots
  refine ⟨f, fd, hm, F, ?_⟩
  refine fnD (k := 2) (n := 1) (wl := true) (N := ["_law_well_here", "_law_most", "_law_base", "_law_often", "_law_few"]) (fS := f__law_plan) F sc__law_plan rfl ?_
  intro cdv A outer s H E gd hr
  exact ⟨_, (dss_cons (ds_par2 (i := 2) (j := 3) rfl sc__law_plan.nd rfl rfl (by decide) rfl rfl (dm_d (de_callW G__law_any_of gd (hr.mono (by decide)) (by rfl) g__law_any_of F__law_any_of.kp (b__law_any_of F__law_any_of) (pv 0) (da_cons (de_call0 G__law_primes gd (hr.mono (by decide)) (by rfl) g__law_primes F__law_primes.kp (b__law_primes F__law_primes)) da_nil)) (dm_d (de_bin op_add rd_add de_int (de_callW G__law_draw gd (hr.mono (by decide)) (by rfl) g__law_draw F__law_draw.kp (b__law_draw F__law_draw) (pv 0) (da_cons (de_bin op_sub rd_sub (de_var 1) de_int) da_nil))) dm_nil)) (by rfl))
    (dss_cons (ds_if (DW.dt (dw_and (dt_cmp op_gt rd_gt (de_var 3) de_int (nomark _)) (dw_and1 (dt_cmp (op_eqD hr.units) rd_eq (de_callW G__law_draw gd (hr.mono (by decide)) (by rfl) g__law_draw F__law_draw.kp (b__law_draw F__law_draw) (pv 0) (da_cons de_int da_nil)) de_int (nomark _)))))
    (dss_cons (ds_set (i := 4) sc__law_plan.nd rfl (by first | exact Or.inl rfl | exact Or.inr rfl) (de_bin op_add rd_add de_int (de_callW G__law_draw gd (hr.mono (by decide)) (by rfl) g__law_draw F__law_draw.kp (b__law_draw F__law_draw) (pv 0) (da_cons (de_bin op_fdiv rd_div (de_bin op_sub rd_sub (de_var 3) de_int) de_int) da_nil))))
    (dss_cons (ds_if (dt_cmp op_lt rd_lt (de_len (dq_e (de_call G__law_spots gd (hr.mono (by decide)) (by rfl) g__law_spots F__law_spots.kp (b__law_spots F__law_spots) (da_cons (de_var 2) (da_cons de_str (da_cons (de_var 3) (da_cons (de_var 4) da_nil)))))) (by rfl) m_len bl_len) (de_var 3) (nomark _))
    (dss_one (ds_set (i := 2) sc__law_plan.nd rfl (by first | exact Or.inl rfl | exact Or.inr rfl) de_int))
    dss_nil)
    (dss_one (ds_ret (de_tup (da_cons (de_var 2) (da_cons de_str (da_cons (de_var 3) (da_cons (de_var 4) (da_cons (de_bin op_sub rd_sub (de_bin op_mul rd_mul de_int (de_var 4)) de_int) da_nil))))))))))
    dss_nil)
    (dss_cons (ds_set (i := 4) sc__law_plan.nd rfl (by first | exact Or.inl rfl | exact Or.inr rfl) (de_bin op_add rd_add de_int (de_callW G__law_draw gd (hr.mono (by decide)) (by rfl) g__law_draw F__law_draw.kp (b__law_draw F__law_draw) (pv 0) (da_cons (de_bin op_sub rd_sub (de_var 3) de_int) da_nil))))
    (dss_one (ds_ret (de_tup (da_cons (de_var 2) (da_cons de_str (da_cons (de_var 3) (da_cons (de_var 4) (da_cons (de_bin op_add rd_add (de_var 4) (de_callW G__law_draw gd (hr.mono (by decide)) (by rfl) g__law_draw F__law_draw.kp (b__law_draw F__law_draw) (pv 0) (da_cons (de_bin op_sub rd_sub (de_var 3) (de_var 4)) da_nil))) da_nil)))))))))))⟩
/-! _law_sum -/
abbrev s__law_sum : Stmt := topS 36
theorem b__law_sum {K : PySem.W.Frag} {f : Addr} {fd : FuncData} (F : Fun K "_law_sum" "_law_sum" s__law_sum f fd) : Binds K fd (["_law_few", "_law_aids", "_law_wide", "_law_notes"] : List Str) [] := F.binds fun _ _ _ _ _ _ us hl => match us, hl with | [_, _, _, _], _ => rfl
theorem sc__law_sum : FnScope ["_law_few", "_law_aids", "_law_wide", "_law_notes", "_law_i"] ["_law_few", "_law_aids", "_law_wide", "_law_notes"] (defScope s__law_sum) := ⟨rfl, rfl, rfl, by decide +kernel, rfl, by decide +kernel, by decide +kernel⟩
def f__law_sum : FS := (fRet (fSum (fQN (fComp (fRng1 (fVar 0)) (kName 4) fYes (fBlt gMin2 (fCons (fVar 2) (fCons (f2 gMul (f2 gSubt (fVar 1) (fVar 4)) (fVar 3)) fNil))) [4]))))
def m__law_sum : FM := mOf false 5 f__law_sum
theorem ok__law_sum {P : Program} {w : World} {K : PySem.W.Frag} {mg : Str → Option Value} {base : Heap} {f : Addr} {fd : FuncData} (m_sum : mg "sum" = none) (m_range : mg "range" = none) (m_min : mg "min" = none)
    (hm : mg "_law_sum" = some (.ref f)) (F : Fun K "_law_sum" "_law_sum" s__law_sum f fd) : Df P w K mg base 1 "_law_sum" s__law_sum ["_law_few", "_law_aids", "_law_wide", "_law_notes"] false 4 m__law_sum := by
  refine ⟨f, fd, hm, F, ?_⟩
  refine fnD (k := 0) (n := 4) (wl := false) (N := ["_law_few", "_law_aids", "_law_wide", "_law_notes", "_law_i"]) (fS := f__law_sum) F sc__law_sum rfl ?_
  intro cdv A outer s H E gd hr
  exact ⟨_, (dss_one (ds_ret (de_sum rfl (dq_n (dn_comp (own := [("_law_i", 4)]) rfl sc__law_sum.nd (di_range1 (de_var 0) (by rfl) m_range) (blkOk_by (N := ["_law_few", "_law_aids", "_law_wide", "_law_notes", "_law_i"]) (sc := defScope s__law_sum) (own := [("_law_i", 4)]) (by decide +kernel)) (fun _ _ _ _ _ => (dg_name (i := 4) sc__law_sum.nd rfl (by first | exact Or.inl rfl | exact Or.inr rfl))) (fun _ _ _ _ _ => dts_nil) (fun _ _ _ _ _ => (de_blt (call_min2 rfl) rc_min2 (da_cons (de_var 2) (da_cons (de_bin op_mul rd_mul (de_bin op_sub rd_sub (de_var 1) (de_var 4)) (de_var 3)) da_nil)) (by rfl) m_min bl_min)))) (by rfl) m_sum bl_sum)))⟩
/-! _law_is_amount -/
abbrev s__law_is_amount : Stmt := topS 37
theorem b__law_is_amount {K : PySem.W.Frag} {f : Addr} {fd : FuncData} (F : Fun K "_law_is_amount" "_law_is_amount" s__law_is_amount f fd) : Binds K fd (["_law_heard"] : List Str) [] := F.binds fun _ _ _ _ _ _ us hl => match us, hl with | [_], _ => rfl
theorem sc__law_is_amount : FnScope ["_law_heard"] ["_law_heard"] (defScope s__law_is_amount) := ⟨rfl, rfl, rfl, by decide +kernel, rfl, by decide +kernel, by decide +kernel⟩
def f__law_is_amount : FS := (fRet (fAndV (fIsi isInt (fVar 0)) (fAndV (fNotV (fIsi isBool (fVar 0))) (f3 gLe gLe (fC (.int 1)) (fVar 0) (fC (.int 1000))))))
def m__law_is_amount : FM := mOf false 1 f__law_is_amount
theorem ok__law_is_amount {P : Program} {w : World} {K : PySem.W.Frag} {mg : Str → Option Value} {base : Heap} {f : Addr} {fd : FuncData} (m_isinstance : mg "isinstance" = none) (m_int : mg "int" = none) (m_bool : mg "bool" = none)
    (hm : mg "_law_is_amount" = some (.ref f)) (F : Fun K "_law_is_amount" "_law_is_amount" s__law_is_amount f fd) : Df P w K mg base 1 "_law_is_amount" s__law_is_amount ["_law_heard"] false 1 m__law_is_amount := by
  refine ⟨f, fd, hm, F, ?_⟩
  refine fnD (k := 0) (n := 1) (wl := false) (N := ["_law_heard"]) (fS := f__law_is_amount) F sc__law_is_amount rfl ?_
  intro cdv A outer s H E gd hr
  exact ⟨_, (dss_one (ds_ret (de_and (de_isi (de_var 0) (pe_bltn (by rfl) m_int bt_int rfl) ki_int (by rfl) m_isinstance bl_isinstance) (de_and (de_not (de_isi (de_var 0) (pe_bltn (by rfl) m_bool bt_bool rfl) ki_bool (by rfl) m_isinstance bl_isinstance)) (de_one (de_chain op_le rd_le op_le rd_le de_int (de_var 0) de_int))))))⟩
/-! _law_number -/
abbrev s__law_number : Stmt := topS 38
theorem b__law_number {K : PySem.W.Frag} {f : Addr} {fd : FuncData} (F : Fun K "_law_number" "_law_number" s__law_number f fd) : Binds K fd (["_law_well_here"] : List Str) [] := F.binds fun _ _ _ _ _ _ us hl => match us, hl with | [_], _ => rfl
theorem sc__law_number : FnScope ["_law_well_here"] ["_law_well_here"] (defScope s__law_number) := ⟨rfl, rfl, rfl, by decide +kernel, rfl, by decide +kernel, by decide +kernel⟩
def f__law_number : FS := (fRet (f2 gAdd (fC (.int 1)) (fCallW 0 m__law_draw 1 (fCons (fCallW 0 m__law_any_of 1 (fCons (fTup (fCons (fC (.int 3)) (fCons (fC (.int 6)) (fCons (fC (.int 6)) (fCons (fC (.int 12)) (fCons (fC (.int 40)) (fCons (fC (.int 1000)) fNil))))))) fNil)) fNil))))
def m__law_number : FM := mOf true 1 f__law_number
theorem ok__law_number {P : Program} {w : World} {K : PySem.W.Frag} {mg : Str → Option Value} {base : Heap} {f : Addr} {fd : FuncData} (D__law_draw : Df P w K mg base 1 "_law_draw" s__law_draw ["_law_well_here", "_law_limit"] true 1 m__law_draw) (D__law_any_of : Df P w K mg base 2 "_law_any_of" s__law_any_of ["_law_well_here", "_law_some"] true 1 m__law_any_of)
    (hm : mg "_law_number" = some (.ref f)) (F : Fun K "_law_number" "_law_number" s__law_number f fd) : Df P w K mg base 3 "_law_number" s__law_number ["_law_well_here"] true 0 m__law_number := by
  obtain ⟨a__law_draw, d__law_draw, g__law_draw, F__law_draw, G__law_draw⟩ := D__law_draw
  obtain ⟨a__law_any_of, d__law_any_of, g__law_any_of, F__law_any_of, G__law_any_of⟩ := D__law_any_of
  refine ⟨f, fd, hm, F, ?_⟩
  refine fnD (k := 2) (n := 0) (wl := true) (N := ["_law_well_here"]) (fS := f__law_number) F sc__law_number rfl ?_
  intro cdv A outer s H E gd hr
  exact ⟨_, (dss_one (ds_ret (de_bin op_add rd_add de_int (de_callW G__law_draw gd (hr.mono (by decide)) (by rfl) g__law_draw F__law_draw.kp (b__law_draw F__law_draw) (pv 0) (da_cons (de_callW G__law_any_of gd (hr.mono (by decide)) (by rfl) g__law_any_of F__law_any_of.kp (b__law_any_of F__law_any_of) (pv 0) (da_cons (de_tup (da_cons de_int (da_cons de_int (da_cons de_int (da_cons de_int (da_cons de_int (da_cons de_int da_nil))))))) da_nil)) da_nil)))))⟩
/-! _law_least_right -/
abbrev s__law_least_right : Stmt := topS 39
theorem b__law_least_right {K : PySem.W.Frag} {f : Addr} {fd : FuncData} (F : Fun K "_law_least_right" "_law_least_right" s__law_least_right f fd) : Binds K fd (["_law_few", "_law_aids", "_law_goal", "_law_wide", "_law_notes"] : List Str) [] := F.binds fun _ _ _ _ _ _ us hl => match us, hl with | [_, _, _, _, _], _ => rfl
theorem sc__law_least_right : FnScope ["_law_few", "_law_aids", "_law_goal", "_law_wide", "_law_notes", "_law_heard"] ["_law_few", "_law_aids", "_law_goal", "_law_wide", "_law_notes"] (defScope s__law_least_right) := ⟨rfl, rfl, rfl, by decide +kernel, rfl, by decide +kernel, by decide +kernel⟩
def f__law_least_right : FS := (fSeq (fSet 5 (fCall m_least_room 4 (fCons (fVar 2) (fCons (fVar 0) (fCons (fVar 1) (fCons (fVar 4) fNil))))))
  (fSeq (fIfS (fB (f2 gLt (fCall m__law_sum 4 (fCons (fVar 0) (fCons (fVar 1) (fCons (fVar 2) (fCons (fVar 4) fNil))))) (fVar 2)))
  (fIfS (fB (f2 gNotN (fVar 5) (fC .none)))
  (fRet (fC (.bool false)))
  fNext)
  (fIfS (fNot (fB (fCall m__law_is_amount 1 (fCons (fVar 5) fNil))))
  (fRet (fC (.bool false)))
  (fIfS (fNot (fB (f3 gGe gGt (fCall m__law_sum 4 (fCons (fVar 0) (fCons (fVar 1) (fCons (fVar 5) (fCons (fVar 4) fNil))))) (fVar 2) (fCall m__law_sum 4 (fCons (fVar 0) (fCons (fVar 1) (fCons (f2 gSubt (fVar 5) (fC (.int 1))) (fCons (fVar 4) fNil))))))))
  (fRet (fC (.bool false)))
  fNext)))
  (fSeq (fSet 5 (fCall m_least_letters 4 (fCons (fVar 2) (fCons (fVar 0) (fCons (fVar 1) (fCons (fVar 3) fNil))))))
  (fSeq (fIfS (fB (f2 gLt (f2 gMul (fVar 0) (fVar 3)) (fVar 2)))
  (fRet (f2 gIsN (fVar 5) (fC .none)))
  fNext)
  (fSeq (fIfS (fNot (fB (fCall m__law_is_amount 1 (fCons (fVar 5) fNil))))
  (fRet (fC (.bool false)))
  fNext)
  (fRet (f3 gGe gGt (fCall m__law_sum 4 (fCons (fVar 0) (fCons (fVar 1) (fCons (fVar 3) (fCons (fVar 5) fNil))))) (fVar 2) (fCall m__law_sum 4 (fCons (fVar 0) (fCons (fVar 1) (fCons (fVar 3) (fCons (f2 gSubt (fVar 5) (fC (.int 1))) fNil))))))))))))
def m__law_least_right : FM := mOf false 6 f__law_least_right
theorem ok__law_least_right {P : Program} {w : World} {K : PySem.W.Frag} {mg : Str → Option Value} {base : Heap} {f : Addr} {fd : FuncData} (D_least_room : Df P w K mg base 5 "least_room" s_least_room ["size", "parts", "helpers", "letters"] false 4 m_least_room) (D__law_sum : Df P w K mg base 1 "_law_sum" s__law_sum ["_law_few", "_law_aids", "_law_wide", "_law_notes"] false 4 m__law_sum) (D__law_is_amount : Df P w K mg base 1 "_law_is_amount" s__law_is_amount ["_law_heard"] false 1 m__law_is_amount) (D_least_letters : Df P w K mg base 5 "least_letters" s_least_letters ["size", "parts", "helpers", "room"] false 4 m_least_letters)
    (hm : mg "_law_least_right" = some (.ref f)) (F : Fun K "_law_least_right" "_law_least_right" s__law_least_right f fd) : Df P w K mg base 6 "_law_least_right" s__law_least_right ["_law_few", "_law_aids", "_law_goal", "_law_wide", "_law_notes"] false 5 m__law_least_right := by
  obtain ⟨a_least_room, d_least_room, g_least_room, F_least_room, G_least_room⟩ := D_least_room
  obtain ⟨a__law_sum, d__law_sum, g__law_sum, F__law_sum, G__law_sum⟩ := D__law_sum
  obtain ⟨a__law_is_amount, d__law_is_amount, g__law_is_amount, F__law_is_amount, G__law_is_amount⟩ := D__law_is_amount
  obtain ⟨a_least_letters, d_least_letters, g_least_letters, F_least_letters, G_least_letters⟩ := D_least_letters
  refine ⟨f, fd, hm, F, ?_⟩
  refine fnD (k := 5) (n := 5) (wl := false) (N := ["_law_few", "_law_aids", "_law_goal", "_law_wide", "_law_notes", "_law_heard"]) (fS := f__law_least_right) F sc__law_least_right rfl ?_
  intro cdv A outer s H E gd hr
  exact ⟨_, (dss_cons (ds_set (i := 5) sc__law_least_right.nd rfl (by first | exact Or.inl rfl | exact Or.inr rfl) (de_call G_least_room gd (hr.mono (by decide)) (by rfl) g_least_room F_least_room.kp (b_least_room F_least_room) (da_cons (de_var 2) (da_cons (de_var 0) (da_cons (de_var 1) (da_cons (de_var 4) da_nil))))))
    (dss_cons (ds_if (dt_cmp op_lt rd_lt (de_call G__law_sum gd (hr.mono (by decide)) (by rfl) g__law_sum F__law_sum.kp (b__law_sum F__law_sum) (da_cons (de_var 0) (da_cons (de_var 1) (da_cons (de_var 2) (da_cons (de_var 4) da_nil))))) (de_var 2) (nomark _))
    (dss_one (ds_if (dt_cmp op_notN rd_notN (de_var 5) de_non (nomark _))
    (dss_one (ds_ret de_bl))
    dss_nil))
    (dss_one (ds_if (dt_not (dt_val (de_call G__law_is_amount gd (hr.mono (by decide)) (by rfl) g__law_is_amount F__law_is_amount.kp (b__law_is_amount F__law_is_amount) (da_cons (de_var 5) da_nil))))
    (dss_one (ds_ret de_bl))
    (dss_one (ds_if (dt_not (dt_chain op_ge rd_ge op_gt rd_gt (de_call G__law_sum gd (hr.mono (by decide)) (by rfl) g__law_sum F__law_sum.kp (b__law_sum F__law_sum) (da_cons (de_var 0) (da_cons (de_var 1) (da_cons (de_var 5) (da_cons (de_var 4) da_nil))))) (de_var 2) (de_call G__law_sum gd (hr.mono (by decide)) (by rfl) g__law_sum F__law_sum.kp (b__law_sum F__law_sum) (da_cons (de_var 0) (da_cons (de_var 1) (da_cons (de_bin op_sub rd_sub (de_var 5) de_int) (da_cons (de_var 4) da_nil)))))))
    (dss_one (ds_ret de_bl))
    dss_nil)))))
    (dss_cons (ds_set (i := 5) sc__law_least_right.nd rfl (by first | exact Or.inl rfl | exact Or.inr rfl) (de_call G_least_letters gd (hr.mono (by decide)) (by rfl) g_least_letters F_least_letters.kp (b_least_letters F_least_letters) (da_cons (de_var 2) (da_cons (de_var 0) (da_cons (de_var 1) (da_cons (de_var 3) da_nil))))))
    (dss_cons (ds_if (dt_cmp op_lt rd_lt (de_bin op_mul rd_mul (de_var 0) (de_var 3)) (de_var 2) (nomark _))
    (dss_one (ds_ret (de_cmp op_isN rd_isN (de_var 5) de_non (nomark _))))
    dss_nil)
    (dss_cons (ds_if (dt_not (dt_val (de_call G__law_is_amount gd (hr.mono (by decide)) (by rfl) g__law_is_amount F__law_is_amount.kp (b__law_is_amount F__law_is_amount) (da_cons (de_var 5) da_nil))))
    (dss_one (ds_ret de_bl))
    dss_nil)
    (dss_one (ds_ret (de_chain op_ge rd_ge op_gt rd_gt (de_call G__law_sum gd (hr.mono (by decide)) (by rfl) g__law_sum F__law_sum.kp (b__law_sum F__law_sum) (da_cons (de_var 0) (da_cons (de_var 1) (da_cons (de_var 3) (da_cons (de_var 5) da_nil))))) (de_var 2) (de_call G__law_sum gd (hr.mono (by decide)) (by rfl) g__law_sum F__law_sum.kp (b__law_sum F__law_sum) (da_cons (de_var 0) (da_cons (de_var 1) (da_cons (de_var 3) (da_cons (de_bin op_sub rd_sub (de_var 5) de_int) da_nil)))))))))))))⟩
/-! _law_right -/
abbrev s__law_right : Stmt := topS 40
theorem b__law_right {K : PySem.W.Frag} {f : Addr} {fd : FuncData} (F : Fun K "_law_right" "_law_right" s__law_right f fd) : Binds K fd (["_law_well_here"] : List Str) [] := F.binds fun _ _ _ _ _ _ us hl => match us, hl with | [_], _ => rfl
theorem sc__law_right : FnScope ["_law_well_here", "_law_few", "_law_aids", "_law_wide", "_law_notes", "_law_due", "_law_near", "_law_goal", "_law_plan_here", "_law_many_here", "_law_broad", "_law_heard", "_law_own"] ["_law_well_here"] (defScope s__law_right) := ⟨rfl, rfl, rfl, by decide +kernel, rfl, by decide +kernel, by decide +kernel⟩
def f__law_right : FS := (fSeq (fSet 1 (f2 gAdd (fC (.int 1)) (fCallW 0 m__law_draw 1 (fCons (fC (.int 12)) fNil))))
  (fSeq (fAsgM [2, 3, 4] (fmD (f2 gAdd (fVar 1) (fCallW 0 m__law_draw 1 (fCons (f2 gSubt (fC (.int 13)) (fVar 1)) fNil))) (fmD (fCallW 0 m__law_number 0 fNil) (fmD (fCallW 0 m__law_number 0 fNil) fmNil))))
  (fSeq (fAsgM [5, 6] (fmD (fCall m__law_sum 4 (fCons (fVar 1) (fCons (fVar 2) (fCons (fVar 3) (fCons (fVar 4) fNil))))) (fmD (fCallW 0 m__law_draw 1 (fCons (fC (.int 3)) fNil)) fmNil)))
  (fSeq (fIfS (fB (f2 gNe (fRepr (fCall m_most_numbers 4 (fCons (fVar 1) (fCons (fVar 2) (fCons (fVar 3) (fCons (fVar 4) fNil)))))) (fRepr (fVar 5))))
  (fRet (fC (.bool false)))
  fNext)
  (fSeq (fSet 7 (fIf (fB (f2 gEq (fCallW 0 m__law_draw 1 (fCons (fC (.int 2)) fNil)) (fC (.int 0)))) (fBlt gMax2 (fCons (fC (.int 1)) (fCons (fBlt gMin2 (fCons (fC (.int 1000)) (fCons (f2 gAdd (f2 gSubt (fVar 5) (fC (.int 1))) (fVar 6)) fNil))) fNil))) (fCallW 0 m__law_number 0 fNil)))
  (fSeq (fIfS (fNot (fB (fCall m__law_least_right 5 (fCons (fVar 1) (fCons (fVar 2) (fCons (fVar 7) (fCons (fVar 3) (fCons (fVar 4) fNil))))))))
  (fRet (fC (.bool false)))
  fNext)
  (fSeq (fSet 8 (fCallW 0 m__law_plan 1 (fCons (fC (.int 10)) fNil)))
  (fSeq (fAsgM [9, 10] (fmD (fCall m_size_of 1 (fCons (fVar 8) fNil)) (fmD (fCall m_room_of 1 (fCons (fVar 8) fNil)) fmNil)))
  (fSeq (fSetN 11 (fLst (fCons (fCallK 0 4 [3, 2, 1, 0] m_most_numbers 4 fNil (fCons (fC (.int 1)) (fCons (fVar 10) (fCons (fIx (fQ (fVar 8)) (fC (.int 4))) (fCons (fIx (fQ (fVar 8)) (fC (.int 3))) fNil))))) fNil)))
  (fSeq (fApp 11 (fCall m_least_room 4 (fCons (fVar 9) (fCons (fIx (fQ (fVar 8)) (fC (.int 3))) (fCons (fIx (fQ (fVar 8)) (fC (.int 4))) (fCons (fC (.int 1)) fNil))))))
  (fSeq (fApp 11 (fCallK 0 4 [1, 3, 2, 0] m_least_letters 4 fNil (fCons (fVar 10) (fCons (fVar 9) (fCons (fIx (fQ (fVar 8)) (fC (.int 4))) (fCons (fIx (fQ (fVar 8)) (fC (.int 3))) fNil))))))
  (fSeq (fSet 12 (fIf (fB (f2 gEq (fIx (fQ (fVar 8)) (fC (.int 1))) (fC (.str "letters")))) (fIx (fQ (fVar 8)) (fC (.int 4))) (f2 gSubt (fIx (fQ (fVar 8)) (fC (.int 3))) (fC (.int 1)))))
  (fFz 11 (fRet (fAndV (f2 gEq (fRepr (fVar 11)) (fRepr (fL (fLst (fCons (fCall m__law_sum 4 (fCons (fIx (fQ (fVar 8)) (fC (.int 3))) (fCons (fIx (fQ (fVar 8)) (fC (.int 4))) (fCons (fVar 12) (fCons (fC (.int 1)) fNil))))) (fCons (fVar 12) (fCons (fC (.int 1)) fNil))))))) (f2 gEq (fRepr (fIx (fQ (fVar 11)) (fC (.int 0)))) (fRepr (fVar 9))))))))))))))))))
def m__law_right : FM := mOf true 13 f__law_right
theorem kb_most_numbers_letters_room_helpers_parts {K : PySem.W.Frag} {f : Addr} {fd : FuncData} (F : Fun K "most_numbers" "most_numbers" s_most_numbers f fd) : KBinds K fd (["parts", "helpers", "room", "letters"] : List Str) (["letters", "room", "helpers", "parts"] : List Str) (gp 0 4 [3, 2, 1, 0]) (gp 0 4 [3, 2, 1, 0]) := by
  obtain ⟨c1, o1, kV, o2, o3, o4, cdv, o5, o6, rfl, lk, hcd⟩ := F.ex
  refine ⟨fun s us ws _ hl => ?_, fun r z => gp_vals r z⟩
  obtain ⟨h1, h2⟩ := gp_len hl
  match us, ws, h1, h2 with
  | [], [_, _, _, _], _, _ => exact .of_eq rfl
theorem kb_least_letters_room_size_helpers_parts {K : PySem.W.Frag} {f : Addr} {fd : FuncData} (F : Fun K "least_letters" "least_letters" s_least_letters f fd) : KBinds K fd (["size", "parts", "helpers", "room"] : List Str) (["room", "size", "helpers", "parts"] : List Str) (gp 0 4 [1, 3, 2, 0]) (gp 0 4 [1, 3, 2, 0]) := by
  obtain ⟨c1, o1, kV, o2, o3, o4, cdv, o5, o6, rfl, lk, hcd⟩ := F.ex
  refine ⟨fun s us ws _ hl => ?_, fun r z => gp_vals r z⟩
  obtain ⟨h1, h2⟩ := gp_len hl
  match us, ws, h1, h2 with
  | [], [_, _, _, _], _, _ => exact .of_eq rfl
theorem ok__law_right {P : Program} {w : World} {K : PySem.W.Frag} {mg : Str → Option Value} {base : Heap} {f : Addr} {fd : FuncData} (m_repr : mg "repr" = none) (m_max : mg "max" = none) (m_min : mg "min" = none) (D__law_draw : Df P w K mg base 1 "_law_draw" s__law_draw ["_law_well_here", "_law_limit"] true 1 m__law_draw) (D__law_number : Df P w K mg base 3 "_law_number" s__law_number ["_law_well_here"] true 0 m__law_number) (D__law_sum : Df P w K mg base 1 "_law_sum" s__law_sum ["_law_few", "_law_aids", "_law_wide", "_law_notes"] false 4 m__law_sum) (D_most_numbers : Df P w K mg base 5 "most_numbers" s_most_numbers ["parts", "helpers", "room", "letters"] false 4 m_most_numbers) (D__law_least_right : Df P w K mg base 6 "_law_least_right" s__law_least_right ["_law_few", "_law_aids", "_law_goal", "_law_wide", "_law_notes"] false 5 m__law_least_right) (D__law_plan : Df P w K mg base 3 "_law_plan" s__law_plan ["_law_well_here", "_law_most"] true 1 m__law_plan) (D_size_of : Df P w K mg base 5 "size_of" s_size_of ["scheme"] false 1 m_size_of) (D_room_of : Df P w K mg base 5 "room_of" s_room_of ["scheme"] false 1 m_room_of) (D_least_room : Df P w K mg base 5 "least_room" s_least_room ["size", "parts", "helpers", "letters"] false 4 m_least_room) (D_least_letters : Df P w K mg base 5 "least_letters" s_least_letters ["size", "parts", "helpers", "room"] false 4 m_least_letters)
    (hm : mg "_law_right" = some (.ref f)) (F : Fun K "_law_right" "_law_right" s__law_right f fd) : Df P w K mg base 7 "_law_right" s__law_right ["_law_well_here"] true 0 m__law_right := by
  obtain ⟨a__law_draw, d__law_draw, g__law_draw, F__law_draw, G__law_draw⟩ := D__law_draw
  obtain ⟨a__law_number, d__law_number, g__law_number, F__law_number, G__law_number⟩ := D__law_number
  obtain ⟨a__law_sum, d__law_sum, g__law_sum, F__law_sum, G__law_sum⟩ := D__law_sum
  obtain ⟨a_most_numbers, d_most_numbers, g_most_numbers, F_most_numbers, G_most_numbers⟩ := D_most_numbers
  obtain ⟨a__law_least_right, d__law_least_right, g__law_least_right, F__law_least_right, G__law_least_right⟩ := D__law_least_right
  obtain ⟨a__law_plan, d__law_plan, g__law_plan, F__law_plan, G__law_plan⟩ := D__law_plan
  obtain ⟨a_size_of, d_size_of, g_size_of, F_size_of, G_size_of⟩ := D_size_of
  obtain ⟨a_room_of, d_room_of, g_room_of, F_room_of, G_room_of⟩ := D_room_of
  obtain ⟨a_least_room, d_least_room, g_least_room, F_least_room, G_least_room⟩ := D_least_room
  obtain ⟨a_least_letters, d_least_letters, g_least_letters, F_least_letters, G_least_letters⟩ := D_least_letters
  refine ⟨f, fd, hm, F, ?_⟩
  refine fnD (k := 6) (n := 0) (wl := true) (N := ["_law_well_here", "_law_few", "_law_aids", "_law_wide", "_law_notes", "_law_due", "_law_near", "_law_goal", "_law_plan_here", "_law_many_here", "_law_broad", "_law_heard", "_law_own"]) (fS := f__law_right) F sc__law_right rfl ?_
  intro cdv A outer s H E gd hr
  exact ⟨_, (dss_cons (ds_set (i := 1) sc__law_right.nd rfl (by first | exact Or.inl rfl | exact Or.inr rfl) (de_bin op_add rd_add de_int (de_callW G__law_draw gd (hr.mono (by decide)) (by rfl) g__law_draw F__law_draw.kp (b__law_draw F__law_draw) (pv 0) (da_cons de_int da_nil))))
    (dss_cons (ds_par3 (i := 2) (j := 3) (l := 4) rfl sc__law_right.nd rfl rfl rfl (by decide) (by decide) (by decide) rfl rfl rfl (dm_d (de_bin op_add rd_add (de_var 1) (de_callW G__law_draw gd (hr.mono (by decide)) (by rfl) g__law_draw F__law_draw.kp (b__law_draw F__law_draw) (pv 0) (da_cons (de_bin op_sub rd_sub de_int (de_var 1)) da_nil))) (dm_d (de_callW G__law_number gd (hr.mono (by decide)) (by rfl) g__law_number F__law_number.kp (b__law_number F__law_number) (pv 0) da_nil) (dm_d (de_callW G__law_number gd (hr.mono (by decide)) (by rfl) g__law_number F__law_number.kp (b__law_number F__law_number) (pv 0) da_nil) dm_nil))) (by rfl))
    (dss_cons (ds_par2 (i := 5) (j := 6) rfl sc__law_right.nd rfl rfl (by decide) rfl rfl (dm_d (de_call G__law_sum gd (hr.mono (by decide)) (by rfl) g__law_sum F__law_sum.kp (b__law_sum F__law_sum) (da_cons (de_var 1) (da_cons (de_var 2) (da_cons (de_var 3) (da_cons (de_var 4) da_nil))))) (dm_d (de_callW G__law_draw gd (hr.mono (by decide)) (by rfl) g__law_draw F__law_draw.kp (b__law_draw F__law_draw) (pv 0) (da_cons de_int da_nil)) dm_nil)) (by rfl))
    (dss_cons (ds_if (dt_cmp (op_neD hr.units) rd_ne (de_repr hr gd (de_call G_most_numbers gd (hr.mono (by decide)) (by rfl) g_most_numbers F_most_numbers.kp (b_most_numbers F_most_numbers) (da_cons (de_var 1) (da_cons (de_var 2) (da_cons (de_var 3) (da_cons (de_var 4) da_nil))))) (by rfl) m_repr bl_repr) (de_repr hr gd (de_var 5) (by rfl) m_repr bl_repr) (nomark _))
    (dss_one (ds_ret de_bl))
    dss_nil)
    (dss_cons (ds_set (i := 7) sc__law_right.nd rfl (by first | exact Or.inl rfl | exact Or.inr rfl) (de_if (dt_cmp (op_eqD hr.units) rd_eq (de_callW G__law_draw gd (hr.mono (by decide)) (by rfl) g__law_draw F__law_draw.kp (b__law_draw F__law_draw) (pv 0) (da_cons de_int da_nil)) de_int (nomark _)) (de_blt (call_max2 rfl) rc_max2 (da_cons de_int (da_cons (de_blt (call_min2 rfl) rc_min2 (da_cons de_int (da_cons (de_bin op_add rd_add (de_bin op_sub rd_sub (de_var 5) de_int) (de_var 6)) da_nil)) (by rfl) m_min bl_min) da_nil)) (by rfl) m_max bl_max) (de_callW G__law_number gd (hr.mono (by decide)) (by rfl) g__law_number F__law_number.kp (b__law_number F__law_number) (pv 0) da_nil)))
    (dss_cons (ds_if (dt_not (dt_val (de_call G__law_least_right gd (hr.mono (by decide)) (by rfl) g__law_least_right F__law_least_right.kp (b__law_least_right F__law_least_right) (da_cons (de_var 1) (da_cons (de_var 2) (da_cons (de_var 7) (da_cons (de_var 3) (da_cons (de_var 4) da_nil))))))))
    (dss_one (ds_ret de_bl))
    dss_nil)
    (dss_cons (ds_set (i := 8) sc__law_right.nd rfl (by first | exact Or.inl rfl | exact Or.inr rfl) (de_callW G__law_plan gd (hr.mono (by decide)) (by rfl) g__law_plan F__law_plan.kp (b__law_plan F__law_plan) (pv 0) (da_cons de_int da_nil)))
    (dss_cons (ds_par2 (i := 9) (j := 10) rfl sc__law_right.nd rfl rfl (by decide) rfl rfl (dm_d (de_call G_size_of gd (hr.mono (by decide)) (by rfl) g_size_of F_size_of.kp (b_size_of F_size_of) (da_cons (de_var 8) da_nil)) (dm_d (de_call G_room_of gd (hr.mono (by decide)) (by rfl) g_room_of F_room_of.kp (b_room_of F_room_of) (da_cons (de_var 8) da_nil)) dm_nil)) (by rfl))
    (dss_cons (ds_setN (i := 11) sc__law_right.nd rfl (by first | exact Or.inl rfl | exact Or.inr rfl) (dn_lst (da_cons (de_callK0 G_most_numbers gd (hr.mono (by decide)) (by rfl) g_most_numbers F_most_numbers.kp (kb_most_numbers_letters_room_helpers_parts F_most_numbers) (dk_cons de_int (dk_cons (de_var 10) (dk_cons (de_ix (de_var 8) de_int) (dk_cons (de_ix (de_var 8) de_int) dk_nil))))) da_nil)))
    (dss_cons (ds_app (i := 11) (pv 11) (de_call G_least_room gd (hr.mono (by decide)) (by rfl) g_least_room F_least_room.kp (b_least_room F_least_room) (da_cons (de_var 9) (da_cons (de_ix (de_var 8) de_int) (da_cons (de_ix (de_var 8) de_int) (da_cons de_int da_nil))))))
    (dss_cons (ds_app (i := 11) (pv 11) (de_callK0 G_least_letters gd (hr.mono (by decide)) (by rfl) g_least_letters F_least_letters.kp (kb_least_letters_room_size_helpers_parts F_least_letters) (dk_cons (de_var 10) (dk_cons (de_var 9) (dk_cons (de_ix (de_var 8) de_int) (dk_cons (de_ix (de_var 8) de_int) dk_nil))))))
    (dss_cons (ds_set (i := 12) sc__law_right.nd rfl (by first | exact Or.inl rfl | exact Or.inr rfl) (de_if (dt_cmp (op_eqD hr.units) rd_eq (de_ix (de_var 8) de_int) de_str (nomark _)) (de_ix (de_var 8) de_int) (de_bin op_sub rd_sub (de_ix (de_var 8) de_int) de_int)))
    (dss_fz 11 (dss_one (ds_ret (de_and (de_cmp (op_eqD hr.units) rd_eq (de_repr hr gd (de_var 11) (by rfl) m_repr bl_repr) (de_repr hr gd (de_n (dn_lst (da_cons (de_call G__law_sum gd (hr.mono (by decide)) (by rfl) g__law_sum F__law_sum.kp (b__law_sum F__law_sum) (da_cons (de_ix (de_var 8) de_int) (da_cons (de_ix (de_var 8) de_int) (da_cons (de_var 12) (da_cons de_int da_nil))))) (da_cons (de_var 12) (da_cons de_int da_nil))))) (by rfl) m_repr bl_repr) (nomark _)) (de_one (de_cmp (op_eqD hr.units) rd_eq (de_repr hr gd (de_ix (de_var 11) de_int) (by rfl) m_repr bl_repr) (de_repr hr gd (de_var 9) (by rfl) m_repr bl_repr) (nomark _)))))))))))))))))))⟩
/-! law -/
abbrev s_law : Stmt := topS 41
theorem b_law {K : PySem.W.Frag} {f : Addr} {fd : FuncData} (F : Fun K "law" "law" s_law f fd) : Binds K fd (["_law_script"] : List Str) [] := F.binds fun _ _ _ _ _ _ us hl => match us, hl with | [_], _ => rfl
theorem sc_law : FnScope ["_law_script", "_law_turn"] ["_law_script"] (defScope s_law) := ⟨rfl, rfl, rfl, by decide +kernel, rfl, by decide +kernel, by decide +kernel⟩
def f_law : FS := (fRet (fAllB (fQN (fComp (fRng1 (fBlt gMax2 (fCons (fC (.int 2)) (fCons (fBlt gMin2 (fCons (fSlen 0) (fCons (fC (.int 4)) fNil))) fNil)))) (kName 1) fYes (fCallWN 0 m__law_well 1 m__law_right (fCons (fVar 1) fNil)) [1]))))
def m_law : FML := mOfL 2 f_law
theorem ok_law {P : Program} {w : World} {K : PySem.W.Frag} {mg : Str → Option Value} {base : Heap} {f : Addr} {fd : FuncData} (m_all : mg "all" = none) (m_range : mg "range" = none) (m_max : mg "max" = none) (m_min : mg "min" = none) (m_len : mg "len" = none) (D__law_right : Df P w K mg base 7 "_law_right" s__law_right ["_law_well_here"] true 0 m__law_right) (D__law_well : Dn P w K mg base 1 "_law_well" s__law_well ["_law_script", "_law_turn"] 1 m__law_well)
    (hm : mg "law" = some (.ref f)) (F : Fun K "law" "law" s_law f fd) : Dl P w K mg base 8 "law" s_law ["_law_script"] m_law := by
  obtain ⟨a__law_right, d__law_right, g__law_right, F__law_right, G__law_right⟩ := D__law_right
  obtain ⟨a__law_well, d__law_well, g__law_well, F__law_well, G__law_well⟩ := D__law_well
  refine ⟨f, fd, hm, F, ?_⟩
  refine fnL (k := 7) (N := ["_law_script", "_law_turn"]) (fS := f_law) F sc_law rfl ?_
  intro cdv A outer s H E gd hr
  exact ⟨_, (dss_one (ds_ret (de_all rfl (dq_n (dn_comp (own := [("_law_turn", 1)]) rfl sc_law.nd (di_range1 (de_blt (call_max2 rfl) rc_max2 (da_cons de_int (da_cons (de_blt (call_min2 rfl) rc_min2 (da_cons (de_slen (pv 0) (by rfl) m_len bl_len) (da_cons de_int da_nil)) (by rfl) m_min bl_min) da_nil)) (by rfl) m_max bl_max) (by rfl) m_range) (blkOk_by (N := ["_law_script", "_law_turn"]) (sc := defScope s_law) (own := [("_law_turn", 1)]) (by decide +kernel)) (fun _ _ _ _ _ => (dg_name (i := 1) sc_law.nd rfl (by first | exact Or.inl rfl | exact Or.inr rfl))) (fun _ _ _ _ _ => dts_nil) (fun _ _ _ _ _ => (de_callWN G__law_right G__law_well gd (hr.mono (by decide)) (hr.mono (by decide)) (by rfl) g__law_right F__law_right.kp (b__law_right F__law_right) (by rfl) g__law_well F__law_well.kp (b__law_well F__law_well) (pv 0) (da_cons (de_var 1) da_nil))))) (by rfl) m_all bl_all)))⟩
/-! the top -/
theorem top {l : PySem.W.OpenLaw} {w : World} {K : PySem.W.Frag} {h : Heap} {mg : Str → Option Value} {fa : Addr} (X : K.In h) (G : h.Ns mainGlobals mg) (hfa : mg "law" = some (.ref fa))
    {f0 : Addr} {od0 an0 : Option Addr} {sl0 : Array (Option Value)} {oc0 kV0 dc0 pm0 cd0 ct0 : Value}
    (a0 : PySem.W.nsIn K mainGlobals "_law_draw" = some (some (.ref f0))) (l0 : K.lookup f0 = some ⟨oc0, od0, .func (PySem.W.fnOf "_law_draw" "_law_draw" (defArgs s__law_draw) (defBody s__law_draw) (defScope s__law_draw) .none kV0 dc0 pm0 an0 cd0 ct0), sl0⟩) (c0 : PySem.W.codeIn K cd0 "_law_draw" = true) (k0 : PySem.W.keepIn K (.ref f0) = true)
    {f1 : Addr} {od1 an1 : Option Addr} {sl1 : Array (Option Value)} {oc1 kV1 dc1 pm1 cd1 ct1 : Value}
    (a1 : PySem.W.nsIn K mainGlobals "_law_any_of" = some (some (.ref f1))) (l1 : K.lookup f1 = some ⟨oc1, od1, .func (PySem.W.fnOf "_law_any_of" "_law_any_of" (defArgs s__law_any_of) (defBody s__law_any_of) (defScope s__law_any_of) .none kV1 dc1 pm1 an1 cd1 ct1), sl1⟩) (c1 : PySem.W.codeIn K cd1 "_law_any_of" = true) (k1 : PySem.W.keepIn K (.ref f1) = true)
    {f2 : Addr} {od2 an2 : Option Addr} {sl2 : Array (Option Value)} {oc2 kV2 dc2 pm2 cd2 ct2 : Value}
    (a2 : PySem.W.nsIn K mainGlobals "_law_number" = some (some (.ref f2))) (l2 : K.lookup f2 = some ⟨oc2, od2, .func (PySem.W.fnOf "_law_number" "_law_number" (defArgs s__law_number) (defBody s__law_number) (defScope s__law_number) .none kV2 dc2 pm2 an2 cd2 ct2), sl2⟩) (c2 : PySem.W.codeIn K cd2 "_law_number" = true) (k2 : PySem.W.keepIn K (.ref f2) = true)
    {f3 : Addr} {od3 an3 : Option Addr} {sl3 : Array (Option Value)} {oc3 kV3 dc3 pm3 cd3 ct3 : Value}
    (a3 : PySem.W.nsIn K mainGlobals "_law_sum" = some (some (.ref f3))) (l3 : K.lookup f3 = some ⟨oc3, od3, .func (PySem.W.fnOf "_law_sum" "_law_sum" (defArgs s__law_sum) (defBody s__law_sum) (defScope s__law_sum) .none kV3 dc3 pm3 an3 cd3 ct3), sl3⟩) (c3 : PySem.W.codeIn K cd3 "_law_sum" = true) (k3 : PySem.W.keepIn K (.ref f3) = true)
    {f4 : Addr} {od4 an4 : Option Addr} {sl4 : Array (Option Value)} {oc4 kV4 dc4 pm4 cd4 ct4 : Value}
    (a4 : PySem.W.nsIn K mainGlobals "is_whole" = some (some (.ref f4))) (l4 : K.lookup f4 = some ⟨oc4, od4, .func (PySem.W.fnOf "is_whole" "is_whole" (defArgs s_is_whole) (defBody s_is_whole) (defScope s_is_whole) .none kV4 dc4 pm4 an4 cd4 ct4), sl4⟩) (c4 : PySem.W.codeIn K cd4 "is_whole" = true) (k4 : PySem.W.keepIn K (.ref f4) = true)
    {f5 : Addr} {od5 an5 : Option Addr} {sl5 : Array (Option Value)} {oc5 kV5 dc5 pm5 cd5 ct5 : Value}
    (a5 : PySem.W.nsIn K mainGlobals "is_within" = some (some (.ref f5))) (l5 : K.lookup f5 = some ⟨oc5, od5, .func (PySem.W.fnOf "is_within" "is_within" (defArgs s_is_within) (defBody s_is_within) (defScope s_is_within) .none kV5 dc5 pm5 an5 cd5 ct5), sl5⟩) (c5 : PySem.W.codeIn K cd5 "is_within" = true) (k5 : PySem.W.keepIn K (.ref f5) = true)
    {f6 : Addr} {od6 an6 : Option Addr} {sl6 : Array (Option Value)} {oc6 kV6 dc6 pm6 cd6 ct6 : Value}
    (a6 : PySem.W.nsIn K mainGlobals "check_within" = some (some (.ref f6))) (l6 : K.lookup f6 = some ⟨oc6, od6, .func (PySem.W.fnOf "check_within" "check_within" (defArgs s_check_within) (defBody s_check_within) (defScope s_check_within) .none kV6 dc6 pm6 an6 cd6 ct6), sl6⟩) (c6 : PySem.W.codeIn K cd6 "check_within" = true) (k6 : PySem.W.keepIn K (.ref f6) = true)
    {f7 : Addr} {od7 an7 : Option Addr} {sl7 : Array (Option Value)} {oc7 kV7 dc7 pm7 cd7 ct7 : Value}
    (a7 : PySem.W.nsIn K mainGlobals "check_helpers" = some (some (.ref f7))) (l7 : K.lookup f7 = some ⟨oc7, od7, .func (PySem.W.fnOf "check_helpers" "check_helpers" (defArgs s_check_helpers) (defBody s_check_helpers) (defScope s_check_helpers) .none kV7 dc7 pm7 an7 cd7 ct7), sl7⟩) (c7 : PySem.W.codeIn K cd7 "check_helpers" = true) (k7 : PySem.W.keepIn K (.ref f7) = true)
    {f8 : Addr} {od8 an8 : Option Addr} {sl8 : Array (Option Value)} {oc8 kV8 dc8 pm8 cd8 ct8 : Value}
    (a8 : PySem.W.nsIn K mainGlobals "numbers_held" = some (some (.ref f8))) (l8 : K.lookup f8 = some ⟨oc8, od8, .func (PySem.W.fnOf "numbers_held" "numbers_held" (defArgs s_numbers_held) (defBody s_numbers_held) (defScope s_numbers_held) .none kV8 dc8 pm8 an8 cd8 ct8), sl8⟩) (c8 : PySem.W.codeIn K cd8 "numbers_held" = true) (k8 : PySem.W.keepIn K (.ref f8) = true)
    {f9 : Addr} {od9 an9 : Option Addr} {sl9 : Array (Option Value)} {oc9 kV9 dc9 pm9 cd9 ct9 : Value}
    (a9 : PySem.W.nsIn K mainGlobals "most_numbers" = some (some (.ref f9))) (l9 : K.lookup f9 = some ⟨oc9, od9, .func (PySem.W.fnOf "most_numbers" "most_numbers" (defArgs s_most_numbers) (defBody s_most_numbers) (defScope s_most_numbers) .none kV9 dc9 pm9 an9 cd9 ct9), sl9⟩) (c9 : PySem.W.codeIn K cd9 "most_numbers" = true) (k9 : PySem.W.keepIn K (.ref f9) = true)
    {f10 : Addr} {od10 an10 : Option Addr} {sl10 : Array (Option Value)} {oc10 kV10 dc10 pm10 cd10 ct10 : Value}
    (a10 : PySem.W.nsIn K mainGlobals "least_room" = some (some (.ref f10))) (l10 : K.lookup f10 = some ⟨oc10, od10, .func (PySem.W.fnOf "least_room" "least_room" (defArgs s_least_room) (defBody s_least_room) (defScope s_least_room) .none kV10 dc10 pm10 an10 cd10 ct10), sl10⟩) (c10 : PySem.W.codeIn K cd10 "least_room" = true) (k10 : PySem.W.keepIn K (.ref f10) = true)
    {f11 : Addr} {od11 an11 : Option Addr} {sl11 : Array (Option Value)} {oc11 kV11 dc11 pm11 cd11 ct11 : Value}
    (a11 : PySem.W.nsIn K mainGlobals "_law_is_amount" = some (some (.ref f11))) (l11 : K.lookup f11 = some ⟨oc11, od11, .func (PySem.W.fnOf "_law_is_amount" "_law_is_amount" (defArgs s__law_is_amount) (defBody s__law_is_amount) (defScope s__law_is_amount) .none kV11 dc11 pm11 an11 cd11 ct11), sl11⟩) (c11 : PySem.W.codeIn K cd11 "_law_is_amount" = true) (k11 : PySem.W.keepIn K (.ref f11) = true)
    {f12 : Addr} {od12 an12 : Option Addr} {sl12 : Array (Option Value)} {oc12 kV12 dc12 pm12 cd12 ct12 : Value}
    (a12 : PySem.W.nsIn K mainGlobals "least_letters" = some (some (.ref f12))) (l12 : K.lookup f12 = some ⟨oc12, od12, .func (PySem.W.fnOf "least_letters" "least_letters" (defArgs s_least_letters) (defBody s_least_letters) (defScope s_least_letters) .none kV12 dc12 pm12 an12 cd12 ct12), sl12⟩) (c12 : PySem.W.codeIn K cd12 "least_letters" = true) (k12 : PySem.W.keepIn K (.ref f12) = true)
    {f13 : Addr} {od13 an13 : Option Addr} {sl13 : Array (Option Value)} {oc13 kV13 dc13 pm13 cd13 ct13 : Value}
    (a13 : PySem.W.nsIn K mainGlobals "_law_least_right" = some (some (.ref f13))) (l13 : K.lookup f13 = some ⟨oc13, od13, .func (PySem.W.fnOf "_law_least_right" "_law_least_right" (defArgs s__law_least_right) (defBody s__law_least_right) (defScope s__law_least_right) .none kV13 dc13 pm13 an13 cd13 ct13), sl13⟩) (c13 : PySem.W.codeIn K cd13 "_law_least_right" = true) (k13 : PySem.W.keepIn K (.ref f13) = true)
    {f14 : Addr} {od14 an14 : Option Addr} {sl14 : Array (Option Value)} {oc14 kV14 dc14 pm14 cd14 ct14 : Value}
    (a14 : PySem.W.nsIn K mainGlobals "_law_primes" = some (some (.ref f14))) (l14 : K.lookup f14 = some ⟨oc14, od14, .func (PySem.W.fnOf "_law_primes" "_law_primes" (defArgs s__law_primes) (defBody s__law_primes) (defScope s__law_primes) .none kV14 dc14 pm14 an14 cd14 ct14), sl14⟩) (c14 : PySem.W.codeIn K cd14 "_law_primes" = true) (k14 : PySem.W.keepIn K (.ref f14) = true)
    {f15 : Addr} {od15 an15 : Option Addr} {sl15 : Array (Option Value)} {oc15 kV15 dc15 pm15 cd15 ct15 : Value}
    (a15 : PySem.W.nsIn K mainGlobals "_law_climb" = some (some (.ref f15))) (l15 : K.lookup f15 = some ⟨oc15, od15, .func (PySem.W.fnOf "_law_climb" "_law_climb" (defArgs s__law_climb) (defBody s__law_climb) (defScope s__law_climb) .none kV15 dc15 pm15 an15 cd15 ct15), sl15⟩) (c15 : PySem.W.codeIn K cd15 "_law_climb" = true) (k15 : PySem.W.keepIn K (.ref f15) = true)
    {f16 : Addr} {od16 an16 : Option Addr} {sl16 : Array (Option Value)} {oc16 kV16 dc16 pm16 cd16 ct16 : Value}
    (a16 : PySem.W.nsIn K mainGlobals "_law_spots" = some (some (.ref f16))) (l16 : K.lookup f16 = some ⟨oc16, od16, .func (PySem.W.fnOf "_law_spots" "_law_spots" (defArgs s__law_spots) (defBody s__law_spots) (defScope s__law_spots) .none kV16 dc16 pm16 an16 cd16 ct16), sl16⟩) (c16 : PySem.W.codeIn K cd16 "_law_spots" = true) (k16 : PySem.W.keepIn K (.ref f16) = true)
    {f17 : Addr} {od17 an17 : Option Addr} {sl17 : Array (Option Value)} {oc17 kV17 dc17 pm17 cd17 ct17 : Value}
    (a17 : PySem.W.nsIn K mainGlobals "_law_plan" = some (some (.ref f17))) (l17 : K.lookup f17 = some ⟨oc17, od17, .func (PySem.W.fnOf "_law_plan" "_law_plan" (defArgs s__law_plan) (defBody s__law_plan) (defScope s__law_plan) .none kV17 dc17 pm17 an17 cd17 ct17), sl17⟩) (c17 : PySem.W.codeIn K cd17 "_law_plan" = true) (k17 : PySem.W.keepIn K (.ref f17) = true)
    {f18 : Addr} {od18 an18 : Option Addr} {sl18 : Array (Option Value)} {oc18 kV18 dc18 pm18 cd18 ct18 : Value}
    (a18 : PySem.W.nsIn K mainGlobals "is_tuple_of" = some (some (.ref f18))) (l18 : K.lookup f18 = some ⟨oc18, od18, .func (PySem.W.fnOf "is_tuple_of" "is_tuple_of" (defArgs s_is_tuple_of) (defBody s_is_tuple_of) (defScope s_is_tuple_of) .none kV18 dc18 pm18 an18 cd18 ct18), sl18⟩) (c18 : PySem.W.codeIn K cd18 "is_tuple_of" = true) (k18 : PySem.W.keepIn K (.ref f18) = true)
    {f19 : Addr} {od19 an19 : Option Addr} {sl19 : Array (Option Value)} {oc19 kV19 dc19 pm19 cd19 ct19 : Value}
    (a19 : PySem.W.nsIn K mainGlobals "is_prime" = some (some (.ref f19))) (l19 : K.lookup f19 = some ⟨oc19, od19, .func (PySem.W.fnOf "is_prime" "is_prime" (defArgs s_is_prime) (defBody s_is_prime) (defScope s_is_prime) .none kV19 dc19 pm19 an19 cd19 ct19), sl19⟩) (c19 : PySem.W.codeIn K cd19 "is_prime" = true) (k19 : PySem.W.keepIn K (.ref f19) = true)
    {f20 : Addr} {od20 an20 : Option Addr} {sl20 : Array (Option Value)} {oc20 kV20 dc20 pm20 cd20 ct20 : Value}
    (a20 : PySem.W.nsIn K mainGlobals "powers_from" = some (some (.ref f20))) (l20 : K.lookup f20 = some ⟨oc20, od20, .func (PySem.W.fnOf "powers_from" "powers_from" (defArgs s_powers_from) (defBody s_powers_from) (defScope s_powers_from) .none kV20 dc20 pm20 an20 cd20 ct20), sl20⟩) (c20 : PySem.W.codeIn K cd20 "powers_from" = true) (k20 : PySem.W.keepIn K (.ref f20) = true)
    {f21 : Addr} {od21 an21 : Option Addr} {sl21 : Array (Option Value)} {oc21 kV21 dc21 pm21 cd21 ct21 : Value}
    (a21 : PySem.W.nsIn K mainGlobals "points_for" = some (some (.ref f21))) (l21 : K.lookup f21 = some ⟨oc21, od21, .func (PySem.W.fnOf "points_for" "points_for" (defArgs s_points_for) (defBody s_points_for) (defScope s_points_for) .none kV21 dc21 pm21 an21 cd21 ct21), sl21⟩) (c21 : PySem.W.codeIn K cd21 "points_for" = true) (k21 : PySem.W.keepIn K (.ref f21) = true)
    {f22 : Addr} {od22 an22 : Option Addr} {sl22 : Array (Option Value)} {oc22 kV22 dc22 pm22 cd22 ct22 : Value}
    (a22 : PySem.W.nsIn K mainGlobals "is_scheme" = some (some (.ref f22))) (l22 : K.lookup f22 = some ⟨oc22, od22, .func (PySem.W.fnOf "is_scheme" "is_scheme" (defArgs s_is_scheme) (defBody s_is_scheme) (defScope s_is_scheme) .none kV22 dc22 pm22 an22 cd22 ct22), sl22⟩) (c22 : PySem.W.codeIn K cd22 "is_scheme" = true) (k22 : PySem.W.keepIn K (.ref f22) = true)
    {f23 : Addr} {od23 an23 : Option Addr} {sl23 : Array (Option Value)} {oc23 kV23 dc23 pm23 cd23 ct23 : Value}
    (a23 : PySem.W.nsIn K mainGlobals "check_scheme" = some (some (.ref f23))) (l23 : K.lookup f23 = some ⟨oc23, od23, .func (PySem.W.fnOf "check_scheme" "check_scheme" (defArgs s_check_scheme) (defBody s_check_scheme) (defScope s_check_scheme) .none kV23 dc23 pm23 an23 cd23 ct23), sl23⟩) (c23 : PySem.W.codeIn K cd23 "check_scheme" = true) (k23 : PySem.W.keepIn K (.ref f23) = true)
    {f24 : Addr} {od24 an24 : Option Addr} {sl24 : Array (Option Value)} {oc24 kV24 dc24 pm24 cd24 ct24 : Value}
    (a24 : PySem.W.nsIn K mainGlobals "size_for" = some (some (.ref f24))) (l24 : K.lookup f24 = some ⟨oc24, od24, .func (PySem.W.fnOf "size_for" "size_for" (defArgs s_size_for) (defBody s_size_for) (defScope s_size_for) .none kV24 dc24 pm24 an24 cd24 ct24), sl24⟩) (c24 : PySem.W.codeIn K cd24 "size_for" = true) (k24 : PySem.W.keepIn K (.ref f24) = true)
    {f25 : Addr} {od25 an25 : Option Addr} {sl25 : Array (Option Value)} {oc25 kV25 dc25 pm25 cd25 ct25 : Value}
    (a25 : PySem.W.nsIn K mainGlobals "size_of" = some (some (.ref f25))) (l25 : K.lookup f25 = some ⟨oc25, od25, .func (PySem.W.fnOf "size_of" "size_of" (defArgs s_size_of) (defBody s_size_of) (defScope s_size_of) .none kV25 dc25 pm25 an25 cd25 ct25), sl25⟩) (c25 : PySem.W.codeIn K cd25 "size_of" = true) (k25 : PySem.W.keepIn K (.ref f25) = true)
    {f26 : Addr} {od26 an26 : Option Addr} {sl26 : Array (Option Value)} {oc26 kV26 dc26 pm26 cd26 ct26 : Value}
    (a26 : PySem.W.nsIn K mainGlobals "room_for" = some (some (.ref f26))) (l26 : K.lookup f26 = some ⟨oc26, od26, .func (PySem.W.fnOf "room_for" "room_for" (defArgs s_room_for) (defBody s_room_for) (defScope s_room_for) .none kV26 dc26 pm26 an26 cd26 ct26), sl26⟩) (c26 : PySem.W.codeIn K cd26 "room_for" = true) (k26 : PySem.W.keepIn K (.ref f26) = true)
    {f27 : Addr} {od27 an27 : Option Addr} {sl27 : Array (Option Value)} {oc27 kV27 dc27 pm27 cd27 ct27 : Value}
    (a27 : PySem.W.nsIn K mainGlobals "room_of" = some (some (.ref f27))) (l27 : K.lookup f27 = some ⟨oc27, od27, .func (PySem.W.fnOf "room_of" "room_of" (defArgs s_room_of) (defBody s_room_of) (defScope s_room_of) .none kV27 dc27 pm27 an27 cd27 ct27), sl27⟩) (c27 : PySem.W.codeIn K cd27 "room_of" = true) (k27 : PySem.W.keepIn K (.ref f27) = true)
    {f28 : Addr} {od28 an28 : Option Addr} {sl28 : Array (Option Value)} {oc28 kV28 dc28 pm28 cd28 ct28 : Value}
    (a28 : PySem.W.nsIn K mainGlobals "_law_right" = some (some (.ref f28))) (l28 : K.lookup f28 = some ⟨oc28, od28, .func (PySem.W.fnOf "_law_right" "_law_right" (defArgs s__law_right) (defBody s__law_right) (defScope s__law_right) .none kV28 dc28 pm28 an28 cd28 ct28), sl28⟩) (c28 : PySem.W.codeIn K cd28 "_law_right" = true) (k28 : PySem.W.keepIn K (.ref f28) = true)
    {f29 : Addr} {od29 an29 : Option Addr} {sl29 : Array (Option Value)} {oc29 kV29 dc29 pm29 cd29 ct29 : Value}
    (a29 : PySem.W.nsIn K mainGlobals "_law_well" = some (some (.ref f29))) (l29 : K.lookup f29 = some ⟨oc29, od29, .func (PySem.W.fnOf "_law_well" "_law_well" (defArgs s__law_well) (defBody s__law_well) (defScope s__law_well) .none kV29 dc29 pm29 an29 cd29 ct29), sl29⟩) (c29 : PySem.W.codeIn K cd29 "_law_well" = true) (k29 : PySem.W.keepIn K (.ref f29) = true)
    {f30 : Addr} {od30 an30 : Option Addr} {sl30 : Array (Option Value)} {oc30 kV30 dc30 pm30 cd30 ct30 : Value}
    (a30 : PySem.W.nsIn K mainGlobals "law" = some (some (.ref f30))) (l30 : K.lookup f30 = some ⟨oc30, od30, .func (PySem.W.fnOf "law" "law" (defArgs s_law) (defBody s_law) (defScope s_law) .none kV30 dc30 pm30 an30 cd30 ct30), sl30⟩) (c30 : PySem.W.codeIn K cd30 "law" = true) (k30 : PySem.W.keepIn K (.ref f30) = true)
    (z_divmod : PySem.W.nsIn K mainGlobals "divmod" = some none)
    (z_int : PySem.W.nsIn K mainGlobals "int" = some none)
    (z_len : PySem.W.nsIn K mainGlobals "len" = some none)
    (z_sum : PySem.W.nsIn K mainGlobals "sum" = some none)
    (z_range : PySem.W.nsIn K mainGlobals "range" = some none)
    (z_min : PySem.W.nsIn K mainGlobals "min" = some none)
    (z_isinstance : PySem.W.nsIn K mainGlobals "isinstance" = some none)
    (z_bool : PySem.W.nsIn K mainGlobals "bool" = some none)
    (z_tuple : PySem.W.nsIn K mainGlobals "tuple" = some none)
    (z_str : PySem.W.nsIn K mainGlobals "str" = some none)
    (z_repr : PySem.W.nsIn K mainGlobals "repr" = some none)
    (z_max : PySem.W.nsIn K mainGlobals "max" = some none)
    (z_abs : PySem.W.nsIn K mainGlobals "abs" = some none)
    (z_all : PySem.W.nsIn K mainGlobals "all" = some none)
    {p_PRIMES : Addr} {po_PRIMES : Option Addr} {pi_PRIMES : Array Value} {pn_PRIMES : Nat} {ps_PRIMES : Array (Option Value)} (x_PRIMES : PySem.W.nsIn K mainGlobals "PRIMES" = some (some (.ref p_PRIMES))) (y_PRIMES : K.lookup p_PRIMES = some ⟨.type "tuple", po_PRIMES, .seq pi_PRIMES pn_PRIMES, ps_PRIMES⟩) (u_PRIMES : decide (pi_PRIMES.size ≤ sizeLine) = true) (v_PRIMES : isInts [11, 13, 17, 19, 23, 29, 31, 37, 41, 43, 47, 53, 59, 61, 67, 71, 73, 79, 83, 89, 97] pi_PRIMES.toList = true) :
    ∃ fd : FuncData, (∀ (s : Shared) (u : Value), BindsTo s fd ⟨[u], []⟩ [("_law_script", u)]) ∧ ∀ base : Heap, K.In base → base.Ns mainGlobals mg → FnG l.prog w K mg base 8 fa fd ["_law_script"] (SpL K m_law) := by
  cases hfa.symm.trans (PySem.W.mg_of X G a30)
  have m_divmod := PySem.W.mg_none_of X G z_divmod
  have m_int := PySem.W.mg_none_of X G z_int
  have m_len := PySem.W.mg_none_of X G z_len
  have m_sum := PySem.W.mg_none_of X G z_sum
  have m_range := PySem.W.mg_none_of X G z_range
  have m_min := PySem.W.mg_none_of X G z_min
  have m_isinstance := PySem.W.mg_none_of X G z_isinstance
  have m_bool := PySem.W.mg_none_of X G z_bool
  have m_tuple := PySem.W.mg_none_of X G z_tuple
  have m_str := PySem.W.mg_none_of X G z_str
  have m_repr := PySem.W.mg_none_of X G z_repr
  have m_max := PySem.W.mg_none_of X G z_max
  have m_abs := PySem.W.mg_none_of X G z_abs
  have m_all := PySem.W.mg_none_of X G z_all
  have g_PRIMES := PySem.W.mg_of X G x_PRIMES
  have e_PRIMES := da_kints [11, 13, 17, 19, 23, 29, 31, 37, 41, 43, 47, 53, 59, 61, 67, 71, 73, 79, 83, 89, 97] y_PRIMES u_PRIMES v_PRIMES
  refine ⟨PySem.W.fnOf "law" "law" (defArgs s_law) (defBody s_law) (defScope s_law) .none kV30 dc30 pm30 an30 cd30 ct30, fun s v => .of_eq rfl, fun base _ _ => ?_⟩
  have D__law_draw := ok__law_draw (P := l.prog) (w := w) (base := base) m_divmod m_int (PySem.W.mg_of X G a0) (fun_mk (st := s__law_draw) l0 c0 k0)
  have D__law_any_of := ok__law_any_of (P := l.prog) (w := w) (base := base) m_len D__law_draw (PySem.W.mg_of X G a1) (fun_mk (st := s__law_any_of) l1 c1 k1)
  have D__law_number := ok__law_number (P := l.prog) (w := w) (base := base) D__law_draw D__law_any_of (PySem.W.mg_of X G a2) (fun_mk (st := s__law_number) l2 c2 k2)
  have D__law_sum := ok__law_sum (P := l.prog) (w := w) (base := base) m_sum m_range m_min (PySem.W.mg_of X G a3) (fun_mk (st := s__law_sum) l3 c3 k3)
  have D_is_whole := ok_is_whole (P := l.prog) (w := w) (base := base) m_isinstance m_int m_bool (PySem.W.mg_of X G a4) (fun_mk (st := s_is_whole) l4 c4 k4)
  have D_is_within := ok_is_within (P := l.prog) (w := w) (base := base) D_is_whole (PySem.W.mg_of X G a5) (fun_mk (st := s_is_within) l5 c5 k5)
  have D_check_within := ok_check_within (P := l.prog) (w := w) (base := base) D_is_within (PySem.W.mg_of X G a6) (fun_mk (st := s_check_within) l6 c6 k6)
  have D_check_helpers := ok_check_helpers (P := l.prog) (w := w) (base := base) D_check_within (PySem.W.mg_of X G a7) (fun_mk (st := s_check_helpers) l7 c7 k7)
  have D_numbers_held := ok_numbers_held (P := l.prog) (w := w) (base := base) m_sum m_range m_min (PySem.W.mg_of X G a8) (fun_mk (st := s_numbers_held) l8 c8 k8)
  have D_most_numbers := ok_most_numbers (P := l.prog) (w := w) (base := base) D_check_helpers D_check_within D_numbers_held (PySem.W.mg_of X G a9) (fun_mk (st := s_most_numbers) l9 c9 k9)
  have D_least_room := ok_least_room (P := l.prog) (w := w) (base := base) m_range D_check_within D_check_helpers D_numbers_held (PySem.W.mg_of X G a10) (fun_mk (st := s_least_room) l10 c10 k10)
  have D__law_is_amount := ok__law_is_amount (P := l.prog) (w := w) (base := base) m_isinstance m_int m_bool (PySem.W.mg_of X G a11) (fun_mk (st := s__law_is_amount) l11 c11 k11)
  have D_least_letters := ok_least_letters (P := l.prog) (w := w) (base := base) m_range D_check_within D_check_helpers D_numbers_held (PySem.W.mg_of X G a12) (fun_mk (st := s_least_letters) l12 c12 k12)
  have D__law_least_right := ok__law_least_right (P := l.prog) (w := w) (base := base) D_least_room D__law_sum D__law_is_amount D_least_letters (PySem.W.mg_of X G a13) (fun_mk (st := s__law_least_right) l13 c13 k13)
  have D__law_primes := ok__law_primes (P := l.prog) (w := w) (base := base)  (PySem.W.mg_of X G a14) (fun_mk (st := s__law_primes) l14 c14 k14)
  have D__law_climb := ok__law_climb (P := l.prog) (w := w) (base := base) m_range m_int m_tuple (PySem.W.mg_of X G a15) (fun_mk (st := s__law_climb) l15 c15 k15)
  have D__law_spots := ok__law_spots (P := l.prog) (w := w) (base := base) m_range m_len D__law_climb (PySem.W.mg_of X G a16) (fun_mk (st := s__law_spots) l16 c16 k16)
  have D__law_plan := ok__law_plan (P := l.prog) (w := w) (base := base) m_len D__law_any_of D__law_primes D__law_draw D__law_spots (PySem.W.mg_of X G a17) (fun_mk (st := s__law_plan) l17 c17 k17)
  have D_is_tuple_of := ok_is_tuple_of (P := l.prog) (w := w) (base := base) m_isinstance m_tuple m_len (PySem.W.mg_of X G a18) (fun_mk (st := s_is_tuple_of) l18 c18 k18)
  have D_is_prime := ok_is_prime (P := l.prog) (w := w) (base := base) g_PRIMES e_PRIMES D_is_whole (PySem.W.mg_of X G a19) (fun_mk (st := s_is_prime) l19 c19 k19)
  have D_powers_from := ok_powers_from (P := l.prog) (w := w) (base := base) m_range m_tuple (PySem.W.mg_of X G a20) (fun_mk (st := s_powers_from) l20 c20 k20)
  have D_points_for := ok_points_for (P := l.prog) (w := w) (base := base) m_tuple m_range m_len D_powers_from (PySem.W.mg_of X G a21) (fun_mk (st := s_points_for) l21 c21 k21)
  have D_is_scheme := ok_is_scheme (P := l.prog) (w := w) (base := base) m_isinstance m_str m_len D_is_tuple_of D_is_prime D_is_within D_points_for (PySem.W.mg_of X G a22) (fun_mk (st := s_is_scheme) l22 c22 k22)
  have D_check_scheme := ok_check_scheme (P := l.prog) (w := w) (base := base) D_is_scheme (PySem.W.mg_of X G a23) (fun_mk (st := s_check_scheme) l23 c23 k23)
  have D_size_for := ok_size_for (P := l.prog) (w := w) (base := base)  (PySem.W.mg_of X G a24) (fun_mk (st := s_size_for) l24 c24 k24)
  have D_size_of := ok_size_of (P := l.prog) (w := w) (base := base) D_check_scheme D_size_for (PySem.W.mg_of X G a25) (fun_mk (st := s_size_of) l25 c25 k25)
  have D_room_for := ok_room_for (P := l.prog) (w := w) (base := base)  (PySem.W.mg_of X G a26) (fun_mk (st := s_room_for) l26 c26 k26)
  have D_room_of := ok_room_of (P := l.prog) (w := w) (base := base) D_check_scheme D_room_for (PySem.W.mg_of X G a27) (fun_mk (st := s_room_of) l27 c27 k27)
  have D__law_right := ok__law_right (P := l.prog) (w := w) (base := base) m_repr m_max m_min D__law_draw D__law_number D__law_sum D_most_numbers D__law_least_right D__law_plan D_size_of D_room_of D_least_room D_least_letters (PySem.W.mg_of X G a28) (fun_mk (st := s__law_right) l28 c28 k28)
  have D__law_well := ok__law_well (P := l.prog) (w := w) (base := base) m_int m_len m_abs (PySem.W.mg_of X G a29) (fun_mk (st := s__law_well) l29 c29 k29)
  have D_law := ok_law (P := l.prog) (w := w) (base := base) m_all m_range m_max m_min m_len D__law_right D__law_well (PySem.W.mg_of X G a30) (fun_mk (st := s_law) l30 c30 k30)
  obtain ⟨f, fd, e1, F, R⟩ := D_law
  cases e1.symm.trans (PySem.W.mg_of X G a30)
  obtain ⟨c1, o1, kV, o2, o3, o4, cdv, o5, o6, rfl, lk, hcd⟩ := F.ex
  rw [l30] at lk
  cases lk
  exact R

end
end P11
namespace DL
open PySem L2

/-! ### what a mirror tells, whatever the well holds -/
def Wp {α : Type} (f : Wl → Option (α × Wl)) (P : α → Prop) : Prop := ∀ w, ∃ a w', f w = some (a, w') ∧ P a
section
variable {α β : Type} {f : Wl → Option (α × Wl)} {P Q : α → Prop}
theorem Wp.mono (h : Wp f P) (k : ∀ a, P a → Q a) : Wp f Q := fun w => by
  obtain ⟨a, w', e, p⟩ := h w
  exact ⟨a, w', e, k a p⟩
theorem Wp.andp (h : Wp f P) (k : ∀ a w w', f w = some (a, w') → P a → Q a) : Wp f Q := fun w => by
  obtain ⟨a, w', e, p⟩ := h w
  exact ⟨a, w', e, k a w w' e p⟩
theorem wp_ret {a : α} (h : P a) : Wp (fun w => some (a, w)) P := fun w => ⟨a, w, rfl, h⟩
theorem wp_bind {g : α × Wl → Option (β × Wl)} {R : β → Prop} (h : Wp f fun a => Wp (fun w => g (a, w)) R) : Wp (fun w => (f w).bind g) R := fun w => by
  obtain ⟨a, w1, e, k⟩ := h w
  obtain ⟨b, w2, e2, r⟩ := k w1
  exact ⟨b, w2, by show (f w).bind g = _; rw [e]; exact e2, r⟩
theorem wp_opt {o : Option α} {g : α → Wl → Option (β × Wl)} {R : β → Prop} (h : ∃ z, o = some z ∧ Wp (g z) R) : Wp (fun w => o.bind fun z => g z w) R := by
  obtain ⟨z, rfl, k⟩ := h
  exact k
theorem wp_if {c : Prop} [Decidable c] {g g' : Wl → Option (β × Wl)} {R : β → Prop} (h1 : c → Wp g R) (h2 : ¬c → Wp g' R) : Wp (fun w => if c then g w else g' w) R := by
  by_cases h : c
  · simp only [h, if_true]; exact h1 h
  · simp only [h, if_false]; exact h2 h
end
section
variable {η : Vw} {fa fb fc fe : FE} {fs fk : FA} {fq fq' : FQ} {ft gt : FT} {f g : FS} {P : PyData → Prop} {PA : List PyData → Prop} {PT : Bool → Prop} {PQ : Bool × List PyData → Prop} {PS : Ctl → Prop} {i : Nat} {d : PyData}
/-! values -/
theorem w_C (h : P d) : Wp (fC d η) P := wp_ret h
theorem w_var (e : slAt η i = .dat d) (h : P d) : Wp (fVar i η) P := fun w => ⟨d, w, by unfold fVar; rw [e], h⟩
theorem w_2 {k : PyData → PyData → Option PyData} (h : Wp (fa η) fun a => Wp (fb η) fun b => ∃ z, k a b = some z ∧ P z) : Wp (f2 k fa fb η) P := by
  refine wp_bind (h.mono fun a h => ?_)
  show Wp (fun w => (fb η w).bind fun y => (k a y.1).bind fun z => some (z, y.2)) P
  refine wp_bind (h.mono fun b ⟨z, e, p⟩ => ?_)
  show Wp (fun w => (k a b).bind fun z => some (z, w)) P
  exact wp_opt ⟨z, e, wp_ret p⟩
theorem w_1 {k : PyData → Option PyData} (h : Wp (fa η) fun a => ∃ z, k a = some z ∧ P z) : Wp (f1 k fa η) P := by
  refine wp_bind (h.mono fun a ⟨z, e, p⟩ => ?_)
  show Wp (fun w => (k a).bind fun z => some (z, w)) P
  exact wp_opt ⟨z, e, wp_ret p⟩
theorem w_3 {k k' : PyData → PyData → Option PyData} (h : Wp (fa η) fun a => Wp (fb η) fun b => ∃ c, k a b = some (.bool c) ∧ (c = true → Wp (fc η) fun u => ∃ z, k' b u = some z ∧ P z) ∧ (c = false → P (.bool false))) : Wp (f3 k k' fa fb fc η) P := by
  refine wp_bind (h.mono fun a h => ?_)
  show Wp (fun w => (fb η w).bind fun y => (k a y.1).bind fun z => (bOf z).bind fun c => if c = true then (fc η y.2).bind fun u => (k' y.1 u.1).bind fun z' => some (z', u.2) else some (.bool false, y.2)) P
  refine wp_bind (h.mono fun b ⟨c, e, p, q⟩ => ?_)
  show Wp (fun w => (k a b).bind fun z => (bOf z).bind fun k => if k = true then (fc η w).bind fun u => (k' b u.1).bind fun z' => some (z', u.2) else some (.bool false, w)) P
  rw [e]
  show Wp (fun w => if c = true then (fc η w).bind fun u => (k' b u.1).bind fun z' => some (z', u.2) else some (.bool false, w)) P
  refine wp_if (fun hc => wp_bind ((p hc).mono fun u ⟨z, e, p⟩ => ?_)) fun hc => wp_ret (q (by simpa using hc))
  show Wp (fun w => (k' b u).bind fun z => some (z, w)) P
  exact wp_opt ⟨z, e, wp_ret p⟩
theorem w_B (h : Wp (fa η) fun a => ∃ b, a = .bool b ∧ PT b) : Wp (fB fa η) PT := by
  refine wp_bind (h.mono fun a ⟨b, e, p⟩ => ?_)
  subst e
  exact wp_ret p
theorem w_and (h : Wp (ft η) fun a => (a = true → Wp (gt η) PT) ∧ (a = false → PT false)) : Wp (fAnd ft gt η) PT := wp_bind (h.mono fun a ⟨p, q⟩ => wp_if p fun hc => by
  have e : a = false := Bool.eq_false_iff.mpr hc
  exact wp_ret (q e))
theorem w_or (h : Wp (ft η) fun a => (a = false → Wp (gt η) PT) ∧ (a = true → PT true)) : Wp (fOr ft gt η) PT := (by refine wp_bind (h.mono fun a ⟨p, q⟩ => ?_); dsimp only; exact wp_if (fun hc => wp_ret (q hc)) fun hc => p (by simpa using hc))
theorem w_not (h : Wp (ft η) fun a => PT (!a)) : Wp (fNot ft η) PT := (by refine wp_bind (h.mono fun a p => ?_); dsimp only; exact wp_ret p)
theorem w_andV (h : Wp (fa η) fun a => ∃ b, a = .bool b ∧ (b = true → Wp (fb η) P) ∧ (b = false → P (.bool false))) : Wp (fAndV fa fb η) P := wp_bind (h.mono fun a ⟨b, e, p, q⟩ => by
  subst e
  exact wp_if p fun hc => wp_ret (q (by simpa using hc)))
theorem w_orV (h : Wp (fa η) fun a => ∃ b, a = .bool b ∧ (b = false → Wp (fb η) P) ∧ (b = true → P (.bool true))) : Wp (fOrV fa fb η) P := wp_bind (h.mono fun a ⟨b, e, p, q⟩ => by
  subst e
  exact wp_if (fun hc => wp_ret (q hc)) fun hc => p (by simpa using hc))
theorem w_notV (h : Wp (fa η) fun a => ∃ b, a = .bool b ∧ P (.bool (!b))) : Wp (fNotV fa η) P := wp_bind (h.mono fun a ⟨b, e, p⟩ => by
  subst e
  exact wp_ret p)
theorem w_if (h : Wp (ft η) fun c => (c = true → Wp (fa η) P) ∧ (c = false → Wp (fb η) P)) : Wp (fIf ft fa fb η) P := (by refine wp_bind (h.mono fun c ⟨p, q⟩ => ?_); dsimp only; exact wp_if p fun hc => q (by simpa using hc))
/-! lists of values -/
theorem w_nil (h : PA []) : Wp (fNil η) PA := wp_ret h
theorem w_cons (h : Wp (fe η) fun a => Wp (fs η) fun l => PA (a :: l)) : Wp (fCons fe fs η) PA := (by refine wp_bind (h.mono fun a h => ?_); dsimp only; exact (by refine wp_bind (h.mono fun b p => ?_); dsimp only; exact wp_ret p))
theorem w_tup (h : Wp (fs η) fun l => l.length ≤ sizeLine ∧ P (.tuple l)) : Wp (fTup fs η) P := (by refine wp_bind (h.mono fun a ⟨z, p⟩ => ?_); dsimp only; exact wp_if (fun _ => wp_ret p) fun n => (n z).elim)
theorem w_lst (h : Wp (fs η) fun l => l.length ≤ sizeLine ∧ PA l) : Wp (fLst fs η) PA := (by refine wp_bind (h.mono fun a ⟨z, p⟩ => ?_); dsimp only; exact wp_if (fun _ => wp_ret p) fun n => (n z).elim)
theorem w_L (h : Wp (fs η) fun l => P (.list l)) : Wp (fL fs η) P := (by refine wp_bind (h.mono fun a p => ?_); dsimp only; exact wp_ret p)
theorem w_Q (h : Wp (fe η) fun a => ∃ z, seqOf a = some z ∧ PQ z) : Wp (fQ fe η) PQ := (by refine wp_bind (h.mono fun a ⟨z, e, p⟩ => ?_); dsimp only; exact wp_opt ⟨z, e, wp_ret p⟩)
theorem w_own {l : List PyData} (e : slAt η i = .own l) (h : PQ (true, l)) : Wp (fOwn i η) PQ := fun w => ⟨_, w, by unfold fOwn; rw [e], h⟩
theorem w_QN (h : Wp (fs η) fun l => PQ (true, l)) : Wp (fQN fs η) PQ := (by refine wp_bind (h.mono fun a p => ?_); dsimp only; exact wp_ret p)
theorem w_len (h : Wp (fq η) fun z => P (.int (z.2.length : Int))) : Wp (fLen fq η) P := (by refine wp_bind (h.mono fun a p => ?_); dsimp only; exact wp_ret p)
theorem w_list (h : Wp (fq η) fun z => PA z.2) : Wp (fList fq η) PA := (by refine wp_bind (h.mono fun a p => ?_); dsimp only; exact wp_ret p)
theorem w_tuple (h : Wp (fq η) fun z => z.1 = true ∧ P (.tuple z.2)) : Wp (fTuple fq η) P := (by refine wp_bind (h.mono fun a ⟨z, p⟩ => ?_); dsimp only; exact wp_if (fun _ => wp_ret p) fun n => (n z).elim)
theorem w_ix (h : Wp (fq η) fun z => Wp (fe η) fun k => ∃ n d, k = .int n ∧ atI z.2 n = some d ∧ P d) : Wp (fIx fq fe η) P := by
  refine wp_bind (h.mono fun a h => ?_)
  show Wp (fun w => (fe η w).bind fun y => match y.1 with
    | .int i => (atI a.2 i).bind fun d => some (d, y.2)
    | _ => none) P
  refine wp_bind (h.mono fun b ⟨n, d, e, e2, p⟩ => ?_)
  subst e
  show Wp (fun w => (atI a.2 n).bind fun d => some (d, w)) P
  exact wp_opt ⟨d, e2, wp_ret p⟩
theorem w_blt {k : List PyData → Option PyData} (h : Wp (fs η) fun l => ∃ z, k l = some z ∧ P z) : Wp (fBlt k fs η) P := (by refine wp_bind (h.mono fun a ⟨z, e, p⟩ => ?_); dsimp only; exact wp_opt ⟨z, e, wp_ret p⟩)
theorem w_isi {c : String → Option Bool} (h : Wp (fe η) fun a => ∃ b, c (tyOf a) = some b ∧ P (.bool b)) : Wp (fIsi c fe η) P := (by refine wp_bind (h.mono fun a ⟨z, e, p⟩ => ?_); dsimp only; exact wp_opt ⟨z, e, wp_ret p⟩)
theorem w_in {neg : Bool} (h : Wp (fa η) fun a => Wp (fq η) fun z => (flatD a && z.2.all flatD) = true ∧ P (.bool (if neg then !inD a z.2 else inD a z.2))) : Wp (fIn neg fa fq η) P := by
  refine wp_bind (h.mono fun a h => ?_)
  show Wp (fun w => (fq η w).bind fun y => if (flatD a && y.1.2.all flatD) = true then some (.bool (if neg then !inD a y.1.2 else inD a y.1.2), y.2) else none) P
  exact wp_bind (h.mono fun b ⟨z, p⟩ => wp_if (fun _ => wp_ret p) fun n => (n z).elim)
theorem w_sum (h : Wp (fq η) fun z => z.1 = true ∧ ∃ ns, intsOf z.2 = some ns ∧ P (.int ns.sum)) : Wp (fSum fq η) P := (by refine wp_bind (h.mono fun a ⟨z, ns, e, p⟩ => ?_); dsimp only; exact wp_if (fun _ => wp_opt ⟨ns, e, wp_ret p⟩) fun n => (n z).elim)
theorem w_all (h : Wp (fq η) fun z => z.1 = true ∧ ∃ bs, boolsOf z.2 = some bs ∧ P (.bool (bs.all id))) : Wp (fAllB fq η) P := (by refine wp_bind (h.mono fun a ⟨z, ns, e, p⟩ => ?_); dsimp only; exact wp_if (fun _ => wp_opt ⟨ns, e, wp_ret p⟩) fun n => (n z).elim)
theorem w_repr (h : Wp (fe η) fun a => okShow a = true ∧ P (.str a.shown)) : Wp (fRepr fe η) P := (by refine wp_bind (h.mono fun a ⟨z, p⟩ => ?_); dsimp only; exact wp_if (fun _ => wp_ret p) fun n => (n z).elim)
/-! calls -/
@[irreducible] def WM (m : FM) (ds : List PyData) (P : PyData → Prop) : Prop := Wp (m ds) P
theorem WM.mk {m : FM} {ds : List PyData} {P : PyData → Prop} (h : Wp (m ds) P) : WM m ds P := by
  unfold WM
  exact h
theorem WM.out {m : FM} {ds : List PyData} {P : PyData → Prop} (h : WM m ds P) : Wp (m ds) P := by
  unfold WM at h
  exact h
theorem w_call {m : FM} {n : Nat} (h : Wp (fs η) fun l => l.length = n ∧ WM m l P) : Wp (fCall m n fs η) P := (by refine wp_bind (h.mono fun a ⟨z, p⟩ => ?_); dsimp only; exact wp_if (fun _ => p.out) fun n => (n z).elim)
theorem w_callW {m : FM} {n : Nat} (e : slAt η i = .well) (h : Wp (fs η) fun l => l.length = n ∧ WM m l P) : Wp (fCallW i m n fs η) P := by
  have : fCallW i m n fs η = fun w => (fs η w).bind fun y => if y.1.length = n then m y.1 y.2 else none := by
    funext w
    unfold fCallW
    rw [e]
  rw [this]
  exact wp_bind (h.mono fun a ⟨z, p⟩ => wp_if (fun _ => p.out) fun n => (n z).elim)
theorem w_callK {np nk n : Nat} {pm : List Nat} {m : FM} (h : Wp (fs η) fun l => Wp (fk η) fun l2 => (gp np nk pm l l2).length = n ∧ WM m (gp np nk pm l l2) P) : Wp (fCallK np nk pm m n fs fk η) P := by
  refine wp_bind (h.mono fun a h => ?_)
  show Wp (fun w => (fk η w).bind fun z => if (gp np nk pm a z.1).length = n then m (gp np nk pm a z.1) z.2 else none) P
  exact wp_bind (h.mono fun b ⟨z, p⟩ => wp_if (fun _ => p.out) fun n => (n z).elim)
theorem wm_of {n : Nat} {wl : Bool} {fS : FS} {ds : List PyData} (h : Wp (fS (ini wl n ds)) fun c => match c with | .rt d => P d | .nx _ => P .none | _ => False) : WM (mOf wl n fS) ds P := by
  refine .mk ?_
  refine wp_bind (h.mono fun c p => ?_)
  cases c with
  | rt d => exact wp_ret p
  | nx _ => exact wp_ret p
  | bk _ => exact p.elim
  | ct _ => exact p.elim
/-! statements -/
theorem w_next (h : PS (.nx η)) : Wp (fNext η) PS := wp_ret h
theorem w_break (h : PS (.bk η)) : Wp (fBreak η) PS := wp_ret h
theorem w_retN (h : PS (.rt .none)) : Wp (fRetN η) PS := wp_ret h
theorem w_seq (h : Wp (f η) fun c => match c with | .nx η' => Wp (g η') PS | c => PS c) : Wp (fSeq f g η) PS := wp_bind (h.mono fun c p => by
  cases c with
  | nx η' => exact p
  | rt d => exact wp_ret p
  | bk _ => exact wp_ret p
  | ct _ => exact wp_ret p)
theorem w_fz {l : List PyData} (e : slAt η i = .own l) (h : Wp (f (η.set i (.dat (.list l)))) PS) : Wp (fFz i f η) PS := by
  have : fFz i f η = f (η.set i (.dat (.list l))) := by
    funext w
    unfold fFz
    rw [e]
  rw [this]
  exact h
theorem w_Ret (h : Wp (fe η) fun d => PS (.rt d)) : Wp (fRet fe η) PS := (by refine wp_bind (h.mono fun a p => ?_); dsimp only; exact wp_ret p)
theorem w_set (h : Wp (fe η) fun d => PS (.nx (η.set i (.dat d)))) : Wp (fSet i fe η) PS := (by refine wp_bind (h.mono fun a p => ?_); dsimp only; exact wp_ret p)
theorem w_setN (h : Wp (fs η) fun d => PS (.nx (η.set i (.own d)))) : Wp (fSetN i fs η) PS := (by refine wp_bind (h.mono fun a p => ?_); dsimp only; exact wp_ret p)
theorem w_ifS (h : Wp (ft η) fun c => (c = true → Wp (f η) PS) ∧ (c = false → Wp (g η) PS)) : Wp (fIfS ft f g η) PS := (by refine wp_bind (h.mono fun c ⟨p, q⟩ => ?_); dsimp only; exact wp_if p fun hc => q (by simpa using hc))
theorem w_drop (h : Wp (fe η) fun _ => PS (.nx η)) : Wp (fDrop fe η) PS := (by refine wp_bind (h.mono fun a p => ?_); dsimp only; exact wp_ret p)
theorem w_asg {kt : PyData → Vw → Option Vw} (h : Wp (fe η) fun d => ∃ η', kt d η = some η' ∧ PS (.nx η')) : Wp (fAsg fe kt η) PS := (by refine wp_bind (h.mono fun a ⟨z, e, p⟩ => ?_); dsimp only; exact wp_opt ⟨z, e, wp_ret p⟩)
theorem w_app {l : List PyData} (e : slAt η i = .own l) (h : Wp (fe η) fun d => l.length < sizeLine ∧ PS (.nx (η.set i (.own (l ++ [d]))))) : Wp (fApp i fe η) PS := by
  have : fApp i fe η = fun w => (fe η w).bind fun x => if l.length < sizeLine then some (.nx (η.set i (.own (l ++ [x.1]))), x.2) else none := by
    funext w
    unfold fApp
    rw [e]
  rw [this]
  exact wp_bind (h.mono fun a ⟨z, p⟩ => wp_if (fun _ => wp_ret p) fun n => (n z).elim)
variable {fm : FMx} {PM : List Sl → Prop}
theorem w_mNil (h : PM []) : Wp (fmNil η) PM := wp_ret h
theorem w_mD (h : Wp (fe η) fun a => Wp (fm η) fun l => PM (.dat a :: l)) : Wp (fmD fe fm η) PM := (by refine wp_bind (h.mono fun a h => ?_); dsimp only; exact (by refine wp_bind (h.mono fun b p => ?_); dsimp only; exact wp_ret p))
theorem w_mN (h : Wp (fs η) fun a => Wp (fm η) fun l => PM (.own a :: l)) : Wp (fmN fs fm η) PM := (by refine wp_bind (h.mono fun a h => ?_); dsimp only; exact (by refine wp_bind (h.mono fun b p => ?_); dsimp only; exact wp_ret p))
theorem w_asgM {is : List Nat} (h : Wp (fm η) fun l => l.length ≤ sizeLine ∧ ∃ η', setAll is l η = some η' ∧ PS (.nx η')) : Wp (fAsgM is fm η) PS := (by refine wp_bind (h.mono fun a ⟨z, η', e, p⟩ => ?_); dsimp only; exact wp_if (fun _ => wp_opt ⟨η', e, wp_ret p⟩) fun n => (n z).elim)
/-! loops -/
theorem w_rng1 (h : Wp (fa η) fun a => ∃ j, a = .int j ∧ okR j = true ∧ PA (rng 0 j)) : Wp (fRng1 fa η) PA := by
  refine wp_bind (h.mono fun a ⟨j, e, z, p⟩ => ?_)
  subst e
  show Wp (fun w => if okR j = true then some (rng 0 j, w) else none) PA
  exact wp_if (fun _ => wp_ret p) fun n => (n z).elim
theorem w_rng2 (h : Wp (fa η) fun a => Wp (fb η) fun b => ∃ i j, a = .int i ∧ b = .int j ∧ (okR i && okR j) = true ∧ PA (rng i j)) : Wp (fRng2 fa fb η) PA := by
  refine wp_bind (h.mono fun a h => ?_)
  show Wp (fun w => (fb η w).bind fun y => (intOf a).bind fun i => (intOf y.1).bind fun j => if (okR i && okR j) = true then some (rng i j, y.2) else none) PA
  refine wp_bind (h.mono fun b ⟨i, j, e, e2, z, p⟩ => ?_)
  subst e
  subst e2
  show Wp (fun w => if (okR i && okR j) = true then some (rng i j, w) else none) PA
  exact wp_if (fun _ => wp_ret p) fun n => (n z).elim
theorem w_get {k : PyData → Option (List PyData)} (h : Wp (fe η) fun a => ∃ z, k a = some z ∧ PA z) : Wp (fGet k fe η) PA := (by refine wp_bind (h.mono fun a ⟨z, e, p⟩ => ?_); dsimp only; exact wp_opt ⟨z, e, wp_ret p⟩)
variable {k : PyData → Vw → Option Vw} {fi : FA} {vs : List Nat} {ds : List PyData}
theorem w_for (h : Wp (fi η) fun ds => Wp (fLoop k f ds η) PS) : Wp (fFor fi k f η) PS := wp_bind h
theorem l_nil (h : PS (.nx η)) : Wp (fLoop k f [] η) PS := wp_ret h
theorem l_cons (h : ∃ η1, k d η = some η1 ∧ Wp (f η1) fun c => match c with | .nx η' => Wp (fLoop k f ds η') PS | .ct η' => Wp (fLoop k f ds η') PS | .bk η' => PS (.nx η') | .rt r => PS (.rt r)) : Wp (fLoop k f (d :: ds) η) PS := by
  obtain ⟨η1, e, h⟩ := h
  show Wp (fun w => (k d η).bind fun η1 => (f η1 w).bind _) PS
  refine wp_opt ⟨η1, e, wp_bind (h.mono fun c p => ?_)⟩
  cases c with
  | nx η' => exact p
  | ct η' => exact p
  | bk η' => exact wp_ret p
  | rt r => exact wp_ret p
/-- a comprehension without a condition: each value is one of its item's -/
inductive All2 {α β : Type} (R : α → β → Prop) : List α → List β → Prop
  | nil : All2 R [] []
  | cons {a b as bs} : R a b → All2 R as bs → All2 R (a :: as) (b :: bs)
theorem All2.snoc {α β : Type} {R : α → β → Prop} : ∀ {as : List α} {bs : List β} {a : α} {b : β}, All2 R as bs → R a b → All2 R (as ++ [a]) (bs ++ [b])
  | _, _, x, y, .nil, h => .cons (a := x) (b := y) h .nil
  | _, _, _, _, .cons x t, h => .cons x (t.snoc h)
theorem All2.len {α β : Type} {R : α → β → Prop} : ∀ {as : List α} {bs : List β}, All2 R as bs → bs.length = as.length
  | _, _, .nil => rfl
  | _, _, .cons _ t => congrArg (· + 1) t.len
theorem turns (R : PyData → PyData → Prop) {η0 : Vw} : ∀ (ds : List PyData) (done acc : List PyData), All2 R done acc → (done ++ ds).length ≤ sizeLine → (∀ d ∈ ds, ∃ η1, k d η0 = some η1 ∧ Wp (fe η1) (R d)) →
    Wp (fTurns k fYes fe η0 ds acc) (fun rs => All2 R (done ++ ds) rs)
  | [], done, acc, h, _, _ => wp_ret (by rw [List.append_nil]; exact h)
  | d :: ds, done, acc, h, hl, hd => by
    obtain ⟨η1, e, hw⟩ := hd d List.mem_cons_self
    show Wp (fun w => (k d η0).bind fun η1 => (fYes η1 w).bind _) _
    refine wp_opt ⟨η1, e, wp_bind (wp_ret ?_)⟩
    refine wp_if (fun _ => wp_bind (hw.mono fun v r => wp_if (fun _ => ?_) fun n => ?_)) fun n => (n rfl).elim
    · have ih := turns R ds (done ++ [d]) (acc ++ [v]) (h.snoc r) (by rw [List.append_assoc]; exact hl) fun x hx => hd x (List.mem_cons_of_mem _ hx)
      rw [List.append_assoc] at ih
      exact ih
    · refine (n ?_).elim
      rw [h.len]
      rw [List.length_append, List.length_cons] at hl
      omega
theorem w_comp (R : PyData → PyData → Prop) (h : Wp (fi η) fun ds => ds.length ≤ sizeLine ∧ (∀ d ∈ ds, ∃ η1, k d (wipeV η vs) = some η1 ∧ Wp (fe η1) (R d)) ∧ ∀ rs, All2 R ds rs → PA rs) : Wp (fComp fi k fYes fe vs η) PA :=
  wp_bind (h.mono fun ds ⟨hl, hd, p⟩ => (turns R ds [] [] .nil hl hd).mono p)
theorem All2.map {α β : Type} {R : α → β → Prop} {g : α → β} (h : ∀ a b, R a b → b = g a) : ∀ {as : List α} {bs : List β}, All2 R as bs → bs = as.map g
  | _, _, .nil => rfl
  | _, _, .cons x t => by rw [List.map_cons, ← h _ _ x, ← t.map h]
/-- the same where each value is told -/
theorem w_map (r : PyData → PyData) (h : Wp (fi η) fun ds => ds.length ≤ sizeLine ∧ (∀ d ∈ ds, ∃ η1, k d (wipeV η vs) = some η1 ∧ Wp (fe η1) (· = r d)) ∧ PA (ds.map r)) : Wp (fComp fi k fYes fe vs η) PA :=
  w_comp (fun d v => v = r d) (h.mono fun ds ⟨hl, hd, p⟩ => ⟨hl, hd, fun rs h2 => by rw [h2.map (g := r) fun a b e => e]; exact p⟩)
/-! the well -/
theorem wq_split {P : PyData → Prop} {f : FE} (h : ∀ w, ∃ a w', f η w = some (a, w') ∧ P a) : Wp (f η) P := h
end
theorem mul_ok {i j : Int} (h : -(2 ^ 64) < j ∧ j < 2 ^ 64) : okMul i j = true := by
  unfold okMul
  simp only [Bool.or_eq_true, decide_eq_true_eq]
  exact .inr h
theorem mul_ok' {i j : Int} (h : -(2 ^ 64) < i ∧ i < 2 ^ 64) : okMul i j = true := by
  unfold okMul
  simp only [Bool.or_eq_true, decide_eq_true_eq]
  exact .inl h
theorem g_mul {i j : Int} {P : PyData → Prop} (h : okMul i j = true) (p : P (.int (i * j))) : ∃ z, gMul (.int i) (.int j) = some z ∧ P z := by
  unfold gMul
  exact ⟨_, if_pos h, p⟩
theorem g_mod {i j : Int} {P : PyData → Prop} (h : 0 < j) (p : P (.int (i % j))) : ∃ z, gMod (.int i) (.int j) = some z ∧ P z := by
  unfold gMod
  exact ⟨_, if_pos (decide_eq_true h), p⟩
theorem g_div {i j : Int} {P : PyData → Prop} (h : 0 < j ∧ j < 1073741824) (p : P (.int (i / j))) : ∃ z, gDiv (.int i) (.int j) = some z ∧ P z := by
  unfold gDiv
  exact ⟨_, if_pos (decide_eq_true h), p⟩
theorem g_eq {a b : PyData} {P : PyData → Prop} (h : (SeqAt.shaped a && SeqAt.shaped b) = true) (p : P (.bool (PyData.eqv a b))) : ∃ z, gEq a b = some z ∧ P z := by
  unfold gEq
  exact ⟨_, if_pos h, p⟩
theorem g_ne {a b : PyData} {P : PyData → Prop} (h : (SeqAt.shaped a && SeqAt.shaped b) = true) (p : P (.bool (!PyData.eqv a b))) : ∃ z, gNe a b = some z ∧ P z := by
  unfold gNe
  exact ⟨_, if_pos h, p⟩
end DL
namespace P11
open PySem DL L2
local macro_rules
  | `(tactic| subst_eqs) => `(tactic| repeat (first
  | with_reducible refine w_seq ?_ | with_reducible refine w_Ret ?_ | with_reducible refine w_set ?_ | with_reducible refine w_setN ?_ | with_reducible refine w_ifS ?_ | with_reducible refine w_drop ?_ | with_reducible refine w_asgM ?_ | with_reducible refine w_next ?_ | with_reducible refine w_retN ?_ | with_reducible refine w_break ?_
  | ((with_reducible apply w_fz); · rfl) | ((with_reducible apply w_app); · rfl) | with_reducible refine w_asg ?_ | with_reducible refine w_for ?_
  | with_reducible refine w_C ?_ | ((with_reducible apply w_var); · rfl) | with_reducible refine w_2 ?_ | with_reducible refine w_1 ?_ | with_reducible refine w_cons ?_ | with_reducible refine w_nil ?_ | with_reducible refine w_tup ?_ | with_reducible refine w_lst ?_ | with_reducible refine w_L ?_ | with_reducible refine w_Q ?_ | ((with_reducible apply w_own); · rfl) | with_reducible refine w_QN ?_ | with_reducible refine w_len ?_ | with_reducible refine w_list ?_ | with_reducible refine w_tuple ?_ | with_reducible refine w_ix ?_
  | with_reducible refine w_call ?_ | ((with_reducible apply w_callW); · rfl) | with_reducible refine w_callK ?_ | with_reducible refine w_blt ?_ | with_reducible refine w_isi ?_ | with_reducible refine w_repr ?_ | with_reducible refine w_sum ?_ | with_reducible refine w_B ?_ | with_reducible refine w_and ?_ | with_reducible refine w_or ?_ | with_reducible refine w_not ?_ | with_reducible refine w_andV ?_ | with_reducible refine w_orV ?_ | with_reducible refine w_notV ?_ | with_reducible refine w_if ?_ | with_reducible refine w_3 ?_
  | with_reducible refine w_mD ?_ | with_reducible refine w_mN ?_ | with_reducible refine w_mNil ?_ | with_reducible refine w_in ?_ | with_reducible refine w_rng1 ?_ | with_reducible refine w_rng2 ?_
  | refine g_eq (by first | rfl | decide +kernel) ?_ | refine g_ne (by first | rfl | decide +kernel) ?_
  | refine g_mul (by first | exact mul_ok (by omega) | exact mul_ok' (by omega)) ?_ | refine g_mod (by omega) ?_ | refine g_div (by omega) ?_
  | refine ⟨_, rfl, ?_⟩ | refine ⟨rfl, ?_⟩))
theorem draw {L : Int} {P : PyData → Prop} (h0 : 0 < L) (h1 : L < 1073741824) (p : ∀ r : Int, 0 ≤ r → r < L → P (.int r)) : WM m__law_draw [.int L] P := by
  refine .mk ?_
  rintro ⟨a, b, c⟩
  have hm : ∀ z : Int, 0 ≤ z % L ∧ z % L < L := fun z => ⟨Int.emod_nonneg z (by omega), Int.emod_lt_of_pos z h0⟩
  have m1 := fun z : Int => Int.emod_nonneg z (show (5003 : Int) ≠ 0 by decide)
  have m2 := fun z : Int => Int.emod_lt_of_pos z (show (0 : Int) < 5003 by decide)
  by_cases ha : 0 < a
  · refine ⟨.int (a % L), (a / L, b, c), ?_, p _ (hm a).1 (hm a).2⟩
    simp [m__law_draw, mOf, ini, f__law_draw, fSeq, fIfS, fB, f2, gGt, gI, fWix, slAt, fC, wGet, ha, fWdiv, fDivmod, gDivmod, fCons, fNil, fVar, fRet, h0, h1, wSet]
  · have hq : ∀ z : Int, okMul z (z % 5003 + 40009) = true := fun z => mul_ok (by have := m1 z; have := m2 z; omega)
    have k1 : ∀ z : Int, okMul z 48017 = true := fun z => mul_ok (by omega)
    have k2 : ∀ z : Int, okMul 12347 z = true := fun z => mul_ok' (by omega)
    simp [m__law_draw, mOf, ini, f__law_draw, fSeq, fIfS, fB, f2, gGt, gI, fWix, slAt, fC, wGet, ha, fNext, fWput, fSet, gMod, gMul, gAdd, gDiv, okDiv, fBlt, gInt, fCons, fNil, fVar, fRet, h0, h1, wSet, intOf, k1, k2, hq]
    exact p _ (hm _).1 (hm _).2
theorem atI_in {ds : List PyData} {k : Int} (h0 : 0 ≤ k) (h1 : k < ds.length) : ∃ d, atI ds k = some d ∧ d ∈ ds := by
  have lt : k.toNat < ds.length := by omega
  refine ⟨ds[k.toNat], ?_, List.getElem_mem lt⟩
  unfold atI ixN
  rw [if_pos h0, if_pos h1]
  exact List.getElem?_eq_getElem lt
theorem any_of {xs : List PyData} {P : PyData → Prop} (h0 : 0 < xs.length) (h1 : xs.length < 1073741824) (p : ∀ x ∈ xs, P x) : WM m__law_any_of [.tuple xs] P := by
  unfold m__law_any_of f__law_any_of
  refine wm_of ?_
  subst_eqs
  refine draw (show 0 < ((xs.length : Nat) : Int) by omega) (show ((xs.length : Nat) : Int) < 1073741824 by omega) fun r r0 r1 => ?_
  obtain ⟨d, e, m⟩ := atI_in (ds := xs) (k := r) r0 r1
  exact ⟨r, d, rfl, e, p d m⟩
theorem number {P : PyData → Prop} (p : ∀ r : Int, 1 ≤ r → r ≤ 1000 → P (.int r)) : WM m__law_number [] P := by
  unfold m__law_number f__law_number
  refine wm_of ?_
  subst_eqs
  refine ⟨by decide, ?_⟩
  subst_eqs
  refine any_of ?_ ?_ fun x hx => ?_
  · decide
  · decide
  have h : ∃ L : Int, x = .int L ∧ 0 < L ∧ L ≤ 1000 := by
    simp only [List.not_mem_nil, or_false, List.mem_cons] at hx
    rcases hx with h | h | h | h | h | h <;> exact ⟨_, h, by decide, by decide⟩
  obtain ⟨L, rfl, h1, h2⟩ := h
  subst_eqs
  exact draw h1 (by omega) fun r r0 r1 => ⟨_, rfl, p _ (by omega) (by omega)⟩
/-- the sum that both sides add up -/
def S (n : Nat) (aids wide notes : Int) : Int := ((List.range n).map fun i : Nat => min wide ((aids - (i : Int)) * notes)).sum
theorem ints_map (f : Nat → Int) : ∀ ns : List Nat, intsOf (ns.map fun i => PyData.int (f i)) = some (ns.map f)
  | [] => rfl
  | n :: ns => by
    show (intsOf (ns.map fun i => PyData.int (f i))).bind (fun z => some (f n :: z)) = _
    rw [ints_map f ns]
    rfl
theorem sums {n : Nat} {aids wide notes : Int} {P : PyData → Prop} (hn : n ≤ 1000) (hx : -(2 ^ 64) < notes ∧ notes < 2 ^ 64) (p : P (.int (S n aids wide notes))) : WM m__law_sum [.int (n : Int), .int aids, .int wide, .int notes] P := by
  refine wm_of (w_Ret (w_sum (w_QN (w_map (fun d => match d with | .int i => .int (min wide ((aids - i) * notes)) | d => d) (w_rng1 (w_var rfl ⟨_, rfl, ?_, ?_, fun d hd => ?_, ?_⟩))))))
  · unfold okR
    simp only [decide_eq_true_eq]
    omega
  · unfold rng
    simp
    have : (1000 : Nat) ≤ sizeLine := by decide
    omega
  · unfold rng at hd
    obtain ⟨i, _, rfl⟩ := List.mem_map.mp hd
    refine ⟨_, rfl, w_blt (w_cons (w_var rfl (w_cons (w_2 (w_2 (w_var rfl (w_var rfl ⟨_, rfl, w_var rfl (g_mul (mul_ok hx) (w_nil ⟨_, rfl, ?_⟩))⟩)))))))⟩
    simp only [PyData.int.injEq]
    omega
  · refine ⟨rfl, (List.range n).map fun i : Nat => min wide ((aids - (i : Int)) * notes), ?_, p⟩
    unfold rng
    simp only [List.map_map, Int.sub_zero, Int.toNat_natCast]
    rw [← ints_map (fun i : Nat => min wide ((aids - (i : Int)) * notes))]
    congr 1
    refine List.map_congr_left fun q _ => ?_
    simp
theorem whole {v : Int} {P : PyData → Prop} (p : P (.bool true)) : WM m_is_whole [.int v] P := .mk fun w => ⟨_, w, by simp [m_is_whole, f_is_whole, Wp, mOf, ini, fRet, fAndV, fIsi, tyOf, isInt, isBool, fNotV, fVar, slAt, bOf], p⟩
theorem within {v lo hi : Int} {P : PyData → Prop} (p : P (.bool (decide (lo ≤ v) && decide (v ≤ hi)))) : WM m_is_within [.int v, .int lo, .int hi] P := by
  unfold m_is_within f_is_within
  refine wm_of ?_
  subst_eqs
  refine whole ?_
  subst_eqs
  refine ⟨fun _ => ?_, fun h => (by cases h)⟩
  subst_eqs
  refine ⟨fun h => ?_, fun h => ?_⟩
  · subst_eqs
    rw [h] at p
    exact p
  · rw [h] at p
    exact p
theorem chk {v lo hi : Int} {P : PyData → Prop} (h1 : lo ≤ v) (h2 : v ≤ hi) (p : P .none) : WM m_check_within [.int v, .int lo, .int hi] P := by
  unfold m_check_within f_check_within
  refine wm_of ?_
  subst_eqs
  refine within ?_
  subst_eqs
  rw [decide_eq_true h1, decide_eq_true h2]
  exact ⟨fun h => (by cases h), fun _ => w_next p⟩
theorem hlp {k d : Int} {P : PyData → Prop} (h1 : 1 ≤ k) (h2 : k ≤ 12) (h3 : k ≤ d) (h4 : d ≤ 12) (p : P .none) : WM m_check_helpers [.int k, .int d] P := by
  unfold m_check_helpers f_check_helpers
  refine wm_of ?_
  subst_eqs
  refine chk h1 h2 ?_
  subst_eqs
  exact chk h3 h4 p
theorem held {n : Nat} {aids wide notes : Int} {P : PyData → Prop} (hn : n ≤ 1000) (hx : -(2 ^ 64) < notes ∧ notes < 2 ^ 64) (p : P (.int (S n aids wide notes))) : WM m_numbers_held [.int (n : Int), .int aids, .int wide, .int notes] P := .mk (sums hn hx p).out
theorem most {n : Nat} {aids wide notes : Int} {P : PyData → Prop} (h1 : 1 ≤ n) (h2 : n ≤ 12) (h3 : (n : Int) ≤ aids) (h4 : aids ≤ 12) (w1 : 1 ≤ wide) (w2 : wide ≤ 1000) (l1 : 1 ≤ notes) (l2 : notes ≤ 1000) (p : P (.int (S n aids wide notes))) : WM m_most_numbers [.int (n : Int), .int aids, .int wide, .int notes] P := by
  unfold m_most_numbers f_most_numbers
  refine wm_of ?_
  subst_eqs
  refine hlp (by omega) (by omega) h3 h4 ?_
  subst_eqs
  refine chk w1 w2 ?_
  subst_eqs
  refine chk l1 l2 ?_
  subst_eqs
  refine held (n := n) (by omega) (by omega) ?_
  exact p
theorem rng_nil {i j : Int} (h : j ≤ i) : rng i j = [] := by
  unfold rng
  rw [show (j - i).toNat = 0 by omega]
  rfl
theorem rng_cons {i j : Int} (h : i < j) : rng i j = .int i :: rng (i + 1) j := by
  unfold rng
  rw [show (j - i).toNat = (j - (i + 1)).toNat + 1 by omega, List.range_succ_eq_map, List.map_cons, List.map_map]
  congr 1
  · simp
  · refine List.map_congr_left fun x _ => ?_
    simp only [Function.comp_apply, PyData.int.injEq]
    omega
/-- the first number that is good -/
theorem search (g : Int → Prop) (Sh : Vw → Prop) {k : PyData → Vw → Option Vw} {f : FS} {PS : Ctl → Prop} {hi : Int}
    (step : ∀ η r, Sh η → 1 ≤ r → r < hi → ∃ η1, k (.int r) η = some η1 ∧ Wp (f η1) fun c => (c = .rt (.int r) ∧ g r) ∨ ∃ η', c = .nx η' ∧ Sh η' ∧ ¬ g r)
    (found : ∀ r, 1 ≤ r → r < hi → g r → (∀ q, 1 ≤ q → q < r → ¬ g q) → PS (.rt (.int r))) (none : ∀ η, Sh η → (∀ q, 1 ≤ q → q < hi → ¬ g q) → PS (.nx η)) :
    ∀ (m : Nat) (i : Int) (η : Vw), (hi - i).toNat = m → 1 ≤ i → Sh η → (∀ q, 1 ≤ q → q < i → ¬ g q) → Wp (fLoop k f (rng i hi) η) PS
  | 0, i, η, hm, h1, hS, hq => by
    rw [rng_nil (by omega)]
    exact l_nil (none η hS fun q q1 q2 => hq q q1 (by omega))
  | m + 1, i, η, hm, h1, hS, hq => by
    rw [rng_cons (by omega)]
    obtain ⟨η1, e, hw⟩ := step η i hS h1 (by omega)
    refine l_cons ⟨η1, e, hw.mono fun c hc => ?_⟩
    rcases hc with ⟨rfl, hg⟩ | ⟨η', rfl, hS', hg⟩
    · exact found i h1 (by omega) hg hq
    · exact search g Sh step found none m (i + 1) η' (by omega) (by omega) hS' fun q q1 q2 => by
        by_cases z : q = i
        · rw [z]; exact hg
        · exact hq q q1 (by omega)
theorem roomOf {n : Nat} {aids goal notes : Int} {P : PyData → Prop} (g1 : 1 ≤ goal) (g2 : goal ≤ 1000) (h1 : 1 ≤ n) (h2 : n ≤ 12) (h3 : (n : Int) ≤ aids) (h4 : aids ≤ 12) (l1 : 1 ≤ notes) (l2 : notes ≤ 1000)
    (found : ∀ r, 1 ≤ r → r ≤ goal → goal ≤ S n aids r notes → (∀ q, 1 ≤ q → q < r → S n aids q notes < goal) → P (.int r)) (none : (∀ q, 1 ≤ q → q ≤ goal → S n aids q notes < goal) → P .none) : WM m_least_room [.int goal, .int (n : Int), .int aids, .int notes] P := by
  unfold m_least_room f_least_room
  refine wm_of ?_
  subst_eqs
  refine chk g1 g2 ?_
  subst_eqs
  refine hlp (by omega) (by omega) h3 h4 ?_
  subst_eqs
  refine chk l1 l2 ?_
  subst_eqs
  refine ⟨1, goal + 1, rfl, rfl, ?_, ?_⟩
  · unfold okR
    simp only [decide_eq_true_eq, Bool.and_eq_true]
    omega
  refine search (fun r => goal ≤ S n aids r notes) (fun η => ∃ x, η = [.dat (.int goal), .dat (.int (n : Int)), .dat (.int aids), .dat (.int notes), x]) ?_ ?_ ?_ _ 1 _ rfl (by omega) ⟨_, rfl⟩ (fun q q1 q2 => by omega)
  · rintro _ r ⟨x, rfl⟩ r1 r2
    refine ⟨_, rfl, ?_⟩
    subst_eqs
    refine held (n := n) (by omega) (by omega) ?_
    subst_eqs
    refine ⟨fun h => ?_, fun h => ?_⟩
    · subst_eqs
      exact .inl ⟨rfl, of_decide_eq_true h⟩
    · subst_eqs
      exact .inr ⟨_, rfl, ⟨_, rfl⟩, of_decide_eq_false h⟩
  · exact fun r r1 r2 r3 r4 => found r r1 (by omega) r3 fun q q1 q2 => by have := r4 q q1 q2; omega
  · intro η _ hq
    subst_eqs
    exact none fun q q1 q2 => by have := hq q q1 (by omega); omega
theorem lettersOf {n : Nat} {aids goal wide : Int} {P : PyData → Prop} (g1 : 1 ≤ goal) (g2 : goal ≤ 1000) (h1 : 1 ≤ n) (h2 : n ≤ 12) (h3 : (n : Int) ≤ aids) (h4 : aids ≤ 12) (l1 : 1 ≤ wide) (l2 : wide ≤ 1000)
    (found : ∀ r, 1 ≤ r → r ≤ goal → goal ≤ S n aids wide r → (∀ q, 1 ≤ q → q < r → S n aids wide q < goal) → P (.int r)) (none : (∀ q, 1 ≤ q → q ≤ goal → S n aids wide q < goal) → P .none) : WM m_least_letters [.int goal, .int (n : Int), .int aids, .int wide] P := by
  unfold m_least_letters f_least_letters
  refine wm_of ?_
  subst_eqs
  refine chk g1 g2 ?_
  subst_eqs
  refine hlp (by omega) (by omega) h3 h4 ?_
  subst_eqs
  refine chk l1 l2 ?_
  subst_eqs
  refine ⟨1, goal + 1, rfl, rfl, ?_, ?_⟩
  · unfold okR
    simp only [decide_eq_true_eq, Bool.and_eq_true]
    omega
  refine search (fun r => goal ≤ S n aids wide r) (fun η => ∃ x, η = [.dat (.int goal), .dat (.int (n : Int)), .dat (.int aids), .dat (.int wide), x]) ?_ ?_ ?_ _ 1 _ rfl (by omega) ⟨_, rfl⟩ (fun q q1 q2 => by omega)
  · rintro _ r ⟨x, rfl⟩ r1 r2
    refine ⟨_, rfl, ?_⟩
    subst_eqs
    refine held (n := n) (by omega) (by omega) ?_
    subst_eqs
    refine ⟨fun h => ?_, fun h => ?_⟩
    · subst_eqs
      exact .inl ⟨rfl, of_decide_eq_true h⟩
    · subst_eqs
      exact .inr ⟨_, rfl, ⟨_, rfl⟩, of_decide_eq_false h⟩
  · exact fun r r1 r2 r3 r4 => found r r1 (by omega) r3 fun q q1 q2 => by have := r4 q q1 q2; omega
  · intro η _ hq
    subst_eqs
    exact none fun q q1 q2 => by have := hq q q1 (by omega); omega
/-! the sum -/
theorem S_succ {n : Nat} {aids wide notes : Int} : S (n + 1) aids wide notes = S n aids wide notes + min wide ((aids - (n : Int)) * notes) := by
  unfold S
  rw [List.range_succ, List.map_append, List.sum_append]
  simp
theorem S_wide {aids wide wide' notes : Int} (h : wide ≤ wide') : ∀ n : Nat, S n aids wide notes ≤ S n aids wide' notes
  | 0 => Int.le_refl _
  | n + 1 => by
    rw [S_succ, S_succ]
    have := S_wide (aids := aids) (notes := notes) h n
    omega
theorem S_zero {aids notes : Int} : ∀ n : Nat, S n aids 0 notes ≤ 0
  | 0 => Int.le_refl _
  | n + 1 => by
    rw [S_succ]
    have := S_zero (aids := aids) (notes := notes) n
    omega
theorem S_none {aids wide : Int} : ∀ n : Nat, S n aids wide 0 ≤ 0
  | 0 => Int.le_refl _
  | n + 1 => by
    rw [S_succ, Int.mul_zero]
    have := S_none (aids := aids) (wide := wide) n
    omega
theorem S_pos {aids wide notes : Int} (h0 : 0 ≤ wide) (h1 : 0 ≤ notes) : ∀ n : Nat, (n : Int) ≤ aids → 0 ≤ S n aids wide notes
  | 0, _ => Int.le_refl _
  | n + 1, h => by
    rw [S_succ]
    have := S_pos (aids := aids) h0 h1 n (by omega)
    have : 0 ≤ (aids - (n : Int)) * notes := Int.mul_nonneg (by omega) h1
    omega
theorem S_most {aids wide notes : Int} : ∀ n : Nat, S n aids wide notes ≤ (n : Int) * wide
  | 0 => by simp [S]
  | n + 1 => by
    rw [S_succ]
    have := S_most (aids := aids) (wide := wide) (notes := notes) n
    have e : ((n + 1 : Nat) : Int) * wide = (n : Int) * wide + wide := by rw [Int.natCast_succ, Int.add_mul, Int.one_mul]
    omega
theorem S_full {aids wide goal : Int} (h0 : 0 ≤ wide) (h1 : 1 ≤ goal) : ∀ n : Nat, (n : Int) ≤ aids → S n aids wide goal = (n : Int) * wide ∨ goal ≤ S n aids wide goal
  | 0, _ => .inl (by simp [S])
  | n + 1, h => by
    rw [S_succ]
    have p := S_pos (aids := aids) (notes := goal) h0 (by omega) n (by omega)
    have q : goal ≤ (aids - (n : Int)) * goal := by
      have z : 0 ≤ (aids - (n : Int) - 1) * goal := Int.mul_nonneg (by omega) (by omega)
      rw [Int.sub_mul _ 1, Int.one_mul] at z
      omega
    have e : ((n + 1 : Nat) : Int) * wide = (n : Int) * wide + wide := by rw [Int.natCast_succ, Int.add_mul, Int.one_mul]
    rcases S_full (aids := aids) (wide := wide) (goal := goal) h0 h1 n (by omega) with z | z
    · by_cases y : wide ≤ (aids - (n : Int)) * goal
      · left; omega
      · right; omega
    · right; omega
theorem amount {v : Int} {P : PyData → Prop} (h1 : 1 ≤ v) (h2 : v ≤ 1000) (p : P (.bool true)) : WM m__law_is_amount [.int v] P := by
  unfold m__law_is_amount f__law_is_amount
  refine wm_of ?_
  subst_eqs
  refine ⟨fun _ => ?_, fun h => (by cases h)⟩
  subst_eqs
  refine ⟨fun _ => ?_, fun h => (by cases h)⟩
  subst_eqs
  refine ⟨fun _ => ?_, fun h => absurd h1 (of_decide_eq_false h)⟩
  subst_eqs
  rw [decide_eq_true h2]
  exact p
theorem chain {a b : Int} {goal : Int} {P : PyData → Prop} (h1 : goal ≤ a) (h2 : b < goal) (p : P (.bool true)) :
    ∃ c, gGe (.int a) (.int goal) = some (.bool c) ∧ (c = true → ∃ z, gGt (.int goal) (.int b) = some z ∧ P z) ∧ (c = false → P (.bool false)) :=
  ⟨_, rfl, fun _ => ⟨_, rfl, by rw [decide_eq_true h2]; exact p⟩, fun h => absurd h1 (of_decide_eq_false h)⟩
theorem leastRight {n : Nat} {aids goal wide notes : Int} {P : PyData → Prop} (g1 : 1 ≤ goal) (g2 : goal ≤ 1000) (h1 : 1 ≤ n) (h2 : n ≤ 12) (h3 : (n : Int) ≤ aids) (h4 : aids ≤ 12) (w1 : 1 ≤ wide) (w2 : wide ≤ 1000) (l1 : 1 ≤ notes) (l2 : notes ≤ 1000) (p : P (.bool true)) :
    WM m__law_least_right [.int (n : Int), .int aids, .int goal, .int wide, .int notes] P := by
  unfold m__law_least_right f__law_least_right
  refine wm_of ?_
  -- the letters, behind either ending of the rooms
  have part2 : ∀ x : PyData, Wp (fSeq (fSet 5 (fCall m_least_letters 4 (fCons (fVar 2) (fCons (fVar 0) (fCons (fVar 1) (fCons (fVar 3) fNil))))))
      (fSeq (fIfS (fB (f2 gLt (f2 gMul (fVar 0) (fVar 3)) (fVar 2))) (fRet (f2 gIsN (fVar 5) (fC .none))) fNext)
      (fSeq (fIfS (fNot (fB (fCall m__law_is_amount 1 (fCons (fVar 5) fNil)))) (fRet (fC (.bool false))) fNext)
      (fRet (f3 gGe gGt (fCall m__law_sum 4 (fCons (fVar 0) (fCons (fVar 1) (fCons (fVar 3) (fCons (fVar 5) fNil))))) (fVar 2) (fCall m__law_sum 4 (fCons (fVar 0) (fCons (fVar 1) (fCons (fVar 3) (fCons (f2 gSubt (fVar 5) (fC (.int 1))) fNil)))))))))
      [.dat (.int (n : Int)), .dat (.int aids), .dat (.int goal), .dat (.int wide), .dat (.int notes), .dat x]) (fun c => match c with | .rt d => P d | .nx _ => P .none | _ => False) := fun x => by
    subst_eqs
    refine lettersOf g1 g2 h1 h2 h3 h4 w1 w2 (fun r r1 r2 r3 r4 => ?_) fun q => ?_
    · have nb : ¬ (n : Int) * wide < goal := fun z => by
        have := S_most (aids := aids) (wide := wide) (notes := r) n
        omega
      subst_eqs
      refine ⟨fun h => absurd (of_decide_eq_true h) nb, fun _ => ?_⟩
      subst_eqs
      refine amount (by omega) (by omega) ?_
      subst_eqs
      refine ⟨fun h => (by cases h), fun _ => ?_⟩
      subst_eqs
      refine sums (n := n) (by omega) (by omega) ?_
      subst_eqs
      refine ⟨fun _ => ?_, fun h => absurd r3 (of_decide_eq_false h)⟩
      subst_eqs
      refine sums (n := n) (by omega) (by omega) ?_
      subst_eqs
      have : S n aids wide (r - 1) < goal := by
        by_cases z : r = 1
        · rw [z]
          have := S_none (aids := aids) (wide := wide) n
          show S n aids wide 0 < goal
          omega
        · exact r4 (r - 1) (by omega) (by omega)
      rw [decide_eq_true this]
      exact p
    · have nb : (n : Int) * wide < goal := by
        have a := q goal g1 (Int.le_refl _)
        rcases S_full (aids := aids) (wide := wide) (goal := goal) (by omega) g1 n h3 with z | z <;> omega
      subst_eqs
      refine ⟨fun _ => ?_, fun h => absurd nb (of_decide_eq_false h)⟩
      subst_eqs
      exact p
  refine w_seq ?_
  subst_eqs
  refine roomOf g1 g2 h1 h2 h3 h4 l1 l2 (fun r r1 r2 r3 r4 => ?_) fun q => ?_
  · have big : ¬ S n aids goal notes < goal := by
      have := S_wide (aids := aids) (notes := notes) r2 n
      omega
    have low : S n aids (r - 1) notes < goal := by
      by_cases z : r = 1
      · rw [z]
        have := S_zero (aids := aids) (notes := notes) n
        show S n aids 0 notes < goal
        omega
      · exact r4 (r - 1) (by omega) (by omega)
    subst_eqs
    refine sums (n := n) (by omega) (by omega) ?_
    subst_eqs
    refine ⟨fun h => absurd (of_decide_eq_true h) big, fun _ => ?_⟩
    subst_eqs
    refine amount (by omega) (by omega) ?_
    subst_eqs
    refine ⟨fun h => (by cases h), fun _ => ?_⟩
    subst_eqs
    refine sums (n := n) (by omega) (by omega) ?_
    subst_eqs
    refine ⟨fun _ => ?_, fun h => absurd r3 (of_decide_eq_false h)⟩
    subst_eqs
    refine sums (n := n) (by omega) (by omega) ?_
    subst_eqs
    rw [decide_eq_true low]
    first | refine ⟨_, rfl, fun h => (by cases h), fun _ => ?_⟩ | refine ⟨fun h => (by cases h), fun _ => ?_⟩
    refine w_next ?_
    exact part2 _
  · have low : S n aids goal notes < goal := q goal g1 (Int.le_refl _)
    subst_eqs
    refine sums (n := n) (by omega) (by omega) ?_
    subst_eqs
    refine ⟨fun _ => ?_, fun h => absurd low (of_decide_eq_false h)⟩
    subst_eqs
    refine ⟨fun h => (by cases h), fun _ => ?_⟩
    refine w_next ?_
    exact part2 _
end P11
namespace P11
open PySem DL L2
local macro_rules
  | `(tactic| subst_eqs) => `(tactic| repeat (first
  | with_reducible refine w_seq ?_ | with_reducible refine w_Ret ?_ | with_reducible refine w_set ?_ | with_reducible refine w_setN ?_ | with_reducible refine w_ifS ?_ | with_reducible refine w_drop ?_ | with_reducible refine w_asgM ?_ | with_reducible refine w_next ?_ | with_reducible refine w_retN ?_ | with_reducible refine w_break ?_
  | ((with_reducible apply w_fz); · rfl) | ((with_reducible apply w_app); · rfl) | with_reducible refine w_asg ?_ | with_reducible refine w_for ?_
  | with_reducible refine w_C ?_ | ((with_reducible apply w_var); · rfl) | with_reducible refine w_2 ?_ | with_reducible refine w_1 ?_ | with_reducible refine w_cons ?_ | with_reducible refine w_nil ?_ | with_reducible refine w_tup ?_ | with_reducible refine w_lst ?_ | with_reducible refine w_L ?_ | with_reducible refine w_Q ?_ | ((with_reducible apply w_own); · rfl) | with_reducible refine w_QN ?_ | with_reducible refine w_len ?_ | with_reducible refine w_list ?_ | with_reducible refine w_tuple ?_ | with_reducible refine w_ix ?_
  | with_reducible refine w_call ?_ | ((with_reducible apply w_callW); · rfl) | with_reducible refine w_callK ?_ | with_reducible refine w_blt ?_ | with_reducible refine w_isi ?_ | with_reducible refine w_repr ?_ | with_reducible refine w_sum ?_ | with_reducible refine w_B ?_ | with_reducible refine w_and ?_ | with_reducible refine w_or ?_ | with_reducible refine w_not ?_ | with_reducible refine w_andV ?_ | with_reducible refine w_orV ?_ | with_reducible refine w_notV ?_ | with_reducible refine w_if ?_ | with_reducible refine w_3 ?_
  | with_reducible refine w_mD ?_ | with_reducible refine w_mN ?_ | with_reducible refine w_mNil ?_ | with_reducible refine w_in ?_ | with_reducible refine w_rng1 ?_ | with_reducible refine w_rng2 ?_
  | refine g_eq (by first | rfl | decide +kernel) ?_ | refine g_ne (by first | rfl | decide +kernel) ?_
  | refine g_mul (by first | exact mul_ok (by omega) | exact mul_ok' (by omega)) ?_ | refine g_mod (by omega) ?_ | refine g_div (by omega) ?_
  | refine ⟨_, rfl, ?_⟩ | refine ⟨rfl, ?_⟩))
theorem big : (1000 : Nat) ≤ sizeLine := by decide
/-- a loop over a range whose turns go on, told by their number -/
theorem turnsI (Sh : Nat → Vw → Prop) {k : PyData → Vw → Option Vw} {f : FS} {PS : Ctl → Prop} {lo hi : Int}
    (st : ∀ (i : Nat) (η : Vw), i < (hi - lo).toNat → Sh i η → ∃ η1, k (.int (lo + (i : Int))) η = some η1 ∧ Wp (f η1) fun c => ∃ η', c = .nx η' ∧ Sh (i + 1) η') (p : ∀ η, Sh (hi - lo).toNat η → PS (.nx η)) :
    ∀ (m i : Nat) (η : Vw), i + m = (hi - lo).toNat → Sh i η → Wp (fLoop k f (rng (lo + (i : Int)) hi) η) PS
  | 0, i, η, hm, h => by
    rw [rng_nil (by omega)]
    exact l_nil (p η (by rw [← hm]; exact h))
  | m + 1, i, η, hm, h => by
    rw [rng_cons (by omega)]
    obtain ⟨η1, e, hw⟩ := st i η (by omega) h
    refine l_cons ⟨η1, e, hw.mono fun c hc => ?_⟩
    obtain ⟨η', rfl, h'⟩ := hc
    have ih := turnsI Sh st p m (i + 1) η' (by omega) h'
    rw [show lo + ((i + 1 : Nat) : Int) = lo + (i : Int) + 1 by omega] at ih
    exact ih
theorem turns0 (Sh : Nat → Vw → Prop) {k : PyData → Vw → Option Vw} {f : FS} {PS : Ctl → Prop} {lo hi : Int} {η : Vw} (h : Sh 0 η)
    (st : ∀ (i : Nat) (η : Vw), i < (hi - lo).toNat → Sh i η → ∃ η1, k (.int (lo + (i : Int))) η = some η1 ∧ Wp (f η1) fun c => ∃ η', c = .nx η' ∧ Sh (i + 1) η') (p : ∀ η, Sh (hi - lo).toNat η → PS (.nx η)) : Wp (fLoop k f (rng lo hi) η) PS := by
  have := turnsI Sh st p (hi - lo).toNat 0 η (by omega) h
  rw [show lo + ((0 : Nat) : Int) = lo by omega] at this
  exact this
def pwr (p x : Int) : Nat → Int
  | 0 => 1
  | k + 1 => pwr p x k * x % p
def row (p x : Int) (j : Nat) : List PyData := (List.range (j + 1)).map fun t => .int (pwr p x t)
theorem row_len {p x : Int} {j : Nat} : (row p x j).length = j + 1 := by unfold row; rw [List.length_map, List.length_range]
theorem row_get {p x : Int} {j i : Nat} (h : i ≤ j) : (row p x j)[i]? = some (.int (pwr p x i)) := by
  unfold row
  rw [List.getElem?_map, List.getElem?_range (by omega)]
  rfl
theorem row_last {p x : Int} {j : Nat} : atI (row p x j) (-1) = some (.int (pwr p x j)) := by
  unfold atI ixN
  rw [if_neg (by decide), row_len, if_pos (by omega)]
  show (row p x j)[(-1 + ((j + 1 : Nat) : Int)).toNat]? = _
  rw [show (-1 + ((j + 1 : Nat) : Int)).toNat = j by omega, row_get (Nat.le_refl _)]
theorem row_succ {p x : Int} {j : Nat} : row p x (j + 1) = row p x j ++ [.int (pwr p x (j + 1))] := by
  unfold row
  rw [List.range_succ, List.map_append]
  rfl
theorem powers {p x : Int} {n : Nat} {P : PyData → Prop} (hp : 0 < p) (hx : 0 ≤ x ∧ x < 1000) (h1 : 1 ≤ n) (h2 : n ≤ 12) (pp : P (.tuple (row p x (n - 1)))) : WM m_powers_from [.int p, .int x, .int (n : Int)] P := by
  unfold m_powers_from f_powers_from
  refine wm_of ?_
  subst_eqs
  refine ⟨by decide, ?_⟩
  subst_eqs
  refine ⟨?_, ?_⟩
  · unfold okR
    simp only [decide_eq_true_eq]
    omega
  refine turns0 (fun j η => ∃ y, η = [.dat (.int p), .dat (.int x), .dat (.int (n : Int)), .own (row p x j), y]) ⟨_, rfl⟩ ?_ ?_
  · rintro j _ hj ⟨y, rfl⟩
    refine ⟨_, rfl, ?_⟩
    subst_eqs
    refine ⟨-1, _, rfl, row_last, ?_⟩
    subst_eqs
    rw [row_len]
    have := big
    refine ⟨by omega, _, rfl, .dat (.int (0 + (j : Int))), ?_⟩
    rw [row_succ]
    rfl
  · rintro _ ⟨y, rfl⟩
    subst_eqs
    rw [show ((n : Int) - 1 - 0).toNat = n - 1 by omega]
    exact pp
theorem climb {p x : Int} {n : Nat} {P : PyData → Prop} (hp : 0 < p) (hx : 0 ≤ x ∧ x < 1000) (h1 : 1 ≤ n) (h2 : n ≤ 12) (pp : P (.tuple (row p x (n - 1)))) : WM m__law_climb [.int p, .int x, .int (n : Int)] P := by
  unfold m__law_climb f__law_climb
  refine wm_of ?_
  subst_eqs
  refine ⟨by decide, ?_⟩
  subst_eqs
  refine ⟨by decide, ?_⟩
  subst_eqs
  refine ⟨?_, ?_⟩
  · unfold okR
    simp only [decide_eq_true_eq]
    omega
  refine turns0 (fun j η => ∃ y, η = [.dat (.int p), .dat (.int x), .dat (.int (n : Int)), .own ((List.range j).map fun t => .int (pwr p x t)), .dat (.int (pwr p x j)), y]) ⟨_, rfl⟩ ?_ ?_
  · rintro j _ hj ⟨y, rfl⟩
    refine ⟨_, rfl, ?_⟩
    subst_eqs
    simp only [List.length_range, List.length_map]
    have := big
    refine ⟨by omega, ?_⟩
    subst_eqs
    refine ⟨.dat (.int (0 + (j : Int))), ?_⟩
    rw [List.range_succ, List.map_append]
    rfl
  · rintro _ ⟨y, rfl⟩
    subst_eqs
    unfold row at pp
    rw [show ((n : Int) - 0).toNat = n - 1 + 1 by omega]
    exact pp
end P11
namespace P11
open PySem DL L2
local macro_rules
  | `(tactic| subst_eqs) => `(tactic| repeat (first
  | with_reducible refine w_seq ?_ | with_reducible refine w_Ret ?_ | with_reducible refine w_set ?_ | with_reducible refine w_setN ?_ | with_reducible refine w_ifS ?_ | with_reducible refine w_drop ?_ | with_reducible refine w_asgM ?_ | with_reducible refine w_next ?_ | with_reducible refine w_retN ?_ | with_reducible refine w_break ?_
  | ((with_reducible apply w_fz); · rfl) | ((with_reducible apply w_app); · rfl) | with_reducible refine w_asg ?_ | with_reducible refine w_for ?_
  | with_reducible refine w_C ?_ | ((with_reducible apply w_var); · rfl) | with_reducible refine w_2 ?_ | with_reducible refine w_1 ?_ | with_reducible refine w_cons ?_ | with_reducible refine w_nil ?_ | with_reducible refine w_tup ?_ | with_reducible refine w_lst ?_ | with_reducible refine w_L ?_ | with_reducible refine w_Q ?_ | ((with_reducible apply w_own); · rfl) | with_reducible refine w_QN ?_ | with_reducible refine w_len ?_ | with_reducible refine w_list ?_ | with_reducible refine w_tuple ?_ | with_reducible refine w_ix ?_
  | with_reducible refine w_call ?_ | ((with_reducible apply w_callW); · rfl) | with_reducible refine w_callK ?_ | with_reducible refine w_blt ?_ | with_reducible refine w_isi ?_ | with_reducible refine w_repr ?_ | with_reducible refine w_sum ?_ | with_reducible refine w_B ?_ | with_reducible refine w_and ?_ | with_reducible refine w_or ?_ | with_reducible refine w_not ?_ | with_reducible refine w_andV ?_ | with_reducible refine w_orV ?_ | with_reducible refine w_notV ?_ | with_reducible refine w_if ?_ | with_reducible refine w_3 ?_
  | with_reducible refine w_mD ?_ | with_reducible refine w_mN ?_ | with_reducible refine w_mNil ?_ | with_reducible refine w_in ?_ | with_reducible refine w_rng1 ?_ | with_reducible refine w_rng2 ?_
  | refine g_eq (by first | rfl | decide +kernel) ?_ | refine g_ne (by first | rfl | decide +kernel) ?_
  | refine g_mul (by first | exact mul_ok (by omega) | exact mul_ok' (by omega)) ?_ | refine g_mod (by omega) ?_ | refine g_div (by omega) ?_
  | refine ⟨_, rfl, ?_⟩ | refine ⟨rfl, ?_⟩))
/-- the unlike keys of the first numbers, at most m -/
def cap (m : Nat) (key : Int → Int) : Nat → List Int
  | 0 => []
  | i + 1 => if key (1 + (i : Int)) ∉ cap m key i ∧ (cap m key i).length < m then cap m key i ++ [key (1 + (i : Int))] else cap m key i
theorem cap_le (m : Nat) (key : Int → Int) : ∀ i, (cap m key i).length ≤ m
  | 0 => Nat.zero_le _
  | i + 1 => by
    have := cap_le m key i
    unfold cap
    split
    · rw [List.length_append]
      show (cap m key i).length + 1 ≤ m
      omega
    · exact this
theorem cap_stay {m : Nat} {key : Int → Int} {i : Nat} (h : (cap m key i).length = m) : ∀ j, (cap m key (i + j)).length = m
  | 0 => h
  | j + 1 => by
    have := cap_stay h j
    show (cap m key (i + j + 1)).length = m
    unfold cap
    rw [if_neg (by omega)]
    exact this
theorem in_ints {k : Int} : ∀ K : List Int, inD (.int k) (K.map PyData.int) = decide (k ∈ K)
  | [] => rfl
  | a :: K => by
    show (PyData.eqv (.int a) (.int k) || inD (.int k) (K.map PyData.int)) = _
    rw [in_ints K, show PyData.eqv (.int a) (.int k) = decide (a = k) from rfl]
    by_cases h : a = k
    · subst h
      rw [decide_eq_true (rfl : a = a), decide_eq_true (List.mem_cons_self : a ∈ a :: K)]
      rfl
    · rw [decide_eq_false h, Bool.false_or]
      refine decide_eq_decide.mpr ⟨List.mem_cons_of_mem _, fun z => ?_⟩
      exact (List.mem_cons.mp z).resolve_left fun y => h y.symm
theorem flats : ∀ K : List Int, (K.map PyData.int).all flatD = true
  | [] => rfl
  | a :: K => by
    rw [List.map_cons, List.all_cons, flats K]
    rfl
theorem cap_yes {m : Nat} {key : Int → Int} {i : Nat} (h : key (1 + (i : Int)) ∉ cap m key i) (h2 : (cap m key i).length < m) : cap m key (i + 1) = cap m key i ++ [key (1 + (i : Int))] := by
  show (if _ ∧ _ then _ else _) = _
  rw [if_pos ⟨h, h2⟩]
theorem cap_no {m : Nat} {key : Int → Int} {i : Nat} (h : key (1 + (i : Int)) ∈ cap m key i ∨ ¬ (cap m key i).length < m) : cap m key (i + 1) = cap m key i := by
  show (if _ ∧ _ then _ else _) = _
  rw [if_neg fun z => h.elim z.1 fun y => y z.2]
theorem row_at {p x : Int} {n : Nat} (h : 1 ≤ n) : atI (row p x (n - 1)) ((n : Int) - 1) = some (.int (pwr p x (n - 1))) := by
  unfold atI ixN
  rw [if_pos (by omega), row_len, if_pos (by omega)]
  show (row p x (n - 1))[((n : Int) - 1).toNat]? = _
  rw [show ((n : Int) - 1).toNat = n - 1 by omega, row_get (Nat.le_refl _)]
/-- the key of a number: its power -/
def key (p : Int) (n : Nat) (x : Int) : Int := pwr p x (n - 1)
theorem spots {p : Int} {o n : Nat} {P : PyData → Prop} (hp : 2 ≤ p ∧ p ≤ 97) (h1 : 1 ≤ n) (h2 : n ≤ 12) (ho : o ≤ 1000) (pp : ∀ fs : List PyData, fs.length = (cap o (key p n) (p - 1).toNat).length → P (.list fs)) : WM m__law_spots [.int p, .str "room", .int (o : Int), .int (n : Int)] P := by
  unfold m__law_spots f__law_spots
  refine wm_of ?_
  subst_eqs
  refine ⟨fun h => absurd h (by decide), fun _ => ?_⟩
  subst_eqs
  refine ⟨by decide, ?_⟩
  subst_eqs
  refine ⟨by decide, ?_⟩
  subst_eqs
  refine ⟨by decide, ?_⟩
  subst_eqs
  refine ⟨1, p, rfl, rfl, ?_, ?_⟩
  · unfold okR
    simp only [decide_eq_true_eq, Bool.and_eq_true]
    omega
  refine turns0 (fun i η => ∃ fs y z, fs.length = (cap o (key p n) i).length ∧ η = [.dat (.int p), .dat (.str "room"), .dat (.int (o : Int)), .dat (.int (n : Int)), .own fs, .own ((cap o (key p n) i).map PyData.int), y, z, .no]) ⟨[], _, _, rfl, rfl⟩ ?_ ?_
  · rintro i _ hi ⟨fs, y, z, hf, rfl⟩
    refine ⟨_, rfl, ?_⟩
    subst_eqs
    refine climb (n := n) (by omega) (by omega) h1 h2 ?_
    subst_eqs
    refine ⟨_, _, rfl, row_at h1, ?_⟩
    subst_eqs
    have kl := cap_le o (key p n) i
    have bg := big
    refine ⟨flats _, ?_⟩
    rw [if_pos rfl, in_ints]
    refine ⟨_, rfl, fun h => ?_, fun h => ?_⟩
    · have hk : key p n (1 + (i : Int)) ∉ cap o (key p n) i := fun z => by
        rw [show decide (pwr p (1 + (i : Int)) (n - 1) ∈ cap o (key p n) i) = true from decide_eq_true z] at h
        cases h
      subst_eqs
      refine ⟨fun h2 => ?_, fun h2 => ?_⟩
      · have h2 : ((fs.length : Nat) : Int) < (o : Int) := of_decide_eq_true h2
        subst_eqs
        refine ⟨by omega, ?_⟩
        subst_eqs
        rw [List.length_map]
        refine ⟨by omega, _, rfl, fs ++ [.int (1 + (i : Int))], .dat (.int (1 + (i : Int))), .dat (.int (pwr p (1 + (i : Int)) (n - 1))), ?_, ?_⟩
        · rw [cap_yes hk (by omega), List.length_append, List.length_append, hf]
          rfl
        · rw [cap_yes hk (by omega), List.map_append]
          rfl
      · have h2 : ¬ ((fs.length : Nat) : Int) < (o : Int) := of_decide_eq_false h2
        subst_eqs
        refine ⟨fs, .dat (.int (1 + (i : Int))), .dat (.int (pwr p (1 + (i : Int)) (n - 1))), ?_, ?_⟩
        · rw [cap_no (.inr (by omega)), hf]
        · rw [cap_no (.inr (by omega))]
          rfl
    · have hk : key p n (1 + (i : Int)) ∈ cap o (key p n) i := by
        have h3 : decide (pwr p (1 + (i : Int)) (n - 1) ∈ cap o (key p n) i) = true := by
          cases z : decide (pwr p (1 + (i : Int)) (n - 1) ∈ cap o (key p n) i) with
          | true => rfl
          | false => rw [z] at h; cases h
        exact of_decide_eq_true h3
      refine ⟨fun z => (by cases z), fun _ => ?_⟩
      subst_eqs
      refine ⟨fs, .dat (.int (1 + (i : Int))), .dat (.int (pwr p (1 + (i : Int)) (n - 1))), ?_, ?_⟩
      · rw [cap_no (.inl hk), hf]
      · rw [cap_no (.inl hk)]
        rfl
  · rintro _ ⟨fs, y, z, hf, rfl⟩
    subst_eqs
    exact pp fs hf
/-- the points, and where the loop ends -/
theorem points {p d : Int} {m n : Nat} {P : PyData → Prop} (hp : 2 ≤ p ∧ p ≤ 97) (h1 : 1 ≤ n) (h2 : n ≤ 12) (h0 : 1 ≤ m) (ho : m ≤ 1000) (pp : ∀ fs : List PyData, fs.length = (cap m (key p n) (p - 1).toNat).length → P (.tuple fs)) : WM m_points_for [.tuple [.int p, .str "room", .int (m : Int), .int (n : Int), .int d]] P := by
  unfold m_points_for f_points_for
  refine wm_of ?_
  subst_eqs
  refine ⟨fun h => absurd h (by decide), fun _ => ?_⟩
  subst_eqs
  refine ⟨by decide, ?_⟩
  subst_eqs
  refine ⟨by decide, ?_⟩
  subst_eqs
  refine ⟨by decide, ?_⟩
  subst_eqs
  refine ⟨1, p, rfl, rfl, ?_, ?_⟩
  · unfold okR
    simp only [decide_eq_true_eq, Bool.and_eq_true]
    omega
  have loop : ∀ (r i : Nat) (fs : List PyData) (x y z : Sl), i + r = (p - 1).toNat → fs.length = (cap m (key p n) i).length → fs.length < m →
      Wp (fLoop (kName 8) (fSeq (fSet 9 (fIx (fQ (fCall m_powers_from 3 (fCons (fVar 1) (fCons (fVar 8) (fCons (fVar 4) fNil))))) (f1 gNeg (fC (.int 1)))))
        (fSeq (fIfS (fB (fIn true (fVar 9) (fOwn 7))) (fSeq (fApp 6 (fVar 8)) (fApp 7 (fVar 9))) fNext) (fIfS (fB (f2 gEq (fLen (fOwn 6)) (fVar 3))) fBreak fNext))) (rng (1 + (i : Int)) p)
        [.dat (.tuple [.int p, .str "room", .int (m : Int), .int (n : Int), .int d]), .dat (.int p), .dat (.str "room"), .dat (.int (m : Int)), .dat (.int (n : Int)), .dat (.int d), .own fs, .own ((cap m (key p n) i).map PyData.int), x, y, z])
        (fun c => match c with | .nx η' => Wp (fRet (fTuple (fOwn 6)) η') (fun c => match c with | .rt d => P d | .nx _ => P .none | _ => False) | .rt d => P d | _ => False) := by
    intro r
    induction r with
    | zero =>
      intro i fs x y z hi hf hl
      rw [rng_nil (by omega)]
      refine l_nil ?_
      subst_eqs
      exact pp fs (by rw [hf, show i = (p - 1).toNat by omega])
    | succ r ih =>
      intro i fs x y z hi hf hl
      rw [rng_cons (by omega)]
      refine l_cons ⟨_, rfl, ?_⟩
      have kl := cap_le m (key p n) i
      have bg := big
      subst_eqs
      refine powers (n := n) (by omega) (by omega) h1 h2 ?_
      subst_eqs
      refine ⟨-1, _, rfl, row_last, ?_⟩
      subst_eqs
      refine ⟨flats _, ?_⟩
      rw [if_pos rfl, in_ints]
      -- behind the turn: either full or further
      have rest : ∀ fs' : List PyData, ∀ K : List Int, fs'.length = K.length → cap m (key p n) (i + 1) = K → Wp (fIfS (fB (f2 gEq (fLen (fOwn 6)) (fVar 3))) fBreak fNext
          [.dat (.tuple [.int p, .str "room", .int (m : Int), .int (n : Int), .int d]), .dat (.int p), .dat (.str "room"), .dat (.int (m : Int)), .dat (.int (n : Int)), .dat (.int d), .own fs', .own (K.map PyData.int), .dat (.int (1 + (i : Int))), .dat (.int (pwr p (1 + (i : Int)) (n - 1))), z])
          (fun c => match c with
            | .nx η' => Wp (fLoop (kName 8) (fSeq (fSet 9 (fIx (fQ (fCall m_powers_from 3 (fCons (fVar 1) (fCons (fVar 8) (fCons (fVar 4) fNil))))) (f1 gNeg (fC (.int 1)))))
              (fSeq (fIfS (fB (fIn true (fVar 9) (fOwn 7))) (fSeq (fApp 6 (fVar 8)) (fApp 7 (fVar 9))) fNext) (fIfS (fB (f2 gEq (fLen (fOwn 6)) (fVar 3))) fBreak fNext))) (rng (1 + (i : Int) + 1) p) η')
                (fun c => match c with | .nx η' => Wp (fRet (fTuple (fOwn 6)) η') (fun c => match c with | .rt d => P d | .nx _ => P .none | _ => False) | .rt d => P d | _ => False)
            | .bk η' => Wp (fRet (fTuple (fOwn 6)) η') (fun c => match c with | .rt d => P d | .nx _ => P .none | _ => False)
            | _ => False) := by
        intro fs' K hf' hK
        have kl' := cap_le m (key p n) (i + 1)
        subst_eqs
        refine ⟨fun h => ?_, fun h => ?_⟩
        · have h : ((fs'.length : Nat) : Int) = (m : Int) := of_decide_eq_true h
          subst_eqs
          refine pp fs' ?_
          have e : (cap m (key p n) (i + 1)).length = m := by rw [hK]; omega
          have := cap_stay e ((p - 1).toNat - (i + 1))
          rw [show i + 1 + ((p - 1).toNat - (i + 1)) = (p - 1).toNat by omega] at this
          omega
        · have h : ¬ ((fs'.length : Nat) : Int) = (m : Int) := of_decide_eq_false h
          subst_eqs
          have hl' : fs'.length < m := by
            rw [hK] at kl'
            omega
          have := ih (i + 1) fs' (.dat (.int (1 + (i : Int)))) (.dat (.int (pwr p (1 + (i : Int)) (n - 1)))) z (by omega) (by rw [hK]; exact hf') hl'
          rw [hK, show 1 + ((i + 1 : Nat) : Int) = 1 + (i : Int) + 1 by omega] at this
          exact this
      refine ⟨_, rfl, fun h => ?_, fun h => ?_⟩
      · have hk : key p n (1 + (i : Int)) ∉ cap m (key p n) i := fun z => by
          rw [show decide (pwr p (1 + (i : Int)) (n - 1) ∈ cap m (key p n) i) = true from decide_eq_true z] at h
          cases h
        subst_eqs
        refine ⟨by omega, ?_⟩
        subst_eqs
        rw [List.length_map]
        refine ⟨by omega, ?_⟩
        have := rest (fs ++ [.int (1 + (i : Int))]) (cap m (key p n) i ++ [key p n (1 + (i : Int))]) (by rw [List.length_append, List.length_append, hf]; rfl) (cap_yes hk (by omega))
        rw [List.map_append] at this
        refine this.mono fun c hc => ?_
        cases c <;> first | exact hc | exact hc.elim
      · have hk : key p n (1 + (i : Int)) ∈ cap m (key p n) i := by
          have h3 : decide (pwr p (1 + (i : Int)) (n - 1) ∈ cap m (key p n) i) = true := by
            cases z : decide (pwr p (1 + (i : Int)) (n - 1) ∈ cap m (key p n) i) with
            | true => rfl
            | false => rw [z] at h; cases h
          exact of_decide_eq_true h3
        refine w_next ?_
        refine (rest fs (cap m (key p n) i) hf (cap_no (.inl hk))).mono fun c hc => ?_
        cases c <;> first | exact hc | exact hc.elim
  have := loop (p - 1).toNat 0 [] .no .no .no (by omega) rfl (by show 0 < m; omega)
  rw [show (1 : Int) + ((0 : Nat) : Int) = 1 by omega] at this
  refine this.mono fun c hc => ?_
  cases c <;> first | exact hc | exact hc.elim
end P11
namespace P11
open PySem DL L2
local macro_rules
  | `(tactic| subst_eqs) => `(tactic| repeat (first
  | with_reducible refine w_seq ?_ | with_reducible refine w_Ret ?_ | with_reducible refine w_set ?_ | with_reducible refine w_setN ?_ | with_reducible refine w_ifS ?_ | with_reducible refine w_drop ?_ | with_reducible refine w_asgM ?_ | with_reducible refine w_next ?_ | with_reducible refine w_retN ?_ | with_reducible refine w_break ?_
  | ((with_reducible apply w_fz); · rfl) | ((with_reducible apply w_app); · rfl) | with_reducible refine w_asg ?_ | with_reducible refine w_for ?_
  | with_reducible refine w_C ?_ | ((with_reducible apply w_var); · rfl) | with_reducible refine w_2 ?_ | with_reducible refine w_1 ?_ | with_reducible refine w_cons ?_ | with_reducible refine w_nil ?_ | with_reducible refine w_tup ?_ | with_reducible refine w_lst ?_ | with_reducible refine w_L ?_ | with_reducible refine w_Q ?_ | ((with_reducible apply w_own); · rfl) | with_reducible refine w_QN ?_ | with_reducible refine w_len ?_ | with_reducible refine w_list ?_ | with_reducible refine w_tuple ?_ | with_reducible refine w_ix ?_
  | with_reducible refine w_call ?_ | ((with_reducible apply w_callW); · rfl) | with_reducible refine w_callK ?_ | with_reducible refine w_blt ?_ | with_reducible refine w_isi ?_ | with_reducible refine w_repr ?_ | with_reducible refine w_sum ?_ | with_reducible refine w_B ?_ | with_reducible refine w_and ?_ | with_reducible refine w_or ?_ | with_reducible refine w_not ?_ | with_reducible refine w_andV ?_ | with_reducible refine w_orV ?_ | with_reducible refine w_notV ?_ | with_reducible refine w_if ?_ | with_reducible refine w_3 ?_
  | with_reducible refine w_mD ?_ | with_reducible refine w_mN ?_ | with_reducible refine w_mNil ?_ | with_reducible refine w_in ?_ | with_reducible refine w_rng1 ?_ | with_reducible refine w_rng2 ?_
  | refine g_eq (by first | rfl | decide +kernel) ?_ | refine g_ne (by first | rfl | decide +kernel) ?_
  | refine g_mul (by first | exact mul_ok (by omega) | exact mul_ok' (by omega)) ?_ | refine g_mod (by omega) ?_ | refine g_div (by omega) ?_
  | refine ⟨_, rfl, ?_⟩ | refine ⟨rfl, ?_⟩))
def prL : List Int := [11, 13, 17, 19, 23, 29, 31, 37, 41, 43, 47, 53, 59, 61, 67, 71, 73, 79, 83, 89, 97]
theorem pr_small : ∀ p ∈ prL, 2 ≤ p ∧ p ≤ 97 := by decide
theorem prime {p : Int} {P : PyData → Prop} (h : p ∈ prL) (pp : P (.bool true)) : WM m_is_prime [.int p] P := by
  unfold m_is_prime f_is_prime
  refine wm_of ?_
  subst_eqs
  refine whole ?_
  subst_eqs
  refine ⟨fun _ => ?_, fun z => (by cases z)⟩
  subst_eqs
  have e := in_ints (k := p) prL
  rw [decide_eq_true h] at e
  show P (.bool (inD (.int p) (prL.map PyData.int)))
  rw [e]
  exact pp
theorem five {a b c d e : PyData} {P : PyData → Prop} (pp : P (.bool true)) : WM m_is_tuple_of [.tuple [a, b, c, d, e], .int 5] P := by
  unfold m_is_tuple_of f_is_tuple_of
  refine wm_of ?_
  subst_eqs
  refine ⟨fun _ => ?_, fun z => (by cases z)⟩
  subst_eqs
  exact pp
theorem inb {v lo hi : Int} {P : PyData → Prop} (h1 : lo ≤ v) (h2 : v ≤ hi) (p : P (.bool true)) : WM m_is_within [.int v, .int lo, .int hi] P := within (by rw [decide_eq_true h1, decide_eq_true h2]; exact p)
theorem schemeL {p o n d : Int} {P : PyData → Prop} (hp : p ∈ prL) (o1 : 2 ≤ o) (o2 : o ≤ 10) (n1 : 1 ≤ n) (n2 : n ≤ o - 1) (d1 : n ≤ d) (d2 : d ≤ o - 1) (pp : P (.bool true)) : WM m_is_scheme [.tuple [.int p, .str "letters", .int o, .int n, .int d]] P := by
  unfold m_is_scheme f_is_scheme
  refine wm_of ?_
  subst_eqs
  refine five ?_
  subst_eqs
  refine ⟨fun z => (by cases z), fun _ => ?_⟩
  subst_eqs
  refine prime hp ?_
  subst_eqs
  refine ⟨fun _ => ?_, fun z => (by cases z)⟩
  subst_eqs
  refine ⟨fun _ => ?_, fun z => (by cases z)⟩
  subst_eqs
  refine inb o1 o2 ?_
  subst_eqs
  refine ⟨fun z => (by cases z), fun _ => ?_⟩
  subst_eqs
  refine ⟨fun _ => ?_, fun z => absurd z (by decide)⟩
  subst_eqs
  refine inb n1 n2 ?_
  subst_eqs
  refine ⟨fun _ => ?_, fun z => (by cases z)⟩
  subst_eqs
  exact inb d1 d2 pp
theorem schemeR {p : Int} {o n : Nat} {P : PyData → Prop} (hp : p ∈ prL) (o1 : 2 ≤ o) (o2 : o ≤ 10) (n1 : 2 ≤ n) (n2 : 2 * n ≤ o + 1) (hc : (cap o (key p n) (p - 1).toNat).length = o) (pp : P (.bool true)) : WM m_is_scheme [.tuple [.int p, .str "room", .int (o : Int), .int (n : Int), .int (2 * (n : Int) - 2)]] P := by
  unfold m_is_scheme f_is_scheme
  refine wm_of ?_
  subst_eqs
  refine five ?_
  subst_eqs
  refine ⟨fun z => (by cases z), fun _ => ?_⟩
  subst_eqs
  refine prime hp ?_
  subst_eqs
  refine ⟨fun _ => ?_, fun z => (by cases z)⟩
  subst_eqs
  refine ⟨fun _ => ?_, fun z => (by cases z)⟩
  subst_eqs
  refine inb (by omega) (by omega) ?_
  subst_eqs
  refine ⟨fun z => (by cases z), fun _ => ?_⟩
  subst_eqs
  refine ⟨fun z => absurd z (by decide), fun _ => ?_⟩
  subst_eqs
  refine ⟨fun _ => ?_, fun z => absurd z (by decide)⟩
  subst_eqs
  refine inb (by omega) (by omega) ?_
  subst_eqs
  refine ⟨fun _ => ?_, fun z => (by cases z)⟩
  subst_eqs
  refine inb (by omega) (by omega) ?_
  subst_eqs
  refine ⟨fun z => (by cases z), fun _ => ?_⟩
  subst_eqs
  refine ⟨fun _ => ?_, fun z => absurd rfl (of_decide_eq_false z)⟩
  subst_eqs
  refine points (pr_small p hp) (by omega) (by omega) (by omega) (by omega) fun fs hf => ?_
  subst_eqs
  rw [show PyData.eqv (.int ((fs.length : Nat) : Int)) (.int (o : Int)) = true from decide_eq_true (by omega)]
  exact pp
/-- a scheme as a law plans it: prime, way, shelves, K, D, its room and its size -/
inductive Plan : PyData → Nat → Int → Int → Int → Prop
  | let {p o : Int} {n : Nat} {d : Int} : p ∈ prL → o ≤ 10 → 1 ≤ n → (n : Int) ≤ d → d ≤ o - 1 → Plan (.tuple [.int p, .str "letters", .int o, .int (n : Int), .int d]) n d d ((n : Int) * ((n : Int) + 1) / 2 + (n : Int) * (d - (n : Int)))
  | room {p : Int} {o n : Nat} : p ∈ prL → o ≤ 10 → 2 ≤ n → 2 * n ≤ o + 1 → (cap o (key p n) (p - 1).toNat).length = o → Plan (.tuple [.int p, .str "room", .int (o : Int), .int (n : Int), .int (2 * (n : Int) - 2)]) n (2 * (n : Int) - 2) ((n : Int) - 1) ((n : Int) * ((n : Int) - 1))
theorem planned {x : PyData} {n : Nat} {d own size : Int} {P : PyData → Prop} (h : Plan x n d own size) (pp : P .none) : WM m_check_scheme [x] P := by
  unfold m_check_scheme f_check_scheme
  refine wm_of ?_
  subst_eqs
  cases h with
  | «let» hp o2 n1 n2 n3 =>
    refine schemeL hp (by omega) o2 (by omega) (by omega) n2 n3 ?_
    subst_eqs
    exact ⟨fun z => (by cases z), fun _ => w_next pp⟩
  | room hp o2 n1 n2 hc =>
    refine schemeR hp (by omega) o2 n1 n2 hc ?_
    subst_eqs
    exact ⟨fun z => (by cases z), fun _ => w_next pp⟩
theorem roomP {x : PyData} {n : Nat} {d own size : Int} {P : PyData → Prop} (h : Plan x n d own size) (pp : P (.int own)) : WM m_room_of [x] P := by
  unfold m_room_of f_room_of
  refine wm_of ?_
  subst_eqs
  refine planned h ?_
  subst_eqs
  unfold m_room_for f_room_for
  refine wm_of ?_
  subst_eqs
  cases h with
  | «let» hp o2 n1 n2 n3 =>
    subst_eqs
    refine ⟨1, _, rfl, rfl, ?_⟩
    subst_eqs
    refine ⟨fun _ => ?_, fun z => absurd z (by decide)⟩
    subst_eqs
    refine ⟨4, _, rfl, rfl, ?_⟩
    exact pp
  | room hp o2 n1 n2 hc =>
    subst_eqs
    refine ⟨1, _, rfl, rfl, ?_⟩
    subst_eqs
    refine ⟨fun z => absurd z (by decide), fun _ => ?_⟩
    subst_eqs
    refine ⟨3, _, rfl, rfl, ?_⟩
    subst_eqs
    exact pp
theorem sizeP {x : PyData} {n : Nat} {d own size : Int} {P : PyData → Prop} (h : Plan x n d own size) (pp : P (.int size)) : WM m_size_of [x] P := by
  unfold m_size_of f_size_of
  refine wm_of ?_
  subst_eqs
  refine planned h ?_
  subst_eqs
  unfold m_size_for f_size_for
  refine wm_of ?_
  cases h with
  | «let» hp o2 n1 n2 n3 =>
    subst_eqs
    refine ⟨fun _ => ?_, fun z => absurd z (by decide)⟩
    subst_eqs
    exact pp
  | room hp o2 n1 n2 hc =>
    subst_eqs
    refine ⟨fun z => absurd z (by decide), fun _ => ?_⟩
    subst_eqs
    exact pp
theorem primes {P : PyData → Prop} (pp : P (.tuple (prL.map PyData.int))) : WM m__law_primes [] P := by
  unfold m__law_primes f__law_primes
  refine wm_of ?_
  subst_eqs
  exact ⟨by decide, pp⟩
/-- 97 has enough unlike powers -/
theorem enough : ∀ o : Nat, o ≤ 10 → ∀ n : Nat, n ≤ 5 → 2 ≤ n → 2 * n ≤ o + 1 → (cap o (key 97 n) 96).length = o := by decide +kernel
theorem few_le {n : Nat} (h : n ≤ 1000) : n ≤ sizeLine := Nat.le_trans h big
theorem plan {P : PyData → Prop} (pp : ∀ x n d own size, Plan x n d own size → P x) : WM m__law_plan [.int 10] P := by
  unfold m__law_plan f__law_plan
  refine wm_of ?_
  subst_eqs
  refine primes ?_
  subst_eqs
  refine any_of ?_ ?_ fun x hx => ?_
  · decide
  · decide
  obtain ⟨p, hp, rfl⟩ := List.mem_map.mp hx
  subst_eqs
  refine draw (by omega) (by omega) fun r r0 r1 => ?_
  obtain ⟨o, e⟩ : ∃ o : Nat, 2 + r = (o : Int) := ⟨(2 + r).toNat, by omega⟩
  have o1 : 2 ≤ o := by omega
  have o2 : o ≤ 10 := by omega
  have tail : Wp (fSeq (fSet 4 (f2 gAdd (fC (.int 1)) (fCallW 0 m__law_draw 1 (fCons (f2 gSubt (fVar 3) (fC (.int 1))) fNil))))
      (fRet (fTup (fCons (fVar 2) (fCons (fC (.str "letters")) (fCons (fVar 3) (fCons (fVar 4) (fCons (f2 gAdd (fVar 4) (fCallW 0 m__law_draw 1 (fCons (f2 gSubt (fVar 3) (fVar 4)) fNil))) fNil)))))))
      [.well, .dat (.int 10), .dat (.int p), .dat (.int (o : Int)), .no]) (fun c => match c with | .rt d => P d | .nx _ => P .none | _ => False) := by
    subst_eqs
    refine draw (by omega) (by omega) fun r r0 r1 => ?_
    obtain ⟨n, en⟩ : ∃ n : Nat, 1 + r = (n : Int) := ⟨(1 + r).toNat, by omega⟩
    subst_eqs
    rw [en]
    refine draw (by omega) (by omega) fun r r0 r1 => ?_
    subst_eqs
    refine ⟨few_le (by simp), ?_⟩
    exact pp _ _ _ _ _ (.let hp (by omega) (by omega) (by omega) (by omega))
  subst_eqs
  refine ⟨few_le (by simp), ?_⟩
  rw [e]
  subst_eqs
  refine ⟨fun h => ?_, fun h => ?_⟩
  · have h : 2 < (o : Int) := of_decide_eq_true h
    subst_eqs
    refine draw (by omega) (by omega) fun q q0 q1 => ?_
    subst_eqs
    refine ⟨fun _ => ?_, fun _ => ?_⟩
    · subst_eqs
      refine draw (by omega) (by omega) fun r r0 r1 => ?_
      obtain ⟨n, en⟩ : ∃ n : Nat, 2 + r = (n : Int) := ⟨(2 + r).toNat, by omega⟩
      have n2 : 2 * n ≤ o + 1 := by omega
      subst_eqs
      rw [en]
      refine spots (pr_small p hp) (by omega) (by omega) (by omega) fun fs hf => ?_
      subst_eqs
      have cl := cap_le o (key p n) (p - 1).toNat
      refine ⟨fun _ => ?_, fun h => ?_⟩
      · subst_eqs
        refine ⟨few_le (by simp), ?_⟩
        exact pp _ _ _ _ _ (.room (p := 97) (by decide) (by omega) (by omega) n2 (enough o o2 n (by omega) (by omega) n2))
      · have h : ¬ ((fs.length : Nat) : Int) < (o : Int) := of_decide_eq_false h
        subst_eqs
        refine ⟨few_le (by simp), ?_⟩
        exact pp _ _ _ _ _ (.room hp (by omega) (by omega) n2 (by omega))
    · refine w_next ?_
      exact tail
  · refine ⟨fun z => (by cases z), fun _ => ?_⟩
    refine w_next ?_
    exact tail
end P11
namespace P11
open PySem DL L2
local macro_rules
  | `(tactic| subst_eqs) => `(tactic| repeat (first
  | with_reducible refine w_seq ?_ | with_reducible refine w_Ret ?_ | with_reducible refine w_set ?_ | with_reducible refine w_setN ?_ | with_reducible refine w_ifS ?_ | with_reducible refine w_drop ?_ | with_reducible refine w_asgM ?_ | with_reducible refine w_next ?_ | with_reducible refine w_retN ?_ | with_reducible refine w_break ?_
  | ((with_reducible apply w_fz); · rfl) | ((with_reducible apply w_app); · rfl) | with_reducible refine w_asg ?_ | with_reducible refine w_for ?_
  | with_reducible refine w_C ?_ | ((with_reducible apply w_var); · rfl) | with_reducible refine w_2 ?_ | with_reducible refine w_1 ?_ | with_reducible refine w_cons ?_ | with_reducible refine w_nil ?_ | with_reducible refine w_tup ?_ | with_reducible refine w_lst ?_ | with_reducible refine w_L ?_ | with_reducible refine w_Q ?_ | ((with_reducible apply w_own); · rfl) | with_reducible refine w_QN ?_ | with_reducible refine w_len ?_ | with_reducible refine w_list ?_ | with_reducible refine w_tuple ?_ | with_reducible refine w_ix ?_
  | with_reducible refine w_call ?_ | ((with_reducible apply w_callW); · rfl) | with_reducible refine w_callK ?_ | with_reducible refine w_blt ?_ | with_reducible refine w_isi ?_ | with_reducible refine w_repr ?_ | with_reducible refine w_sum ?_ | with_reducible refine w_B ?_ | with_reducible refine w_and ?_ | with_reducible refine w_or ?_ | with_reducible refine w_not ?_ | with_reducible refine w_andV ?_ | with_reducible refine w_orV ?_ | with_reducible refine w_notV ?_ | with_reducible refine w_if ?_ | with_reducible refine w_3 ?_
  | with_reducible refine w_mD ?_ | with_reducible refine w_mN ?_ | with_reducible refine w_mNil ?_ | with_reducible refine w_in ?_ | with_reducible refine w_rng1 ?_ | with_reducible refine w_rng2 ?_
  | refine g_eq (by first | rfl | decide +kernel) ?_ | refine g_ne (by first | rfl | decide +kernel) ?_
  | refine g_mul (by first | exact mul_ok (by omega) | exact mul_ok' (by omega)) ?_ | refine g_mod (by omega) ?_ | refine g_div (by omega) ?_
  | refine ⟨_, rfl, ?_⟩ | refine ⟨rfl, ?_⟩))
/-- what the plans' numbers are to each other -/
def smallB (n d : Nat) : Bool := decide (S n d d 1 = (n : Int) * ((n : Int) + 1) / 2 + (n : Int) * ((d : Int) - (n : Int))) && decide (S n d ((d : Int) - 1) 1 < (n : Int) * ((n : Int) + 1) / 2 + (n : Int) * ((d : Int) - (n : Int))) && decide (1 ≤ (n : Int) * ((n : Int) + 1) / 2 + (n : Int) * ((d : Int) - (n : Int))) && decide ((n : Int) * ((n : Int) + 1) / 2 + (n : Int) * ((d : Int) - (n : Int)) < 100) && decide ((d : Int) ≤ (n : Int) * ((n : Int) + 1) / 2 + (n : Int) * ((d : Int) - (n : Int)))
theorem smallA : ((List.range 10).all fun n => (List.range 10).all fun d => !decide (1 ≤ n) || !decide (n ≤ d) || smallB n d) = true := by decide +kernel
theorem small (n : Nat) (hn : n < 10) (d : Nat) (hd : d < 10) (h1 : 1 ≤ n) (h2 : n ≤ d) :
    (S n d d 1 = (n : Int) * ((n : Int) + 1) / 2 + (n : Int) * ((d : Int) - (n : Int)) ∧ S n d ((d : Int) - 1) 1 < (n : Int) * ((n : Int) + 1) / 2 + (n : Int) * ((d : Int) - (n : Int)) ∧ 1 ≤ (n : Int) * ((n : Int) + 1) / 2 + (n : Int) * ((d : Int) - (n : Int)) ∧ (n : Int) * ((n : Int) + 1) / 2 + (n : Int) * ((d : Int) - (n : Int)) < 100 ∧ (d : Int) ≤ (n : Int) * ((n : Int) + 1) / 2 + (n : Int) * ((d : Int) - (n : Int))) := by
  have h := List.all_eq_true.mp (List.all_eq_true.mp smallA n (List.mem_range.mpr hn)) d (List.mem_range.mpr hd)
  rw [decide_eq_true h1, decide_eq_true h2] at h
  have h : smallB n d = true := h
  unfold smallB at h
  simp only [decide_eq_true_eq, Bool.and_eq_true] at h
  exact ⟨h.1.1.1.1, h.1.1.1.2, h.1.1.2, h.1.2, h.2⟩
def smallC (n : Nat) : Bool := decide (S n (2 * (n : Int) - 2) ((n : Int) - 1) 1 = (n : Int) * ((n : Int) - 1)) && decide (S n (2 * (n : Int) - 2) ((n : Int) - 1 - 1) 1 < (n : Int) * ((n : Int) - 1)) && decide (1 ≤ (n : Int) * ((n : Int) - 1)) && decide ((n : Int) * ((n : Int) - 1) < 100) && decide ((n : Int) - 1 ≤ (n : Int) * ((n : Int) - 1))
theorem smallD : ((List.range 6).all fun n => !decide (2 ≤ n) || smallC n) = true := by decide +kernel
theorem small2 (n : Nat) (hn : n < 6) (h1 : 2 ≤ n) :
    (S n (2 * (n : Int) - 2) ((n : Int) - 1) 1 = (n : Int) * ((n : Int) - 1) ∧ S n (2 * (n : Int) - 2) ((n : Int) - 1 - 1) 1 < (n : Int) * ((n : Int) - 1) ∧ 1 ≤ (n : Int) * ((n : Int) - 1) ∧ (n : Int) * ((n : Int) - 1) < 100 ∧ (n : Int) - 1 ≤ (n : Int) * ((n : Int) - 1)) := by
  have h := List.all_eq_true.mp smallD n (List.mem_range.mpr hn)
  rw [decide_eq_true h1] at h
  have h : smallC n = true := h
  unfold smallC at h
  simp only [decide_eq_true_eq, Bool.and_eq_true] at h
  exact ⟨h.1.1.1.1, h.1.1.1.2, h.1.1.2, h.1.2, h.2⟩
theorem facts {x : PyData} {n : Nat} {d own size : Int} (h : Plan x n d own size) : (1 ≤ n ∧ n ≤ 9 ∧ (n : Int) ≤ d ∧ d ≤ 9 ∧ 1 ≤ own ∧ own ≤ 9) ∧ (S n d own 1 = size ∧ S n d (own - 1) 1 < size ∧ 1 ≤ size ∧ size < 100 ∧ own ≤ size) ∧
    ∃ a b c, x = .tuple [a, b, c, .int (n : Int), .int d] ∧ ((b = .str "letters" ∧ own = d) ∨ (b = .str "room" ∧ own = (n : Int) - 1)) := by
  cases h with
  | «let» hp o2 n1 n2 n3 =>
    obtain ⟨e, rfl⟩ : ∃ e : Nat, d = (e : Int) := ⟨d.toNat, by omega⟩
    exact ⟨⟨n1, by omega, n2, by omega, by omega, by omega⟩, small n (by omega) e (by omega) n1 (by omega), _, _, _, rfl, .inl ⟨rfl, rfl⟩⟩
  | room hp o2 n1 n2 hc => exact ⟨⟨by omega, by omega, by omega, by omega, by omega, by omega⟩, small2 n (by omega) n1, _, _, _, rfl, .inr ⟨rfl, rfl⟩⟩
def okL (k j : Nat) : Bool := okShow (.list [.int (k : Int), .int (j : Int), .int 1]) && SeqAt.shaped (.str (PyData.list [.int (k : Int), .int (j : Int), .int 1]).shown)
theorem okLs : ((List.range 100).all fun k => (List.range 10).all fun j => okL k j) = true := by decide +kernel
theorem shown_int {v : Int} (h0 : 0 ≤ v) (h1 : v ≤ 12000) : okShow (.int v) = true ∧ SeqAt.shaped (.str (PyData.int v).shown) = true := by
  have lg : v.natAbs.log2 < 1920 := by
    by_cases h : v.natAbs = 0
    · rw [h]
      decide
    · exact (Nat.log2_lt h).mpr (Nat.lt_of_le_of_lt (show v.natAbs ≤ 12000 by omega) (by decide +kernel))
  have l := PyProof.Rows.shown_le13 (d := .int v) (by simp [PyData.layable0, PyData.canLay0, PyData.depth, PyData.weight]; split <;> omega) (PyProof.Rows.intsShort_of_noneOrInC (lo := 0) (hi := 12000) (by decide) (by decide) (.int v) (by
    show (!decide (v < 0) && !decide (12000 < v)) = true
    rw [decide_eq_false (show ¬ v < 0 by omega), decide_eq_false (show ¬ 12000 < v by omega)]
    rfl))
  have z : sizeLine = 16777216 := by decide
  refine ⟨?_, ?_⟩
  · unfold okShow
    rw [decide_eq_true (show (PyData.int v).shown.length ≤ sizeLine by omega)]
    show (decide (v.natAbs.log2 < 1920) && (_ && true)) = true
    rw [decide_eq_true lg]
    rfl
  · have s : PyData.strOk (PyData.int v).shown = true := by
      unfold PyData.strOk
      rw [Array.all_eq_true_iff_forall_mem]
      intro c hc
      refine decide_eq_true ?_
      refine Nat.lt_of_not_le fun h => PyProof.Rows.shown_int_free' (k := c) ⟨?_, .inr ?_⟩ v (Array.mem_toList_iff.mpr hc)
      · omega
      · omega
    show (PyData.strOk (PyData.int v).shown && true) = true
    rw [s]
    rfl
theorem shown_list {v u : Int} (h0 : 0 ≤ v) (h1 : v < 100) (h2 : 0 ≤ u) (h3 : u ≤ 9) : okShow (.list [.int v, .int u, .int 1]) = true ∧ SeqAt.shaped (.str (PyData.list [.int v, .int u, .int 1]).shown) = true := by
  obtain ⟨k, rfl⟩ : ∃ k : Nat, v = (k : Int) := ⟨v.toNat, by omega⟩
  obtain ⟨j, rfl⟩ : ∃ j : Nat, u = (j : Int) := ⟨u.toNat, by omega⟩
  exact Bool.and_eq_true_iff.mp (List.all_eq_true.mp (List.all_eq_true.mp okLs k (List.mem_range.mpr (by omega))) j (List.mem_range.mpr (by omega)))
theorem eqv_str (x : Str) : PyData.eqv (.str x) (.str x) = true := by
  show decide (x = x) = true
  exact decide_eq_true rfl
end P11
namespace P11
open PySem DL L2
local macro_rules
  | `(tactic| subst_eqs) => `(tactic| repeat (first
  | with_reducible refine w_seq ?_ | with_reducible refine w_Ret ?_ | with_reducible refine w_set ?_ | with_reducible refine w_setN ?_ | with_reducible refine w_ifS ?_ | with_reducible refine w_drop ?_ | with_reducible refine w_asgM ?_ | with_reducible refine w_next ?_ | with_reducible refine w_retN ?_ | with_reducible refine w_break ?_
  | ((with_reducible apply w_fz); · rfl) | ((with_reducible apply w_app); · rfl) | with_reducible refine w_asg ?_ | with_reducible refine w_for ?_
  | with_reducible refine w_C ?_ | ((with_reducible apply w_var); · rfl) | with_reducible refine w_2 ?_ | with_reducible refine w_1 ?_ | with_reducible refine w_cons ?_ | with_reducible refine w_nil ?_ | with_reducible refine w_tup ?_ | with_reducible refine w_lst ?_ | with_reducible refine w_L ?_ | with_reducible refine w_Q ?_ | ((with_reducible apply w_own); · rfl) | with_reducible refine w_QN ?_ | with_reducible refine w_len ?_ | with_reducible refine w_list ?_ | with_reducible refine w_tuple ?_ | with_reducible refine w_ix ?_
  | with_reducible refine w_call ?_ | ((with_reducible apply w_callW); · rfl) | with_reducible refine w_callK ?_ | with_reducible refine w_blt ?_ | with_reducible refine w_isi ?_ | with_reducible refine w_repr ?_ | with_reducible refine w_sum ?_ | with_reducible refine w_B ?_ | with_reducible refine w_and ?_ | with_reducible refine w_or ?_ | with_reducible refine w_not ?_ | with_reducible refine w_andV ?_ | with_reducible refine w_orV ?_ | with_reducible refine w_notV ?_ | with_reducible refine w_if ?_ | with_reducible refine w_3 ?_
  | with_reducible refine w_mD ?_ | with_reducible refine w_mN ?_ | with_reducible refine w_mNil ?_ | with_reducible refine w_in ?_ | with_reducible refine w_rng1 ?_ | with_reducible refine w_rng2 ?_
  | refine g_eq (by first | rfl | decide +kernel) ?_ | refine g_ne (by first | rfl | decide +kernel) ?_
  | refine g_mul (by first | exact mul_ok (by omega) | exact mul_ok' (by omega)) ?_ | refine g_mod (by omega) ?_ | refine g_div (by omega) ?_
  | refine ⟨_, rfl, ?_⟩ | refine ⟨rfl, ?_⟩))
theorem S_bound {n : Nat} {aids wide notes : Int} (h1 : n ≤ 12) (h3 : (n : Int) ≤ aids) (w1 : 1 ≤ wide) (w2 : wide ≤ 1000) (l1 : 1 ≤ notes) : 0 ≤ S n aids wide notes ∧ S n aids wide notes ≤ 12000 := by
  refine ⟨S_pos (by omega) (by omega) n h3, ?_⟩
  have a := S_most (aids := aids) (wide := wide) (notes := notes) n
  have b : (n : Int) * wide ≤ 12 * wide := Int.mul_le_mul_of_nonneg_right (by omega) (by omega)
  omega
theorem right {P : PyData → Prop} (pp : P (.bool true)) : WM m__law_right [] P := by
  unfold m__law_right f__law_right
  refine wm_of ?_
  subst_eqs
  refine draw (by omega) (by omega) fun r r0 r1 => ?_
  obtain ⟨n, en⟩ : ∃ n : Nat, 1 + r = (n : Int) := ⟨(1 + r).toNat, by omega⟩
  subst_eqs
  rw [en]
  refine draw (by omega) (by omega) fun a a0 a1 => ?_
  subst_eqs
  refine number fun wide w1 w2 => ?_
  subst_eqs
  refine number fun notes l1 l2 => ?_
  subst_eqs
  refine ⟨few_le (by simp), ?_⟩
  subst_eqs
  refine sums (n := n) (by omega) (by omega) ?_
  subst_eqs
  refine draw (by omega) (by omega) fun near e0 e1 => ?_
  subst_eqs
  refine ⟨few_le (by simp), ?_⟩
  have n1 : 1 ≤ n := by omega
  have n2 : n ≤ 12 := by omega
  have d1 : (n : Int) ≤ (n : Int) + a := by omega
  have d2 : (n : Int) + a ≤ 12 := by omega
  obtain ⟨s0, s1⟩ := S_bound (aids := (n : Int) + a) n2 d1 w1 w2 l1
  obtain ⟨v1, v2⟩ := shown_int s0 s1
  refine ⟨_, rfl, ?_⟩
  refine w_seq (w_ifS (w_B (w_2 (w_repr (w_call ?_)))))
  subst_eqs
  refine most (n := n) n1 n2 d1 d2 w1 w2 l1 l2 ⟨v1, ?_⟩
  refine w_repr (w_var rfl ⟨v1, g_ne (by rw [v2]; rfl) ?_⟩)
  rw [eqv_str]
  refine ⟨_, rfl, fun z => (by cases z), fun _ => w_next ?_⟩
  refine w_seq (w_set (Wp.mono (P := fun g => ∃ goal : Int, g = .int goal ∧ 1 ≤ goal ∧ goal ≤ 1000) ?_ ?_))
  · subst_eqs
    refine draw (by omega) (by omega) fun b b0 b1 => ?_
    subst_eqs
    refine ⟨fun _ => ?_, fun _ => ?_⟩
    · subst_eqs
      refine ⟨?_, ?_⟩ <;> (repeat' split) <;> omega
    · subst_eqs
      exact number fun v h1 h2 => ⟨v, rfl, h1, h2⟩
  rintro _ ⟨goal, rfl, g1, g2⟩
  refine w_seq (w_ifS (w_not (w_B (w_call ?_))))
  subst_eqs
  refine leastRight g1 g2 n1 n2 d1 d2 w1 w2 l1 l2 ?_
  refine ⟨_, rfl, fun z => (by cases z), fun _ => w_next ?_⟩
  refine w_seq (w_set (w_callW rfl ?_))
  subst_eqs
  refine plan fun x k d own size hP => ?_
  obtain ⟨⟨k1, k2, kd, d9, o1, o9⟩, ⟨q1, q2, q3, q4, q5⟩, x1, x2, x3, rfl, hw⟩ := facts hP
  subst_eqs
  refine sizeP hP ?_
  subst_eqs
  refine roomP hP ?_
  subst_eqs
  refine ⟨few_le (by simp), ?_⟩
  subst_eqs
  refine ⟨4, _, rfl, rfl, ?_⟩
  subst_eqs
  refine ⟨3, _, rfl, rfl, ?_⟩
  subst_eqs
  refine most (n := k) k1 (by omega) kd (by omega) (by omega) (by omega) (by omega) (by omega) ?_
  rw [q1]
  subst_eqs
  refine ⟨few_le (by simp), ?_⟩
  subst_eqs
  refine ⟨3, _, rfl, rfl, ?_⟩
  subst_eqs
  refine ⟨4, _, rfl, rfl, ?_⟩
  subst_eqs
  have first : ∀ r, 1 ≤ r → size ≤ S k d r 1 → (∀ q, 1 ≤ q → q < r → S k d q 1 < size) → r = own := fun r r1 r3 r4 => by
    by_cases u : r < own
    · have := S_wide (aids := d) (notes := 1) (show r ≤ own - 1 by omega) k
      omega
    · by_cases v : own < r
      · have := r4 own o1 v
        omega
      · omega
  refine roomOf q3 (by omega) k1 (by omega) kd (by omega) (by omega) (by omega) (fun r r1 r2 r3 r4 => ?_) fun q => by have := q own o1 q5; omega
  obtain rfl := first r r1 r3 r4
  have bg := big
  refine ⟨by show 1 < sizeLine; omega, ?_⟩
  refine w_seq (w_app rfl ?_)
  subst_eqs
  refine ⟨4, _, rfl, rfl, ?_⟩
  subst_eqs
  refine ⟨3, _, rfl, rfl, ?_⟩
  subst_eqs
  refine lettersOf (n := k) q3 (by omega) k1 (by omega) kd (by omega) (by omega) (by omega) (fun u u1 u2 u3 u4 => ?_) fun q => by have := q 1 (by omega) q3; omega
  obtain rfl : u = 1 := by
    by_cases v : 1 < u
    · have := u4 1 (by omega) v
      omega
    · omega
  refine ⟨by show 2 < sizeLine; omega, ?_⟩
  refine w_seq (w_set (Wp.mono (P := fun v => v = .int r) ?_ ?_))
  · subst_eqs
    refine ⟨1, _, rfl, rfl, ?_⟩
    rcases hw with ⟨rfl, e⟩ | ⟨rfl, e⟩
    · subst_eqs
      refine ⟨fun _ => ?_, fun z => absurd z (by decide)⟩
      subst_eqs
      exact ⟨4, _, rfl, rfl, by rw [e]⟩
    · subst_eqs
      refine ⟨fun z => absurd z (by decide), fun _ => ?_⟩
      subst_eqs
      refine ⟨3, _, rfl, rfl, ?_⟩
      subst_eqs
      rw [e]
  rintro _ rfl
  obtain ⟨L1, L2⟩ := shown_list (v := size) (u := r) (by omega) q4 (by omega) o9
  obtain ⟨M1, M2⟩ := shown_int (v := size) (by omega) (by omega)
  refine w_fz rfl (w_Ret (w_andV (w_2 (w_repr (w_var rfl ⟨L1, w_repr (w_L (w_lst ?_))⟩)))))
  subst_eqs
  refine ⟨3, _, rfl, rfl, ?_⟩
  subst_eqs
  refine ⟨4, _, rfl, rfl, ?_⟩
  subst_eqs
  refine sums (n := k) (by omega) (by omega) ?_
  rw [q1]
  subst_eqs
  refine ⟨few_le (by simp), L1, g_eq (by
    show (SeqAt.shaped (.str (PyData.list [.int size, .int r, .int 1]).shown) && SeqAt.shaped (.str (PyData.list [.int size, .int r, .int 1]).shown)) = true
    rw [L2]
    rfl) ?_⟩
  refine ⟨_, congrArg PyData.bool (eqv_str _), fun _ => ?_, fun z => (by cases z)⟩
  refine w_2 (w_repr (w_ix (w_Q (w_var rfl ⟨_, rfl, w_C ⟨0, _, rfl, rfl, M1, w_repr (w_var rfl ⟨M1, g_eq (by rw [M2]; rfl) ?_⟩)⟩⟩))))
  rw [eqv_str]
  exact pp
end P11
namespace P11
open PySem DL L2
section
variable {η : Vw} {fe fi : FE} {fs : FA} {fl fh : FO} {f : FS} {g : FSN} {P : PyData → Prop} {PA : List PyData → Prop} {PO : Option Int → Prop} {PS : Ctl → Prop} {i : Nat} {ns : List Int}
theorem w_seqN (h : Wp (f η) fun c => ∃ η', c = .nx η' ∧ Wp (g η') PA) : Wp (fSeqN f g η) PA := by
  refine wp_bind (h.mono fun c ⟨η', e, p⟩ => ?_)
  subst e
  exact p
theorem w_slen (e : slAt η i = .scr ns) (h : P (.int (ns.length : Int))) : Wp (fSlen i η) P := fun w => ⟨_, w, by unfold fSlen; rw [e], h⟩
theorem w_six (e : slAt η i = .scr ns) (h : Wp (fi η) fun k => ∃ j z, k = .int j ∧ atI ns j = some z ∧ P (.int z)) : Wp (fSix i fi η) P := by
  have : fSix i fi η = fun w => (fi η w).bind fun y => (intOf y.1).bind fun k => (atI ns k).bind fun z => some (.int z, y.2) := by
    funext w
    unfold fSix
    rw [e]
  rw [this]
  refine wp_bind (h.mono fun k ⟨j, z, e1, e2, p⟩ => ?_)
  subst e1
  show Wp (fun w => (atI ns j).bind fun z => some (.int z, w)) P
  exact wp_opt ⟨z, e2, wp_ret p⟩
theorem w_noPart (h : PO none) : Wp (fNoPart η) PO := wp_ret h
theorem w_part (h : Wp (fe η) fun d => ∃ j, d = .int j ∧ PO (some j)) : Wp (fPart fe η) PO := by
  refine wp_bind (h.mono fun k ⟨j, e1, p⟩ => ?_)
  subst e1
  exact wp_ret p
theorem w_scut (e : slAt η i = .scr ns) (h : Wp (fl η) fun lo => Wp (fh η) fun hi => PA (cutD (intsD ns) lo hi)) : Wp (fScut i fl fh η) PA := by
  have : fScut i fl fh η = fun w => (fl η w).bind fun y => (fh η y.2).bind fun z => some (cutD (intsD ns) y.1 z.1, z.2) := by
    funext w
    unfold fScut
    rw [e]
  rw [this]
  refine wp_bind (h.mono fun lo h => ?_)
  show Wp (fun w => (fh η w).bind fun z => some (cutD (intsD ns) lo z.1, z.2)) PA
  exact wp_bind (h.mono fun hi p => wp_ret p)
theorem w_callWN {mn : FMN} {n : Nat} {m : FM} (e : slAt η i = .scr ns) (h : Wp (fs η) fun l => l.length = n ∧ Wp (mn ns l) (fun z => ∃ w0, wOf z = some w0) ∧ WM m [] P) : Wp (fCallWN i mn n m fs η) P := by
  have : fCallWN i mn n m fs η = fun w => (fs η w).bind fun y => if y.1.length = n then (mn ns y.1 y.2).bind fun z => (wOf z.1).bind fun w0 => (m [] w0).bind fun r => some (r.1, z.2) else none := by
    funext w
    unfold fCallWN
    rw [e]
  rw [this]
  refine wp_bind (h.mono fun l ⟨hl, hw, hm⟩ => ?_)
  show Wp (fun w => if l.length = n then (mn ns l w).bind fun z => (wOf z.1).bind fun w0 => (m [] w0).bind fun r => some (r.1, z.2) else none) P
  refine wp_if (fun _ => wp_bind (hw.mono fun z ⟨w0, e0⟩ => ?_)) fun n => (n hl).elim
  intro w
  obtain ⟨r, w', er, p⟩ := hm.out w0
  refine ⟨r, w, ?_, p⟩
  show (wOf z).bind (fun w0 => (m [] w0).bind fun r => some (r.1, w)) = some (r, w)
  rw [e0]
  show (m [] w0).bind (fun r => some (r.1, w)) = some (r, w)
  rw [er]
  rfl
theorem keep (Sh : Vw → Prop) {k : PyData → Vw → Option Vw} : ∀ (ds : List PyData) (η : Vw), (∀ η d, d ∈ ds → Sh η → ∃ η1, k d η = some η1 ∧ Wp (f η1) fun c => ∃ η', c = .nx η' ∧ Sh η') → Sh η → (∀ η, Sh η → PS (.nx η)) → Wp (fLoop k f ds η) PS
  | [], η, _, h, p => l_nil (p η h)
  | d :: ds, η, st, h, p => by
    obtain ⟨η1, e, hw⟩ := st η d List.mem_cons_self h
    refine l_cons ⟨η1, e, hw.mono fun c hc => ?_⟩
    obtain ⟨η', rfl, h'⟩ := hc
    exact keep Sh ds η' (fun η d hd => st η d (List.mem_cons_of_mem _ hd)) h' p
end
local macro_rules
  | `(tactic| subst_eqs) => `(tactic| repeat (first
  | with_reducible refine w_seq ?_ | with_reducible refine w_Ret ?_ | with_reducible refine w_set ?_ | with_reducible refine w_setN ?_ | with_reducible refine w_ifS ?_ | with_reducible refine w_drop ?_ | with_reducible refine w_asgM ?_ | with_reducible refine w_next ?_ | with_reducible refine w_retN ?_ | with_reducible refine w_break ?_
  | ((with_reducible apply w_fz); · rfl) | ((with_reducible apply w_app); · rfl) | with_reducible refine w_asg ?_ | with_reducible refine w_for ?_
  | with_reducible refine w_C ?_ | ((with_reducible apply w_var); · rfl) | with_reducible refine w_2 ?_ | with_reducible refine w_1 ?_ | with_reducible refine w_cons ?_ | with_reducible refine w_nil ?_ | with_reducible refine w_tup ?_ | with_reducible refine w_lst ?_ | with_reducible refine w_L ?_ | with_reducible refine w_Q ?_ | ((with_reducible apply w_own); · rfl) | with_reducible refine w_QN ?_ | with_reducible refine w_len ?_ | with_reducible refine w_list ?_ | with_reducible refine w_tuple ?_ | with_reducible refine w_ix ?_
  | with_reducible refine w_call ?_ | ((with_reducible apply w_callW); · rfl) | with_reducible refine w_callK ?_ | with_reducible refine w_blt ?_ | with_reducible refine w_isi ?_ | with_reducible refine w_repr ?_ | with_reducible refine w_sum ?_ | with_reducible refine w_B ?_ | with_reducible refine w_and ?_ | with_reducible refine w_or ?_ | with_reducible refine w_not ?_ | with_reducible refine w_andV ?_ | with_reducible refine w_orV ?_ | with_reducible refine w_notV ?_ | with_reducible refine w_if ?_ | with_reducible refine w_3 ?_
  | with_reducible refine w_mD ?_ | with_reducible refine w_mN ?_ | with_reducible refine w_mNil ?_ | with_reducible refine w_in ?_ | with_reducible refine w_rng1 ?_ | with_reducible refine w_rng2 ?_
  | refine g_eq (by first | rfl | decide +kernel) ?_ | refine g_ne (by first | rfl | decide +kernel) ?_
  | refine g_mul (by first | exact mul_ok (by omega) | exact mul_ok' (by omega)) ?_ | refine g_mod (by omega) ?_ | refine g_div (by omega) ?_
  | refine ⟨_, rfl, ?_⟩ | refine ⟨rfl, ?_⟩))
theorem cut_int {ns : List Int} {lo hi : Option Int} : ∀ d ∈ cutD (intsD ns) lo hi, ∃ v, d = PyData.int v := fun d h => by
  unfold cutD at h
  obtain ⟨v, _, e⟩ := List.mem_map.mp (List.mem_of_mem_drop (List.mem_of_mem_take h))
  exact ⟨v, e.symm⟩
theorem atI_ints {ns : List Int} {k : Int} (h0 : 0 ≤ k) (h1 : k < ns.length) : ∃ z, atI ns k = some z := by
  have lt : k.toNat < ns.length := by omega
  refine ⟨ns[k.toNat], ?_⟩
  unfold atI ixN
  rw [if_pos h0, if_pos h1]
  exact List.getElem?_eq_getElem lt
theorem well {ns : List Int} {t : Int} (h0 : 0 ≤ t) : Wp (m__law_well ns [.int t]) fun z => ∃ w0, wOf z = some w0 := by
  show Wp (f__law_well (iniS 5 ns [.int t])) _
  unfold f__law_well
  refine w_seqN ?_
  subst_eqs
  refine w_seqN (w_for (w_get (w_L (w_scut rfl (w_noPart (w_part ?_))))))
  subst_eqs
  refine keep (fun η => ∃ s y, η = [.scr ns, .dat (.int t), .dat (.int s), y, .no]) _ _ ?_ ⟨_, _, rfl⟩ ?_
  · rintro _ d hd ⟨s, y, rfl⟩
    obtain ⟨v, rfl⟩ := cut_int d hd
    refine ⟨_, rfl, ?_⟩
    subst_eqs
    exact ⟨_, .dat (.int v), rfl⟩
  · rintro _ ⟨s, y, rfl⟩
    refine ⟨_, rfl, ?_⟩
    refine w_seqN (w_set (Wp.mono (P := fun v => ∃ o : Int, v = .int o) ?_ ?_))
    · refine w_if (w_B (w_2 (w_var rfl (w_slen rfl ⟨_, rfl, _, rfl, fun h => ?_, fun _ => ?_⟩))))
      · have h : t < (ns.length : Int) := of_decide_eq_true h
        obtain ⟨z, e⟩ := atI_ints h0 h
        refine w_blt (w_cons (w_six rfl (w_var rfl ⟨t, z, rfl, e, w_nil ⟨_, rfl, _, rfl⟩⟩)))
      · exact w_C ⟨0, rfl⟩
    rintro _ ⟨o, rfl⟩
    refine ⟨_, rfl, ?_⟩
    refine w_seqN (w_set (Wp.mono (P := fun v => ∃ o : Int, v = .int o) ?_ ?_))
    · subst_eqs
      exact ⟨_, rfl⟩
    rintro _ ⟨u, rfl⟩
    refine ⟨_, rfl, w_lst (w_cons (Wp.mono (P := fun v => ∃ o : Int, v = .int o) ?_ ?_))⟩
    · have pw : gPow (.int 10) (.int 15) = some (.int (10 ^ (15 : Int).toNat)) := by
        unfold gPow
        show (if okPow 10 15 = true then some (PyData.int (10 ^ (15 : Int).toNat)) else none) = _
        exact if_pos (by decide +kernel)
      subst_eqs
      refine ⟨fun _ => ?_, fun _ => ?_⟩
      · subst_eqs
        refine ⟨_, pw, ?_⟩
        subst_eqs
        refine ⟨fun _ => ?_, fun _ => ?_⟩
        · subst_eqs
          exact ⟨_, rfl⟩
        · subst_eqs
          exact ⟨_, rfl⟩
      · refine ⟨fun _ => ?_, fun z => (by cases z)⟩
        subst_eqs
        exact ⟨_, rfl⟩
    rintro _ ⟨a, rfl⟩
    subst_eqs
    exact ⟨few_le (by simp), _, rfl⟩
theorem trues : ∀ {ds rs : List PyData}, All2 (fun _ v => v = PyData.bool true) ds rs → ∃ bs, boolsOf rs = some bs ∧ bs.all id = true
  | [], _, .nil => ⟨[], rfl, rfl⟩
  | _, _, .cons h t => by
    obtain ⟨bs, e, a⟩ := trues t
    subst h
    refine ⟨true :: bs, ?_, by rw [List.all_cons, a]; rfl⟩
    show (boolsOf _).bind (fun z => some (true :: z)) = _
    rw [e]
    rfl
theorem rng_len {i j : Int} : (rng i j).length = (j - i).toNat := by unfold rng; rw [List.length_map, List.length_range]
theorem lawW (ns : List Int) : Wp (f_law (iniS 2 ns [])) fun c => c = .rt (.bool true) := by
  unfold f_law
  refine w_Ret (w_all (w_QN (w_comp (fun _ v => v = .bool true) (w_rng1 (w_blt (w_cons (w_C (w_cons (w_blt (w_cons (w_slen rfl ?_)))))))))))
  subst_eqs
  refine ⟨?_, ?_, fun d hd => ?_, fun rs h => ?_⟩
  · unfold okR
    simp only [decide_eq_true_eq]
    (repeat' split) <;> omega
  · rw [rng_len]
    have := big
    (repeat' split) <;> omega
  · unfold rng at hd
    obtain ⟨i, _, rfl⟩ := List.mem_map.mp hd
    refine ⟨_, rfl, w_callWN rfl (w_cons (w_var rfl (w_nil ⟨rfl, well (by omega), right rfl⟩)))⟩
  · obtain ⟨bs, e, a⟩ := trues h
    refine ⟨rfl, bs, e, ?_⟩
    rw [a]
theorem math (ns : List Int) (_ : ns.length ≤ 63) : m_law ns = some (.bool true) := by
  obtain ⟨c, w', e, rfl⟩ := lawW ns (0, 0, 0)
  show (f_law (iniS 2 ns []) (0, 0, 0)).bind _ = _
  rw [e]
  rfl
end P11
open PyProof.Rows PySem PySem.W in
set_option maxRecDepth 100001 in
set_option maxHeartbeats 0 in
theorem PySem.Challenge.cw_lettermend_k11_whole_bound_and_what_reac_holds : PySem.Challenge.rw_lettermend_k11_whole_bound_and_what_reac.Holds := by
  w_on
  o_law; k_head
  (case hw => w_witness2)
  k_fill
  refine DL.walk_ofG (l := PySem.Challenge.rw_lettermend_k11_whole_bound_and_what_reac) (n := 63) (k := 8) (x := "_law_script") (m := P11.m_law) rfl (by decide) rfl (fun w h Y => PySem.W.kIn_of Y) ⟨rfl, by decide, by decide⟩ ?F P11.math
  case F =>
    intro w mg fa h KX G hmg
    refine' P11.top KX G hmg ?a0 ?l0 ?c0 ?k0 ?a1 ?l1 ?c1 ?k1 ?a2 ?l2 ?c2 ?k2 ?a3 ?l3 ?c3 ?k3 ?a4 ?l4 ?c4 ?k4 ?a5 ?l5 ?c5 ?k5 ?a6 ?l6 ?c6 ?k6 ?a7 ?l7 ?c7 ?k7 ?a8 ?l8 ?c8 ?k8 ?a9 ?l9 ?c9 ?k9 ?a10 ?l10 ?c10 ?k10 ?a11 ?l11 ?c11 ?k11 ?a12 ?l12 ?c12 ?k12 ?a13 ?l13 ?c13 ?k13 ?a14 ?l14 ?c14 ?k14 ?a15 ?l15 ?c15 ?k15 ?a16 ?l16 ?c16 ?k16 ?a17 ?l17 ?c17 ?k17 ?a18 ?l18 ?c18 ?k18 ?a19 ?l19 ?c19 ?k19 ?a20 ?l20 ?c20 ?k20 ?a21 ?l21 ?c21 ?k21 ?a22 ?l22 ?c22 ?k22 ?a23 ?l23 ?c23 ?k23 ?a24 ?l24 ?c24 ?k24 ?a25 ?l25 ?c25 ?k25 ?a26 ?l26 ?c26 ?k26 ?a27 ?l27 ?c27 ?k27 ?a28 ?l28 ?c28 ?k28 ?a29 ?l29 ?c29 ?k29 ?a30 ?l30 ?c30 ?k30 ?z_divmod ?z_int ?z_len ?z_sum ?z_range ?z_min ?z_isinstance ?z_bool ?z_tuple ?z_str ?z_repr ?z_max ?z_abs ?z_all ?x_PRIMES ?y_PRIMES ?u_PRIMES ?v_PRIMES
    (case a0 => k_is)
    (case l0 => k_is)
    (case c0 => k_is)
    (case k0 => k_is)
    (case a1 => k_is)
    (case l1 => k_is)
    (case c1 => k_is)
    (case k1 => k_is)
    (case a2 => k_is)
    (case l2 => k_is)
    (case c2 => k_is)
    (case k2 => k_is)
    (case a3 => k_is)
    (case l3 => k_is)
    (case c3 => k_is)
    (case k3 => k_is)
    (case a4 => k_is)
    (case l4 => k_is)
    (case c4 => k_is)
    (case k4 => k_is)
    (case a5 => k_is)
    (case l5 => k_is)
    (case c5 => k_is)
    (case k5 => k_is)
    (case a6 => k_is)
    (case l6 => k_is)
    (case c6 => k_is)
    (case k6 => k_is)
    (case a7 => k_is)
    (case l7 => k_is)
    (case c7 => k_is)
    (case k7 => k_is)
    (case a8 => k_is)
    (case l8 => k_is)
    (case c8 => k_is)
    (case k8 => k_is)
    (case a9 => k_is)
    (case l9 => k_is)
    (case c9 => k_is)
    (case k9 => k_is)
    (case a10 => k_is)
    (case l10 => k_is)
    (case c10 => k_is)
    (case k10 => k_is)
    (case a11 => k_is)
    (case l11 => k_is)
    (case c11 => k_is)
    (case k11 => k_is)
    (case a12 => k_is)
    (case l12 => k_is)
    (case c12 => k_is)
    (case k12 => k_is)
    (case a13 => k_is)
    (case l13 => k_is)
    (case c13 => k_is)
    (case k13 => k_is)
    (case a14 => k_is)
    (case l14 => k_is)
    (case c14 => k_is)
    (case k14 => k_is)
    (case a15 => k_is)
    (case l15 => k_is)
    (case c15 => k_is)
    (case k15 => k_is)
    (case a16 => k_is)
    (case l16 => k_is)
    (case c16 => k_is)
    (case k16 => k_is)
    (case a17 => k_is)
    (case l17 => k_is)
    (case c17 => k_is)
    (case k17 => k_is)
    (case a18 => k_is)
    (case l18 => k_is)
    (case c18 => k_is)
    (case k18 => k_is)
    (case a19 => k_is)
    (case l19 => k_is)
    (case c19 => k_is)
    (case k19 => k_is)
    (case a20 => k_is)
    (case l20 => k_is)
    (case c20 => k_is)
    (case k20 => k_is)
    (case a21 => k_is)
    (case l21 => k_is)
    (case c21 => k_is)
    (case k21 => k_is)
    (case a22 => k_is)
    (case l22 => k_is)
    (case c22 => k_is)
    (case k22 => k_is)
    (case a23 => k_is)
    (case l23 => k_is)
    (case c23 => k_is)
    (case k23 => k_is)
    (case a24 => k_is)
    (case l24 => k_is)
    (case c24 => k_is)
    (case k24 => k_is)
    (case a25 => k_is)
    (case l25 => k_is)
    (case c25 => k_is)
    (case k25 => k_is)
    (case a26 => k_is)
    (case l26 => k_is)
    (case c26 => k_is)
    (case k26 => k_is)
    (case a27 => k_is)
    (case l27 => k_is)
    (case c27 => k_is)
    (case k27 => k_is)
    (case a28 => k_is)
    (case l28 => k_is)
    (case c28 => k_is)
    (case k28 => k_is)
    (case a29 => k_is)
    (case l29 => k_is)
    (case c29 => k_is)
    (case k29 => k_is)
    (case a30 => k_is)
    (case l30 => k_is)
    (case c30 => k_is)
    (case k30 => k_is)
    (case z_divmod => k_is)
    (case z_int => k_is)
    (case z_len => k_is)
    (case z_sum => k_is)
    (case z_range => k_is)
    (case z_min => k_is)
    (case z_isinstance => k_is)
    (case z_bool => k_is)
    (case z_tuple => k_is)
    (case z_str => k_is)
    (case z_repr => k_is)
    (case z_max => k_is)
    (case z_abs => k_is)
    (case z_all => k_is)
    (case x_PRIMES => k_is)
    (case y_PRIMES => k_is)
    (case u_PRIMES => decide +kernel)
    (case v_PRIMES => decide +kernel)
