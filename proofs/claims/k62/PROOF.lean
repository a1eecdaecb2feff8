import PyProof.Rows.All
import Wide.All
import OpenK.AllK
import Wide.FinOn
import HandS.ForMost
import HandS.TupAny
import HandS.IsInst
import HandS.Zip
import HandS.TupMul
import HandS.DictComp
import HandS.Strs
import KE.KDictPairs
import HandS.Codes
import PyProof.ReprRoads
import PyProof.ReprLen
import PyProof.CallFns
import PyProof.NeData
import PyProof.EqAt
import HandS.Defaults
import HandS.Style
import KE.KRevSl
import PyProof.StrOps2
import PyProof.StrLawsRepr
import PyProof.Rows.SeqMore
import KE.GoesNew
import KE.GoesMore
import KE.KeyNested
import KE.KDictKeyed
import HandS.DictEq
import PySem.Challenge.RW_lanewright_k62_clashes_and_words_told
import HandS.Evl
import HandS.Walk
import HandS.MakeKwOnly
import HandS.TupSets
set_option Elab.async false
set_option linter.all false
set_option maxRecDepth 100000
set_option maxHeartbeats 4000000
/-! data of any kind in the heap; F tells at which addresses they may stand -/
namespace LW
open PySem PySem.Spec PyProof.Rows L2
/-- what stands at F's addresses is as it was -/
def Kf (F : Addr → Prop) (H H' : Hp) : Prop := ∀ b o, F b → H b = some o → H' b = some o
theorem Kf.refl {F : Addr → Prop} (H : Hp) : Kf F H H := fun _ _ _ h => h
theorem Kf.trans {F : Addr → Prop} {H H1 H2 : Hp} (a : Kf F H H1) (b : Kf F H1 H2) : Kf F H H2 := fun d o f h => b d o f (a d o f h)
theorem Kf.of_same {F : Addr → Prop} {H H' : Hp} (a : Same H H') : Kf F H H' := fun b o _ h => a b o h
theorem Kf.same {H H' : Hp} (a : Kf (fun _ => True) H H') : Same H H' := fun b o h => a b o trivial h
/-- a tuple at a, an object without a dict of its own -/
def Tu (H : Hp) (a : Addr) (xs : List V) : Prop := ∃ o : Obj, H a = some (.frz o (.tup xs)) ∧ o.dict = none ∧ o.cls = .type "tuple"
section
variable {H H' : Hp} {a : Addr} {xs ys : List V} {K : PySem.W.Frag}
theorem Tu.same (h : Tu H a xs) (e : Same H H') : Tu H' a xs := by
  obtain ⟨o, h1, h2⟩ := h
  exact ⟨o, e _ _ h1, h2⟩
theorem Tu.sq (h : Tu H a xs) : SqT K H a xs := by
  obtain ⟨o, h1, h2⟩ := h
  exact .inl (.inr ⟨o, h1⟩)
theorem Tu.ty (h : Tu H a xs) : TyX K H (.ref a) (.type "tuple") := by
  obtain ⟨o, h1, h2⟩ := h
  exact .fTuple h1
theorem Tu.inj (h : Tu H a xs) (g : Tu H a ys) : xs = ys := by
  obtain ⟨o, h1, h2⟩ := h
  obtain ⟨p, g1, g2⟩ := g
  rw [h1] at g1
  cases g1
  rfl
theorem Tu.some (h : Tu H a xs) : ∃ o, H a = some o := by
  obtain ⟨o, h1, h2⟩ := h
  exact ⟨_, h1⟩
theorem Tu.ne {p : Addr} (h : Tu H a xs) (n : H p = none) : a ≠ p := by
  obtain ⟨o, h1, h2⟩ := h
  exact ne_of_none h1 n
/-- a new tuple -/
def NewT (xs : List V) (Q : VK) (H : Hp) : Prop := ∀ p H', Same H H' → H p = none → Tu H' p xs → Q (.ref p) H'
end
mutual
def Dq (F : Addr → Prop) (H : Hp) : PyData → V → Prop
  | .none, v => v = .non
  | .bool b, v => v = .bl b
  | .int i, v => v = .int i
  | .str x, v => v = .str x
  | .list ds, v => ∃ a xs, v = .ref a ∧ F a ∧ (H a = some (.lst xs) ∧ a ≠ sysModules) ∧ DqL F H ds xs
  | .tuple ds, v => ∃ a xs, v = .ref a ∧ F a ∧ Tu H a xs ∧ DqL F H ds xs
  | .dict kvs, v => kvs = [] ∧ ∃ a, v = .ref a ∧ F a ∧ H a = some (.dK [])
def DqL (F : Addr → Prop) (H : Hp) : List PyData → List V → Prop
  | [], vs => vs = []
  | d :: ds, vs => ∃ v r, vs = v :: r ∧ Dq F H d v ∧ DqL F H ds r
end
mutual
theorem Dq.kp {F G : Addr → Prop} {H H' : Hp} (k : ∀ b o, F b → H b = some o → G b ∧ H' b = some o) : ∀ {d : PyData} {v : V}, Dq F H d v → Dq G H' d v
  | .none, _, h => h
  | .bool _, _, h => h
  | .int _, _, h => h
  | .str _, _, h => h
  | .list _, _, h => by
    obtain ⟨a, xs, e, h1, h3, h4⟩ := h
    exact ⟨a, xs, e, (k _ _ h1 h3.1).1, ⟨(k _ _ h1 h3.1).2, h3.2⟩, DqL.kp k h4⟩
  | .tuple _, _, h => by
    obtain ⟨a, xs, e, h1, ⟨o, h3, h5⟩, h4⟩ := h
    exact ⟨a, xs, e, (k _ _ h1 h3).1, ⟨o, (k _ _ h1 h3).2, h5⟩, DqL.kp k h4⟩
  | .dict _, _, h => by
    obtain ⟨e0, a, e, h1, h3⟩ := h
    exact ⟨e0, a, e, (k _ _ h1 h3).1, (k _ _ h1 h3).2⟩
theorem DqL.kp {F G : Addr → Prop} {H H' : Hp} (k : ∀ b o, F b → H b = some o → G b ∧ H' b = some o) : ∀ {ds : List PyData} {vs : List V}, DqL F H ds vs → DqL G H' ds vs
  | [], _, h => h
  | _ :: _, _, h => by
    obtain ⟨v, r, e, h1, h2⟩ := h
    exact ⟨v, r, e, Dq.kp k h1, DqL.kp k h2⟩
end
theorem Dq.kf {F : Addr → Prop} {H H' : Hp} {d : PyData} {v : V} (h : Dq F H d v) (k : Kf F H H') : Dq F H' d v := h.kp fun b o f e => ⟨f, k b o f e⟩
theorem Dq.same {F : Addr → Prop} {H H' : Hp} {d : PyData} {v : V} (h : Dq F H d v) (k : Same H H') : Dq F H' d v := h.kf (.of_same k)
theorem DqL.kf {F : Addr → Prop} {H H' : Hp} {d : List PyData} {v : List V} (h : DqL F H d v) (k : Kf F H H') : DqL F H' d v := h.kp fun b o f e => ⟨f, k b o f e⟩
theorem DqL.same {F : Addr → Prop} {H H' : Hp} {d : List PyData} {v : List V} (h : DqL F H d v) (k : Same H H') : DqL F H' d v := h.kf (.of_same k)
/-- wherever it stands -/
abbrev Dt (H : Hp) (d : PyData) (v : V) : Prop := Dq (fun _ => True) H d v
abbrev DtL (H : Hp) (d : List PyData) (v : List V) : Prop := DqL (fun _ => True) H d v
theorem Dq.dt {F : Addr → Prop} {H : Hp} {d : PyData} {v : V} (h : Dq F H d v) : Dt H d v := h.kp fun b o f e => ⟨trivial, e⟩
theorem DqL.dt {F : Addr → Prop} {H : Hp} {d : List PyData} {v : List V} (h : DqL F H d v) : DtL H d v := h.kp fun b o f e => ⟨trivial, e⟩
section
variable {F : Addr → Prop} {H : Hp}
theorem DqL.len : ∀ {ds : List PyData} {vs : List V}, DqL F H ds vs → vs.length = ds.length
  | [], _, h => by rw [show _ = [] from h]; rfl
  | _ :: _, _, h => by
    obtain ⟨v, r, rfl, h1, h2⟩ := h
    rw [List.length_cons, List.length_cons, DqL.len h2]
theorem DqL.get : ∀ {ds : List PyData} {vs : List V} {i : Nat} {v : V}, DqL F H ds vs → vs[i]? = some v → ∃ d, ds[i]? = some d ∧ Dq F H d v
  | [], _, i, v, h, e => by rw [show _ = [] from h] at e; cases e
  | d :: _, _, 0, v, h, e => by
    obtain ⟨u, r, rfl, h1, h2⟩ := h
    cases e
    exact ⟨d, rfl, h1⟩
  | _ :: _, _, i + 1, v, h, e => by
    obtain ⟨u, r, rfl, h1, h2⟩ := h
    obtain ⟨d, e1, e2⟩ := DqL.get h2 (i := i) e
    exact ⟨d, e1, e2⟩
theorem DqL.nth : ∀ {ds : List PyData} {vs : List V} {i : Nat} {d : PyData}, DqL F H ds vs → ds[i]? = some d → ∃ v, vs[i]? = some v ∧ Dq F H d v
  | [], _, i, v, h, e => by cases e
  | d :: _, _, 0, v, h, e => by
    obtain ⟨u, r, rfl, h1, h2⟩ := h
    cases e
    exact ⟨u, rfl, h1⟩
  | _ :: _, _, i + 1, v, h, e => by
    obtain ⟨u, r, rfl, h1, h2⟩ := h
    obtain ⟨d, e1, e2⟩ := DqL.nth h2 (i := i) e
    exact ⟨d, e1, e2⟩
theorem DqL.app : ∀ {ds es : List PyData} {vs us : List V}, DqL F H ds vs → DqL F H es us → DqL F H (ds ++ es) (vs ++ us)
  | [], _, _, _, h, g => by rw [show _ = [] from h]; exact g
  | _ :: _, _, _, _, h, g => by
    obtain ⟨u, r, rfl, h1, h2⟩ := h
    exact ⟨u, _, rfl, h1, DqL.app h2 g⟩
theorem DqL.one {d : PyData} {v : V} (h : Dq F H d v) : DqL F H [d] [v] := ⟨v, [], rfl, h, rfl⟩
theorem DqL.two {d e : PyData} {v u : V} (h : Dq F H d v) (g : Dq F H e u) : DqL F H [d, e] [v, u] := ⟨v, [u], rfl, h, .one g⟩
theorem DqL.three {d e f : PyData} {v u x : V} (h : Dq F H d v) (g : Dq F H e u) (k : Dq F H f x) : DqL F H [d, e, f] [v, u, x] := ⟨v, [u, x], rfl, h, .two g k⟩
theorem DqL.four {d e f m : PyData} {v u x y : V} (h : Dq F H d v) (g : Dq F H e u) (k : Dq F H f x) (n : Dq F H m y) : DqL F H [d, e, f, m] [v, u, x, y] := ⟨v, [u, x, y], rfl, h, .three g k n⟩
theorem DqL.take : ∀ {n : Nat} {ds : List PyData} {vs : List V}, DqL F H ds vs → DqL F H (ds.take n) (vs.take n)
  | 0, _, _, _ => rfl
  | _ + 1, [], _, h => by rw [show _ = [] from h]; rfl
  | n + 1, _ :: _, _, h => by
    obtain ⟨u, r, rfl, h1, h2⟩ := h
    exact ⟨u, _, rfl, h1, DqL.take h2⟩
theorem DqL.drop : ∀ {n : Nat} {ds : List PyData} {vs : List V}, DqL F H ds vs → DqL F H (ds.drop n) (vs.drop n)
  | 0, _, _, h => h
  | _ + 1, [], _, h => by rw [show _ = [] from h]; rfl
  | n + 1, _ :: ds, _, h => by
    obtain ⟨u, r, rfl, h1, h2⟩ := h
    show DqL F H (ds.drop n) (r.drop n)
    exact DqL.drop h2
theorem DqL.rev : ∀ {ds : List PyData} {vs : List V}, DqL F H ds vs → DqL F H ds.reverse vs.reverse
  | [], _, h => by rw [show _ = [] from h]; rfl
  | d :: ds, _, h => by
    obtain ⟨u, r, rfl, h1, h2⟩ := h
    rw [List.reverse_cons, List.reverse_cons]
    exact DqL.app (DqL.rev h2) (.one h1)
theorem DqL.strs : ∀ {ws : List Str} {vs : List V}, DqL F H (ws.map PyData.str) vs → vs = ws.map V.str
  | [], _, h => h
  | _ :: _, _, h => by
    obtain ⟨u, r, rfl, h1, h2⟩ := h
    rw [DqL.strs h2, show u = _ from h1]
    rfl
theorem dqL_strs : ∀ ws : List Str, DqL F H (ws.map PyData.str) (ws.map V.str)
  | [] => rfl
  | w :: ws => ⟨_, _, rfl, rfl, dqL_strs ws⟩
theorem Dq.tup {ds : List PyData} {v : V} (h : Dq F H (.tuple ds) v) : ∃ a xs, v = .ref a ∧ F a ∧ Tu H a xs ∧ DqL F H ds xs := h
theorem Dq.mk {ds : List PyData} {a : Addr} {xs : List V} (f : F a) (h : Tu H a xs) (g : DqL F H ds xs) : Dq F H (.tuple ds) (.ref a) := ⟨a, xs, rfl, f, h, g⟩
theorem Dq.mkL {ds : List PyData} {a : Addr} {xs : List V} (f : F a) (h : H a = some (.lst xs)) (ns : a ≠ sysModules) (g : DqL F H ds xs) : Dq F H (.list ds) (.ref a) := ⟨a, xs, rfl, f, ⟨h, ns⟩, g⟩
end
/-! ### kinds -/
def tyN : PyData → String
  | .none => "NoneType"
  | .bool _ => "bool"
  | .int _ => "int"
  | .str _ => "str"
  | .list _ => "list"
  | .tuple _ => "tuple"
  | .dict _ => "dict"
theorem dq_ty {K : PySem.W.Frag} {F : Addr → Prop} {H : Hp} : ∀ {d : PyData} {v : V}, Dq F H d v → TyX K H v (.type (tyN d))
  | .none, _, h => by rw [show _ = V.non from h]; exact .base .non
  | .bool b, _, h => by rw [show _ = V.bl b from h]; exact .base (.bl b)
  | .int i, _, h => by rw [show _ = V.int i from h]; exact .base (.int i)
  | .str x, _, h => by rw [show _ = V.str x from h]; exact .base (.str x)
  | .list _, _, h => by obtain ⟨a, xs, rfl, h1, h3, h4⟩ := h; exact .base (.lst h3.1)
  | .tuple _, _, h => by obtain ⟨a, xs, rfl, h1, h3, h4⟩ := h; exact h3.ty
  | .dict _, _, h => by obtain ⟨e0, a, rfl, h1, h3⟩ := h; exact .base (.dK h3)
def isIntB : PyData → Bool
  | .bool _ => true
  | .int _ => true
  | _ => false
def isBoolB : PyData → Bool
  | .bool _ => true
  | _ => false
def isStrB : PyData → Bool
  | .str _ => true
  | _ => false
def isTupB : PyData → Bool
  | .tuple _ => true
  | _ => false
theorem kit_int {K : PySem.W.Frag} : ∀ d : PyData, PySem.W.kitOne K (.type (tyN d)) (.type "int") = some (isIntB d)
  | .none => kit_ty (show kitB "NoneType" "int" = some false by decide +kernel)
  | .bool _ => kit_ty (show kitB "bool" "int" = some true by decide +kernel)
  | .int _ => kit_ty (show kitB "int" "int" = some true by decide +kernel)
  | .str _ => kit_ty (show kitB "str" "int" = some false by decide +kernel)
  | .list _ => kit_ty (show kitB "list" "int" = some false by decide +kernel)
  | .tuple _ => kit_ty (show kitB "tuple" "int" = some false by decide +kernel)
  | .dict _ => kit_ty (show kitB "dict" "int" = some false by decide +kernel)
theorem kit_bool {K : PySem.W.Frag} : ∀ d : PyData, PySem.W.kitOne K (.type (tyN d)) (.type "bool") = some (isBoolB d)
  | .none => kit_ty (show kitB "NoneType" "bool" = some false by decide +kernel)
  | .bool _ => kit_ty (show kitB "bool" "bool" = some true by decide +kernel)
  | .int _ => kit_ty (show kitB "int" "bool" = some false by decide +kernel)
  | .str _ => kit_ty (show kitB "str" "bool" = some false by decide +kernel)
  | .list _ => kit_ty (show kitB "list" "bool" = some false by decide +kernel)
  | .tuple _ => kit_ty (show kitB "tuple" "bool" = some false by decide +kernel)
  | .dict _ => kit_ty (show kitB "dict" "bool" = some false by decide +kernel)
theorem kit_str {K : PySem.W.Frag} : ∀ d : PyData, PySem.W.kitOne K (.type (tyN d)) (.type "str") = some (isStrB d)
  | .none => kit_ty (show kitB "NoneType" "str" = some false by decide +kernel)
  | .bool _ => kit_ty (show kitB "bool" "str" = some false by decide +kernel)
  | .int _ => kit_ty (show kitB "int" "str" = some false by decide +kernel)
  | .str _ => kit_ty (show kitB "str" "str" = some true by decide +kernel)
  | .list _ => kit_ty (show kitB "list" "str" = some false by decide +kernel)
  | .tuple _ => kit_ty (show kitB "tuple" "str" = some false by decide +kernel)
  | .dict _ => kit_ty (show kitB "dict" "str" = some false by decide +kernel)
theorem kit_tup {K : PySem.W.Frag} : ∀ d : PyData, PySem.W.kitOne K (.type (tyN d)) (.type "tuple") = some (isTupB d)
  | .none => kit_ty (show kitB "NoneType" "tuple" = some false by decide +kernel)
  | .bool _ => kit_ty (show kitB "bool" "tuple" = some false by decide +kernel)
  | .int _ => kit_ty (show kitB "int" "tuple" = some false by decide +kernel)
  | .str _ => kit_ty (show kitB "str" "tuple" = some false by decide +kernel)
  | .list _ => kit_ty (show kitB "list" "tuple" = some false by decide +kernel)
  | .tuple _ => kit_ty (show kitB "tuple" "tuple" = some true by decide +kernel)
  | .dict _ => kit_ty (show kitB "dict" "tuple" = some false by decide +kernel)
theorem isTup_false {d : PyData} (h : isTupB d = false) : ∀ ds, d ≠ .tuple ds := fun ds e => by subst e; cases h
theorem isTup_true : ∀ {d : PyData}, isTupB d = true → ∃ ds, d = .tuple ds
  | .tuple ds, _ => ⟨ds, rfl⟩
  | .none, h => nomatch h
  | .bool _, h => nomatch h
  | .int _, h => nomatch h
  | .str _, h => nomatch h
  | .list _, h => nomatch h
  | .dict _, h => nomatch h
theorem isStr_true : ∀ {d : PyData}, isStrB d = true → ∃ z, d = .str z
  | .str z, _ => ⟨z, rfl⟩
  | .none, h => nomatch h
  | .bool _, h => nomatch h
  | .int _, h => nomatch h
  | .tuple _, h => nomatch h
  | .list _, h => nomatch h
  | .dict _, h => nomatch h
/-! ### small things -/
theorem lt_size {n : Nat} (h : n ≤ 5000) : n < sizeLine := by rw [sizeLine_eq]; omega
theorem le_size {n : Nat} (h : n ≤ 5000) : n ≤ sizeLine := Nat.le_of_lt (lt_size h)
theorem same_upd {H : Hp} {p : Addr} {o : HO} (h : H p = none) : Same H (upd H p o) := fun b x e => by
  rw [upd_ne (ne_of_none e h)]
  exact e
theorem take_snoc {α : Type} {l : List α} {i : Nat} {p : α} (h : l[i]? = some p) : l.take (i + 1) = l.take i ++ [p] := by
  rw [List.take_add_one, h]; rfl
theorem drop_at {α : Type} {l : List α} {i : Nat} {x : α} (h : l[i]? = some x) : l.drop i = x :: l.drop (i + 1) := by
  obtain ⟨h1, h2⟩ := List.getElem?_eq_some_iff.mp h
  rw [List.drop_eq_getElem_cons h1, h2]
theorem flat_strs : ∀ ws : List Str, (ws.map V.str).all flatV = true
  | [] => rfl
  | _ :: ws => by rw [List.map_cons, List.all_cons, flat_strs ws]; rfl
theorem inV_strs (x : Str) : ∀ ws : List Str, inV (.str x) (ws.map V.str) = decide (x ∈ ws)
  | [] => rfl
  | y :: ws => by
    show (eqV (.str y) (.str x) || inV (.str x) (ws.map V.str)) = _
    rw [inV_strs x ws]
    show ((y == x) || _) = _
    by_cases e : y = x
    · subst e; simp
    · have e2 : ¬ x = y := fun q => e q.symm
      simp [e, e2]
end LW

set_option Elab.async false
set_option linter.all false
set_option maxRecDepth 100000
set_option maxHeartbeats 4000000
namespace LW
open PySem PySem.Spec PyProof.Rows L2 HT
/-! making tuples that are told to have no dict of their own; dict(tuple of pairs); len(set(texts)) -/
section
variable {X : Cx} {es : List Expr} {t : TA} {pos : Pos}
/-- the very object of a new tuple -/
theorem tu_laid {pins : List (Addr × Obj)} {σ : L2.St} {H : Hp} {s : Shared} {its : List Value} {xs : List V} {n : Nat} (I : Inv X pins σ H s) (hz : xs.length ≤ sizeLine) (r : Vals xs its) :
    ∃ H', Inv X pins σ H' { s with heap := s.heap.push { cls := .type "tuple", data := .seq its.toArray n } } ∧ Same H H' ∧ H s.heap.objs.size = none ∧ Tu H' s.heap.objs.size xs := by
  have hf : H s.heap.objs.size = none := I.hok.fresh (Nat.le_refl _)
  refine ⟨upd H s.heap.objs.size (.frz { cls := .type "tuple", data := .seq its.toArray n } (.tup xs)), I.laid (t' := s.toks) (fun b u e => Heap.get?_push_of_some _ e) (Nat.le_refl _) ?_, same_upd hf, hf, ⟨_, upd_same, rfl, rfl⟩⟩
  exact ⟨Heap.get?_push_size _ rfl, hz, its, r, ⟨_, Heap.get?_push_size _ rfl, rfl, _, rfl⟩⟩
def tTupF (t : TA) : TE := fun σ H Q => t σ H fun xs H1 => xs.length ≤ 5000 ∧ NewT xs Q H1
theorem pe_tupF {x1} (h : PA X es t) : PE X (.Tuple es x1 pos) (tTupF t) := by
  refine ⟨fun pins s σ H Q I hq => ?_⟩
  refine wpAny_Tuple_spliced (thn (h.run pos pins s σ H _ I hq) fun us s1 ⟨xs, H1, I1, r, z, q⟩ => ⟨by rw [← r.length]; exact le_size z, ?_⟩)
  obtain ⟨H', I2, e, n, tu⟩ := tu_laid (n := 0) I1 (le_size z) r
  exact ⟨.ref s1.heap.objs.size, H', I2, rfl, q _ _ e n tu⟩
theorem call_tupleF : CallR X (.type "tuple") (fun xs H Q => ∃ p ys, xs = [.ref p] ∧ SqL X.K H p ys ∧ NewT ys Q H) := by
  intro pins s σ H xs us Q I r h
  obtain ⟨p, ys, rfl, hq, q⟩ := h
  obtain ⟨u, rfl, rx⟩ := vals1 r
  cases rx
  obtain ⟨its, r', pl, hz⟩ := I.list hq
  have hlen := r'.length
  refine call_tuple_list pl.isList (fun h' kp => ?_) (by simp only [List.size_toArray] <;> omega)
  have I1 : Inv X pins σ H { s with heap := h' } := I.kept (t' := s.toks) kp
  obtain ⟨H', I2, e, n, tu⟩ := tu_laid (n := 0) I1 hz r'
  exact ⟨.ref h'.objs.size, H', I2, rfl, q _ _ e n tu⟩
/-- a slice of a tuple: it or a new one -/
def rSlF : V → Option Int → Option Int → Hp → VK → Prop := fun x lo hi H Q => ∃ a xs, x = .ref a ∧ Tu H a xs ∧ ∀ p H', Same H H' → (p = a ∨ H p = none) → Tu H' p (cutV xs lo hi) → Q (.ref p) H'
theorem cut_whole {xs : List V} {lo hi : Option Int} (h : HT.sIx xs.length 0 lo = 0 ∧ HT.sIx xs.length xs.length hi = xs.length) : cutV xs lo hi = xs := by
  unfold cutV
  rw [h.1, h.2]
  simp
theorem sl_tupF : SlR X rSlF := by
  intro pins s σ H x v vl vu lo hi sl Q I rx hs pl pu h
  obtain ⟨a, xs, rfl, hx, q⟩ := h
  have hx' : SqT X.K H a xs := hx.sq
  by_cases hw : HT.sIx xs.length 0 lo = 0 ∧ HT.sIx xs.length xs.length hi = xs.length
  · exact sl_tupA pins s σ H _ v vl vu lo hi sl Q I rx hs pl pu ⟨a, xs, rfl, hx', fun _ => q a H (Same.refl _) (.inl rfl) (by rw [cut_whole hw]; exact hx), fun z => absurd hw z⟩
  · cases rx
    obtain ⟨its, r, ht, hz⟩ := I.tuple hx'
    have hlen : its.toArray.size = xs.length := by rw [List.size_toArray]; exact r.length.symm
    refine ⟨"tuple", _, PyProof.Rows.slot_tuple_getitem.lookup, ht.typeIs, ?_⟩
    refine HT.getItem_tuple_cut ht hs pl pu (by rw [hlen]; exact hw) ?_ (by rw [hlen]; exact hz)
    rw [hlen]
    obtain ⟨H', I2, e, n, tu⟩ := tu_laid (n := 0) I (xs := cutV xs lo hi) (Nat.le_trans (cutV_length xs lo hi) hz) ((r.drop (HT.sIx xs.length 0 lo)).take (HT.sIx xs.length xs.length hi - HT.sIx xs.length 0 lo))
    exact ⟨.ref s.heap.objs.size, H', I2, rfl, q _ _ e (.inr n) tu⟩
/-- t + u: one of both, or a new one -/
def rCatF : R2 := fun x y H Q => ∃ a b xs ys, x = .ref a ∧ y = .ref b ∧ Tu H a xs ∧ Tu H b ys ∧ xs.length + ys.length ≤ 5000 ∧ ∀ p H', Same H H' → (p = a ∨ p = b ∨ H p = none) → Tu H' p (xs ++ ys) → Q (.ref p) H'
theorem op_catF : OpR X (binaryOp .Add) rCatF := by
  intro pins s σ H x y v u Q I rx ry h
  obtain ⟨a, b, xs, ys, rfl, rfl, ha, hb, hz, q⟩ := h
  have ha' : SqT X.K H a xs := ha.sq
  have hb' : SqT X.K H b ys := hb.sq
  by_cases hx : xs = []
  · subst hx
    exact op_catA pins s σ H _ _ v u Q I rx ry ⟨a, b, [], ys, rfl, rfl, ha', hb', le_size hz, fun _ => q b H (Same.refl _) (.inr (.inl rfl)) hb, fun z => absurd rfl z, fun z => absurd rfl z⟩
  · cases rx
    cases ry
    obtain ⟨its, r1, p1, _⟩ := I.tuple ha'
    obtain ⟨its2, r2, p2, _⟩ := I.tuple hb'
    refine HT.cat_tup p1 p2 (fun z => hx (r1.nil_iff.mp z)) (fun z => ⟨.ref a, H, I, rfl, q a H (Same.refl _) (.inl rfl) (by rw [r2.nil_iff.mp z, List.append_nil]; exact ha)⟩) (fun z => ?_) (by rw [← r1.length, ← r2.length]; exact le_size hz)
    obtain ⟨H', I2, e, n, tu⟩ := tu_laid (n := 0) I (xs := xs ++ ys) (by rw [List.length_append]; exact le_size hz) (r1.append r2)
    exact ⟨.ref s.heap.objs.size, H', I2, rfl, q _ _ e (.inr (.inr n)) tu⟩
/-! dict(t), t a tuple of pairs -/
theorem pairs_of2 {pins : List (Addr × Obj)} {σ : L2.St} {H : Hp} {s : Shared} (I : Inv X pins σ H s) : ∀ {ps : List Addr} {kvs : List (Key × V)}, Paired (fun p kv => SqT X.K H p [kV kv.1, kv.2]) ps kvs →
    ∃ (prs : List (Key × Value)) (vps : List (Value × Value)), KV kvs prs ∧ prs.length = ps.length ∧ vps.length = ps.length ∧ ∀ (j : Nat) (q : Key × Value), prs[j]? = some q → ∃ (b : Addr) (u : Value), ps[j]? = some b ∧ vps[j]? = some (u, q.2) ∧ IsTup s.heap b #[u, q.2] ∧ keyIs q.1 u = true
  | _, _, .nil => ⟨[], [], .nil, rfl, rfl, fun j q e => by simp at e⟩
  | _, _, .cons (a := p) (b := kv) h t => by
    obtain ⟨prs, vps, r, hl, hl2, hp⟩ := pairs_of2 I t
    obtain ⟨its, rv, ht, _⟩ := I.tuple h
    obtain ⟨u, y, ei, ru, ry⟩ := vals2 rv
    subst ei
    refine ⟨(kv.1, y) :: prs, (u, y) :: vps, .cons ⟨rfl, ry⟩ r, by rw [List.length_cons, List.length_cons, hl], by rw [List.length_cons, List.length_cons, hl2], fun j q e => ?_⟩
    cases j with
    | zero =>
      have e' : (kv.1, y) = q := Option.some.inj e
      subst e'
      exact ⟨p, u, rfl, rfl, ht, kV_is (P := X.prog) (w := X.w) ru⟩
    | succ j =>
      obtain ⟨b, u', e1, e2, e3, e4⟩ := hp j q (by simpa using e)
      exact ⟨b, u', by simpa using e1, by simpa using e2, e3, e4⟩
def rDictF (K : PySem.W.Frag) : List V → Hp → VK → Prop := fun xs H Q => ∃ (a : Addr) (ps : List Addr) (kvs : List (Key × V)), xs = [.ref a] ∧ Tu H a (ps.map V.ref) ∧ Paired (fun p kv => SqT K H p [kV kv.1, kv.2]) ps kvs ∧
    ∀ p H', Same H H' → H p = none → H' p = some (.dK (mergeK [] kvs)) → Q (.ref p) H'
theorem call_dictF (hcalm : X.calm = true) : CallR X (.type "dict") (rDictF X.K) := by
  intro pins s σ H xs us Q I r q
  obtain ⟨a, ps, kvs, ex, hq, hp, q⟩ := q
  subst ex
  obtain ⟨u, eu, rx⟩ := vals1 r
  subst eu
  cases rx
  obtain ⟨o, h1, h2, h3⟩ := hq
  obtain ⟨ho, hz, its, rv, p, hpo, hpc, n, hpd⟩ := I.hok a _ h1
  rw [ho] at hpo
  cases hpo
  have ei := refs_at rv
  subst ei
  rw [List.length_map] at hz
  obtain ⟨prs, vps, rel, hl, hl2, hpr⟩ := pairs_of2 I hp
  have back : ∀ (i : Nat) (k v : Value), vps[i]? = some (k, v) → ∃ (q : Key × Value) (b : Addr), prs[i]? = some q ∧ q.2 = v ∧ ps[i]? = some b ∧ IsTup s.heap b #[k, v] ∧ keyIs q.1 k = true := fun i k v e => by
    have hi : i < prs.length := by rw [hl, ← hl2]; exact (List.getElem?_eq_some_iff.mp e).1
    obtain ⟨b, u, e1, e2, e3, e4⟩ := hpr i _ (List.getElem?_eq_getElem hi)
    rw [e] at e2
    cases e2
    exact ⟨_, b, List.getElem?_eq_getElem hi, rfl, e1, e3, e4⟩
  refine PySem.call_dict_pairs (knd := mixKind X.prog X.w) (kvs := prs) (PairArg.tuple a (ps.map Value.ref).toArray (fun j => ps.getD j 0) vps) (I.ok.hd hcalm) ⟨⟨o, n, ho, hpc, h2, hpd⟩, ⟨by simp [hl2], fun j k v e => ?_⟩⟩ ⟨by rw [hl, hl2], fun i key v e => ?_⟩ (by rw [hl2]; exact hz) fun h' tk hd' k => ?_
  · obtain ⟨q', b, e1, e2, e3, e4, e5⟩ := back j k v e
    have eg : ps.getD j 0 = b := by rw [List.getD_eq_getElem?_getD, e3]; rfl
    show _ = some (Value.ref (ps.getD j 0)) ∧ PairAt s.heap (ps.getD j 0) k v
    rw [eg]
    exact ⟨by simp [e3], .inl e4⟩
  · obtain ⟨q', b, e1, e2, e3, e4, e5⟩ := back i key v e
    subst e2
    exact ⟨q'.1, e1, e5⟩
  · have hm : (s.heap.objs.size == sysModules) = false := beq_eq_false_iff_ne.mpr (Nat.ne_of_gt I.big)
    have hlen : (mergeK [] kvs).length ≤ sizeLine := by
      refine Nat.le_trans (length_mergeK kvs []) ?_
      rw [List.length_nil, Nat.zero_add, rel.length, hl]
      exact hz
    have nf : H s.heap.objs.size = none := I.hok.fresh (Nat.le_refl _)
    exact ⟨.ref s.heap.objs.size, upd H s.heap.objs.size (.dK (mergeK [] kvs)), I.laid (t' := tk) (fun b o e => k b o (fun z => by cases z) e) (Nat.le_refl _) (show ObjOk X.prog X.w _ _ _ (.dK (mergeK [] kvs)) from ⟨hlen, hm, merged [] prs, KV.merge rel .nil, hd'⟩), rfl, q _ _ (same_upd nf) nf upd_same⟩
end
end LW

set_option Elab.async false
set_option linter.all false
set_option maxRecDepth 100000
set_option maxHeartbeats 4000000
/-! rules told weakly: what was stays (Same), the new object is told; the heap behind is any such one. -/
namespace KW
open PySem PySem.Spec PyProof.Rows L2
theorem lt_size {n : Nat} (h : n ≤ 5000) : n < sizeLine := by rw [sizeLine_eq]; omega
theorem le_size {n : Nat} (h : n ≤ 5000) : n ≤ sizeLine := Nat.le_of_lt (lt_size h)
theorem same_upd {H : Hp} {p : Addr} {o : HO} (h : H p = none) : Same H (upd H p o) := fun b x e => by
  rw [upd_ne (ne_of_none e h)]
  exact e
/-- a new object o -/
def New (o : HO) (Q : VK) (H : Hp) : Prop := ∀ p H', Same H H' → H p = none → H' p = some o → Q (.ref p) H'
theorem New.at {o : HO} {Q : VK} {H : Hp} (q : New o Q H) {p : Addr} (n : H p = none) : Q (.ref p) (upd H p o) := q p _ (same_upd n) n upd_same
section
variable {X : Cx} {es : List Expr} {t : TA} {pos : Pos}
def tLstS (t : TA) : TE := fun σ H Q => t σ H fun xs H1 => xs.length ≤ 5000 ∧ New (.lst xs) Q H1
def tTupS (t : TA) : TE := fun σ H Q => t σ H fun xs H1 => xs.length ≤ 5000 ∧ New (.tup xs) Q H1
theorem pe_lstS (h : PA X es t) : PE X (.List es pos) (tLstS t) := by
  refine ⟨fun pins s σ H Q I hq => ?_⟩
  refine wpAny_List_spliced (thn (h.run pos pins s σ H _ I hq) fun us s1 ⟨xs, H1, I1, r, z, q⟩ => ⟨by rw [← r.length]; exact le_size z, ?_⟩)
  have hf : H1 s1.heap.objs.size = none := I1.hok.fresh (Nat.le_refl _)
  refine ⟨.ref s1.heap.objs.size, upd H1 s1.heap.objs.size (.lst xs), I1.laid (t' := s1.toks) (fun b u e => Heap.get?_push_of_some _ e) (Nat.le_refl _) ?_, rfl, q.at hf⟩
  exact ⟨le_size z, us, 0, r, Heap.get?_push_size _ rfl⟩
theorem pe_tupS {x1} (h : PA X es t) : PE X (.Tuple es x1 pos) (tTupS t) := by
  refine ⟨fun pins s σ H Q I hq => ?_⟩
  refine wpAny_Tuple_spliced (thn (h.run pos pins s σ H _ I hq) fun us s1 ⟨xs, H1, I1, r, z, q⟩ => ⟨by rw [← r.length]; exact le_size z, ?_⟩)
  have hf : H1 s1.heap.objs.size = none := I1.hok.fresh (Nat.le_refl _)
  refine ⟨.ref s1.heap.objs.size, upd H1 s1.heap.objs.size (.tup xs), I1.laid (t' := s1.toks) (fun b u e => Heap.get?_push_of_some _ e) (Nat.le_refl _) ?_, rfl, q.at hf⟩
  exact ⟨le_size z, us, r, ⟨_, Heap.get?_push_size _ rfl, rfl, _, rfl⟩⟩
theorem OpR.weak {f : Value → Value → Sem Value} {r r' : R2} (h : OpR X f r) (w : ∀ x y H Q, r' x y H Q → r x y H Q) : OpR X f r' := fun pins s σ H x y v u Q I rx ry q => h pins s σ H x y v u Q I rx ry (w x y H Q q)
theorem CallR.weak {f : Value} {r r' : List V → Hp → VK → Prop} (h : CallR X f r) (w : ∀ xs H Q, r' xs H Q → r xs H Q) : CallR X f r' := fun pins s σ H xs us Q I rx q => h pins s σ H xs us Q I rx (w xs H Q q)
def rCatS : R2 := fun x y H Q => ∃ a b xs ys, x = .ref a ∧ y = .ref b ∧ H a = some (.lst xs) ∧ H b = some (.lst ys) ∧ xs.length + ys.length ≤ 5000 ∧ New (.lst (xs ++ ys)) Q H
theorem op_catS : OpR X (binaryOp .Add) rCatS := OpR.weak op_cat fun x y H Q ⟨a, b, xs, ys, e1, e2, h1, h2, hz, q⟩ => ⟨a, b, xs, ys, e1, e2, h1, h2, le_size hz, fun p n => q.at n⟩
def rRepS : R2 := fun x y H Q => ∃ l k xs, x = .ref l ∧ y = .int k ∧ H l = some (.lst xs) ∧ 0 ≤ k ∧ k ≤ 1000 ∧ xs.length * k.toNat ≤ 5000 ∧ New (.lst (List.replicate k.toNat xs).flatten) Q H
theorem op_repS : OpR X (binaryOp .Mult) rRepS := OpR.weak op_rep fun x y H Q ⟨l, k, xs, e1, e2, h1, h2, h3, hz, q⟩ => ⟨l, k, xs, e1, e2, h1, by omega, by omega, le_size hz, fun p n => q.at n⟩
end
end KW

set_option Elab.async false
set_option linter.all false
set_option maxRecDepth 100000
set_option maxHeartbeats 4000000
/-! repr of what was drawn: data without dicts, a dict of no or one pair, lists of such. -/
namespace KX
open PySem PySem.Spec PyProof.Rows L2
def kd : Key → PyData
  | .inl i => .int i
  | .inr x => .str x
inductive Df (K : PySem.W.Frag) (H : Hp) : V → PyData → Prop
  | dp {v : V} {d : PyData} : Dp K H v d → d.hasDict = false → Df K H v d
  | dk {a : Addr} {k : Key} {z : Str} : H a = some (.dK [(k, .str z)]) → Df K H (.ref a) (.dict [(kd k, .str z)])
  | d0 {a : Addr} : H a = some (.dK []) → Df K H (.ref a) (.dict [])
inductive DfAll (K : PySem.W.Frag) (H : Hp) : List V → List PyData → Prop
  | nil : DfAll K H [] []
  | cons {v : V} {vs : List V} {d : PyData} {ds : List PyData} : Df K H v d → DfAll K H vs ds → DfAll K H (v :: vs) (d :: ds)
section
variable {X : Cx} {pins : List (Addr × Obj)} {σ : L2.St} {H : Hp} {s : Shared} {prog : Program} {w : World}
theorem kd_reads {P : Program} {w : World} {k : Key} {u : Value} {h : Heap} (e : (mixKind P w).is k u = true) : Reads h u (kd k) [] := by
  rcases keyIs_shape (show keyIs k u = true from e) with ⟨i, t, rfl, rfl⟩ | ⟨x, t, rfl, rfl⟩
  · exact Reads.int i t
  · exact Reads.str x t
theorem Df.reads (I : Inv X pins σ H s) {v : V} {d : PyData} {u : Value} (h : Df X.K H v d) (r : RelV v u) : ∃ as, Reads s.heap u d as ∧ (d.hasDict = true → sysModules ∉ as) := by
  cases h with
  | dp hd hn =>
    obtain ⟨as, q⟩ := Dp.reads I d v u hd r
    exact ⟨as, q, PyData.noDict_hsm hn⟩
  | @dk a k z ha =>
    cases r
    obtain ⟨_, hsys, vs, rel, o, es, ep, ho, hx, hd, _, hp, _⟩ := dk_of I.hok ha
    cases rel with
    | @cons _ q _ _ r1 r2 =>
      cases r2
      obtain ⟨k2, u2⟩ := q
      obtain ⟨rfl, t, rfl⟩ := r1
      obtain ⟨el⟩ := es
      cases hp with
      | @cons e _ _ _ p1 p2 p3 =>
        cases p3
        refine ⟨a :: ([] ++ []) ++ ([] ++ []), Reads.dict ho hx.1 hd (ReadsAll.cons ?_ ReadsAll.nil) (ReadsAll.cons ?_ ReadsAll.nil), fun _ hm => ?_⟩
        · exact kd_reads p1
        · show Reads s.heap e.val (PyData.str z) []
          rw [p2]
          exact Reads.str z t
        · have : sysModules = a := by simpa using hm
          rw [← this] at hsys
          cases hsys
  | @d0 a ha =>
    cases r
    obtain ⟨_, hsys, vs, rel, o, es, ep, ho, hx, hd, _, hp, _⟩ := dk_of I.hok ha
    cases rel
    obtain ⟨el⟩ := es
    cases hp
    refine ⟨a :: [] ++ [], Reads.dict ho hx.1 hd ReadsAll.nil ReadsAll.nil, fun _ hm => ?_⟩
    have : sysModules = a := by simpa using hm
    rw [← this] at hsys
    cases hsys
theorem Df.readsAll (I : Inv X pins σ H s) : ∀ {vs : List V} {ds : List PyData} {us : List Value}, DfAll X.K H vs ds → Vals vs us → PyData.showableAll ds = true → (∀ t ∈ PyData.shownAll ds, t.length ≤ sizeLine) →
    ∃ as bs, ReadsAll s.heap us ds as ∧ ReadAtMost s.heap (PyData.depthAll ds) bs ∧ ReprAllK prog w bs s.heap (PyData.depthAll ds) us (PyData.shownAll ds)
  | _, _, _, .nil, r, _, _ => by
    cases r
    exact ⟨_, [], ReadsAll.nil, (fun _ h => nomatch h), by simp only [PyData.shownAll]; exact .nil⟩
  | _, d :: ds, _, .cons h1 h2, r, hs, hz => by
    cases r with
    | cons r1 r2 =>
      have hs' : d.showable = true ∧ PyData.showableAll ds = true := by simpa [PyData.showableAll] using hs
      obtain ⟨as1, q1, hsm⟩ := h1.reads I r1
      obtain ⟨as2, b2, q2, hb2, k2⟩ := Df.readsAll I h2 r2 hs'.2 (fun t ht => hz t (by simp only [PyData.shownAll]; exact List.mem_cons_of_mem _ ht))
      obtain ⟨b1, hb1, k1⟩ := ReprK.of_reads (prog := prog) (w := w) q1 hs'.1 hsm (hz _ (by simp only [PyData.shownAll]; exact List.mem_cons_self ..))
      refine ⟨_, b1 ++ b2, ReadsAll.cons q1 q2, ?_, ?_⟩
      · intro b hm
        simp only [PyData.depthAll]
        rcases List.mem_append.mp hm with hm | hm
        · obtain ⟨d', as', r', hd'⟩ := hb1 b hm
          exact ⟨d', as', r', Nat.le_trans hd' (Nat.le_max_left _ _)⟩
        · obtain ⟨d', as', r', hd'⟩ := hb2 b hm
          exact ⟨d', as', r', Nat.le_trans hd' (Nat.le_max_right _ _)⟩
      · simp only [PyData.depthAll, PyData.shownAll]
        exact .cons ((k1.more fun b hb => List.mem_append_left _ hb).level_le (Nat.le_max_left _ _)) (k2.more_le (fun b hb => List.mem_append_right _ hb) (Nat.le_max_right _ _))
/-- repr of a list of such things -/
def rReprL (K : PySem.W.Frag) : List V → Hp → VK → Prop := fun xs H Q => ∃ a vs ds, xs = [.ref a] ∧ H a = some (.lst vs) ∧ DfAll K H vs ds ∧ PyData.showableAll ds = true ∧ PyData.depthAll ds ≤ 60 ∧ (listText (PyData.shownAll ds)).length ≤ sizeLine ∧ Q (.str (listText (PyData.shownAll ds))) H
theorem call_reprL (hg : X.A.guards = some []) (hu : X.A.units + 66 < cLine) : CallR X (.builtin "repr") (rReprL X.K) := by
  intro pins s σ H xs us Q I r h
  obtain ⟨a, vs, ds, rfl, ha, hall, hs, hdep, hz, q⟩ := h
  obtain ⟨u, rfl, rx⟩ := vals1 r
  cases rx
  obtain ⟨its, rv, ⟨o, n, ho, hc, hn, hd⟩, _⟩ := I.list (.inl (.inl ha))
  obtain ⟨as, bs, hr, hb, hk⟩ := Df.readsAll (prog := X.prog) (w := X.w) I hall rv hs (fun t ht => Nat.le_trans (listText_mem_le ht) hz)
  have rd : Reads s.heap (.ref a) (.list ds) _ := .list ho hc hd hr
  have hna : a ∉ bs := not_mem_of_deeper rd (by simp only [PyData.depth]; omega) hb
  have hT : s.TypeIs (.ref a) "list" := ⟨o, ho, hc⟩
  refine call_repr_slot (by omega) hT F.slot_list_repr.toG ?_
  cases its with
  | nil =>
    cases hr
    simp only [PyData.shownAll, listText_nil] at q
    exact call_list_repr_empty hT ho hd ⟨_, _, rfl, .str _, H, I.tok _, ⟨_, rfl⟩, q⟩
  | cons x l =>
    refine call_list_reprK ho hc hd hna (by simpa using hk.length_eq) (fun i y e => hk.item i y (by simpa using e)) (g := []) hg (fun b _ => Clear.nil b) (by show X.A.units + 1 + (PyData.depthAll ds + 1) < cLine; omega) (fun _ _ e => e) (fun h' u tk hk' => ?_) hz
    exact ⟨_, _, rfl, .str _, H, I.kept hk', ⟨_, rfl⟩, q⟩
end
end KX

set_option Elab.async false
set_option linter.all false
set_option maxRecDepth 100000
set_option maxHeartbeats 4000000
/-! how long what repr shows is -/
namespace KX
open PySem PySem.Spec PyProof.Rows L2
structure Fd (d : PyData) (wt dp : Nat) : Prop where
  lv : PyData.leavesShort 64 d = true
  sh : PyData.showable d = true
  w : PyData.weight d ≤ wt
  d : PyData.depth d ≤ dp
structure FdL (ds : List PyData) (wt dp : Nat) : Prop where
  lv : PyData.leavesShortAll 64 ds = true
  sh : PyData.showableAll ds = true
  w : PyData.weightAll ds ≤ wt
  d : PyData.depthAll ds ≤ dp
theorem Fd.le {r : PyData} {w1 w2 d1 d2 : Nat} (h : Fd r w1 d1) (a : w1 ≤ w2) (b : d1 ≤ d2) : Fd r w2 d2 := ⟨h.lv, h.sh, Nat.le_trans h.w a, Nat.le_trans h.d b⟩
theorem FdL.le {r : List PyData} {w1 w2 d1 d2 : Nat} (h : FdL r w1 d1) (a : w1 ≤ w2) (b : d1 ≤ d2) : FdL r w2 d2 := ⟨h.lv, h.sh, Nat.le_trans h.w a, Nat.le_trans h.d b⟩
theorem fd_nil : FdL [] 0 0 := ⟨rfl, rfl, Nat.le_refl _, Nat.le_refl _⟩
theorem fd_cons {x : PyData} {r : List PyData} {w1 w2 d1 d2 : Nat} (h : Fd x w1 d1) (g : FdL r w2 d2) : FdL (x :: r) (w1 + 1 + w2) (max d1 d2) :=
  ⟨by simp only [PyData.leavesShortAll, h.lv, g.lv, Bool.and_true], by simp only [PyData.showableAll, h.sh, g.sh, Bool.and_true],
    by have := h.w; have := g.w; simp only [PyData.weightAll]; omega, by have := h.d; have := g.d; simp only [PyData.depthAll]; omega⟩
theorem fd_all {w d : Nat} : ∀ {r : List PyData}, (∀ x ∈ r, Fd x w d) → FdL r (r.length * (w + 1)) d
  | [], _ => fd_nil.le (Nat.zero_le _) (Nat.zero_le _)
  | x :: r, h => (fd_cons (h x (List.mem_cons_self ..)) (fd_all fun y hy => h y (List.mem_cons_of_mem _ hy))).le (by rw [List.length_cons, Nat.succ_mul]; omega) (by omega)
theorem fd_tup {ds : List PyData} {w d : Nat} (h : FdL ds w d) : Fd (.tuple ds) w (d + 1) :=
  ⟨by simp only [PyData.leavesShort, h.lv], by simp only [PyData.showable, h.sh], by simp only [PyData.weight, h.w], by simp only [PyData.depth]; have := h.d; omega⟩
theorem fd_lst {ds : List PyData} {w d : Nat} (h : FdL ds w d) : Fd (.list ds) w (d + 1) :=
  ⟨by simp only [PyData.leavesShort, h.lv], by simp only [PyData.showable, h.sh], by simp only [PyData.weight, h.w], by simp only [PyData.depth]; have := h.d; omega⟩
theorem fd_bl {b : Bool} : Fd (.bool b) 0 0 := ⟨by simp only [PyData.leavesShort], by simp only [PyData.showable], by simp only [PyData.weight, Nat.le_refl], by simp only [PyData.depth, Nat.le_refl]⟩
theorem fd_non : Fd .none 0 0 := ⟨by simp only [PyData.leavesShort], by simp only [PyData.showable], by simp only [PyData.weight, Nat.le_refl], by simp only [PyData.depth, Nat.le_refl]⟩
theorem fd_int {i : Int} (h : i.natAbs < 10 ^ 40) : Fd (.int i) 400 0 := by
  have e : i.natAbs < 2 ^ 200 := Nat.lt_trans h (by decide)
  have lg : i.natAbs.log2 < 200 := by
    by_cases z : i.natAbs = 0
    · rw [z]; decide
    · exact (Nat.log2_lt z).mpr e
  refine ⟨?_, ?_, ?_, by simp only [PyData.depth, Nat.le_refl]⟩
  · simp only [PyData.leavesShort]
    refine decide_eq_true ?_
    have e := int_text_length_le10 (k := 40) (by decide) h
    show (Str.ofString (toString i)).length ≤ 64
    rw [PySem.ofString_length]
    omega
  · simp only [PyData.showable]
    exact decide_eq_true (by omega)
  · simp only [PyData.weight]
    split <;> omega
theorem fd_str {z : Str} {n : Nat} (hl : z.length ≤ n) (h : ∀ c ∈ z.cps.toList, c < 16 ^ 8) : Fd (.str z) n 0 := by
  refine ⟨?_, by simp only [PyData.showable], ?_, by simp only [PyData.depth, Nat.le_refl]⟩
  · simp only [PyData.leavesShort]
    exact List.all_eq_true.mpr fun ch hc => decide_eq_true (h ch hc)
  · simp only [PyData.weight]
    exact hl
theorem fd_d1 {k v : PyData} {w1 w2 d1 d2 : Nat} (h : Fd k w1 d1) (g : Fd v w2 d2) : Fd (.dict [(k, v)]) (w1 + w2 + 2) (max d1 d2 + 1) :=
  ⟨by simp only [PyData.leavesShort, PyData.leavesShortKv, h.lv, g.lv, Bool.and_true], by simp only [PyData.showable, PyData.showableKv, h.sh, g.sh, Bool.and_true],
    by have := h.w; have := g.w; simp only [PyData.weight, PyData.weightKv]; omega, by have := h.d; have := g.d; simp only [PyData.depth, PyData.depthKv]; omega⟩
theorem fd_d0 : Fd (.dict []) 0 1 := ⟨by simp only [PyData.leavesShort, PyData.leavesShortKv], by simp only [PyData.showable, PyData.showableKv], by simp only [PyData.weight, PyData.weightKv, Nat.le_refl], by simp only [PyData.depth, PyData.depthKv]; omega⟩
theorem Fd.fits {d : PyData} {wt dp : Nat} (h : Fd d wt dp) (hw : wt ≤ 100000) : d.shown.length ≤ sizeLine := by
  have := PyData.shown_le 64 (by decide) d h.lv
  have := h.w
  rw [sizeLine_eq]
  omega
theorem FdL.fits {ds : List PyData} {wt dp : Nat} (h : FdL ds wt dp) (hw : wt ≤ 100000) : (listText (PyData.shownAll ds)).length ≤ sizeLine := by
  have := (fd_lst h).fits hw
  simpa only [PyData.shown] using this
end KX

set_option Elab.async false
set_option linter.all false
set_option maxRecDepth 100000
set_option maxHeartbeats 4000000
/-! repr of any such thing. -/
namespace KX
open PySem PySem.Spec PyProof.Rows L2
section
variable {X : Cx}
def rReprV (K : PySem.W.Frag) : List V → Hp → VK → Prop := fun xs H Q => ∃ v d, xs = [v] ∧ Df K H v d ∧ d.showable = true ∧ d.depth ≤ 60 ∧ d.shown.length ≤ sizeLine ∧ Q (.str d.shown) H
theorem call_reprV (hg : X.A.guards = some []) (hu : X.A.units + 66 < cLine) : CallR X (.builtin "repr") (rReprV X.K) := by
  intro pins s σ H xs us Q I r h
  obtain ⟨v, d, rfl, hd, hs, hdep, hz, q⟩ := h
  obtain ⟨u, rfl, rx⟩ := vals1 r
  obtain ⟨as, hr, hsm⟩ := hd.reads I rx
  have fin : ∀ t, EP X pins σ Q (.str d.shown t) { s with toks := s.toks + 1 } := fun t => ⟨.str d.shown, H, I.tok _, ⟨_, rfl⟩, q⟩
  cases hr with
  | none =>
    simp only [PyData.shown] at fin
    exact P.repr_of_none (fin _)
  | bool b =>
    simp only [PyData.shown] at fin
    exact P.repr_of_bool (fin _)
  | int i t =>
    simp only [PyData.shown] at fin
    exact P.repr_of_int (by simpa [PyData.showable] using hs) (fin _)
  | str x t =>
    simp only [PyData.shown] at fin hz
    exact P.repr_of_str (fin _) hz
  | list h1 h2 h3 h4 => exact repr_of_reads' (.list h1 h2 h3 h4) hs hsm hg (by omega) (fun _ _ e => e) (fun h' t tk hk => ⟨.str _, H, I.kept hk, ⟨_, rfl⟩, q⟩) hz
  | tuple h1 h2 h3 h4 => exact repr_of_reads' (.tuple h1 h2 h3 h4) hs hsm hg (by omega) (fun _ _ e => e) (fun h' t tk hk => ⟨.str _, H, I.kept hk, ⟨_, rfl⟩, q⟩) hz
  | dict h1 h2 h3 h4 h5 => exact repr_of_reads' (.dict h1 h2 h3 h4 h5) hs hsm hg (by omega) (fun _ _ e => e) (fun h' t tk hk => ⟨.str _, H, I.kept hk, ⟨_, rfl⟩, q⟩) hz
end
end KX

set_option Elab.async false
set_option linter.all false
set_option maxRecDepth 100000
set_option maxHeartbeats 4000000
namespace LW
open PySem PySem.Spec PyProof.Rows L2
/-! xs == [] of a list of anything; lists that are not sys.modules; repr of data with empty dicts anywhere -/
section
variable {X : Cx}
theorem op_eq_nil (hu : X.A.units < cLine) : OpR X (compareOp .Eq) (fun x y H Q => ∃ a b xs, x = .ref a ∧ y = .ref b ∧ SqL X.K H a xs ∧ SqL X.K H b [] ∧ Q (.bl xs.isEmpty) H) := by
  intro pins s σ H x y v u Q I rx ry h
  obtain ⟨a, b, xs, rfl, rfl, ha, hb, q⟩ := h
  cases rx
  cases ry
  obtain ⟨its, r1, p1, _⟩ := I.list ha
  obtain ⟨its2, r2, p2, _⟩ := I.list hb
  cases r2
  have hl := r1.length
  cases xs with
  | nil =>
    cases r1
    have := SeqAt.RcAt.lists (e := fun _ => true) p1.isList p2.isList rfl hu (fun j j1 j2 => absurd j2 (Nat.not_lt_zero _))
    exact this _ _ _ _ ⟨.bl true, H, I, rfl, q⟩
  | cons x r =>
    have hs : (its.toArray.size != ([] : List Value).toArray.size) = true := by
      rw [List.size_toArray, ← hl]
      simp
    have := SeqAt.RcAt.lists_lengths p1.isList p2.isList hs hu
    exact this _ _ _ _ ⟨.bl false, H, I, rfl, q⟩
/-- a new list -/
def NewLs (xs : List V) (Q : VK) (H : Hp) : Prop := ∀ p H', Same H H' → H p = none → p ≠ sysModules → H' p = some (.lst xs) → Q (.ref p) H'
variable {es : List Expr} {t : TA} {pos : Pos}
def tLstN (t : TA) : TE := fun σ H Q => t σ H fun xs H1 => xs.length ≤ 5000 ∧ NewLs xs Q H1
theorem pe_lstN (h : PA X es t) : PE X (.List es pos) (tLstN t) := by
  refine ⟨fun pins s σ H Q I hq => ?_⟩
  refine wpAny_List_spliced (thn (h.run pos pins s σ H _ I hq) fun us s1 ⟨xs, H1, I1, r, z, q⟩ => ⟨by rw [← r.length]; exact le_size z, ?_⟩)
  have hf : H1 s1.heap.objs.size = none := I1.hok.fresh (Nat.le_refl _)
  refine ⟨.ref s1.heap.objs.size, upd H1 s1.heap.objs.size (.lst xs), I1.laid (t' := s1.toks) (fun b u e => Heap.get?_push_of_some _ e) (Nat.le_refl _) ?_, rfl, q _ _ (same_upd hf) hf (Nat.ne_of_gt I1.big) upd_same⟩
  exact ⟨le_size z, us, 0, r, Heap.get?_push_size _ rfl⟩
/-- list(t), t a list or a tuple -/
def rListN (K : PySem.W.Frag) : List V → Hp → VK → Prop := fun xs H Q => ∃ p ys, xs = [.ref p] ∧ (SqL K H p ys ∨ SqT K H p ys) ∧ NewLs ys Q H
theorem call_listN : CallR X (.type "list") (rListN X.K) := by
  intro pins s σ H xs us Q I r h
  obtain ⟨p, ys, rfl, hq, q⟩ := h
  obtain ⟨u, rfl, rx⟩ := vals1 r
  cases rx
  have hf : H s.heap.objs.size = none := I.hok.fresh (Nat.le_refl _)
  have fin : ∀ (its : List Value), Vals ys its → ys.length ≤ sizeLine → ∀ (h' : Heap) (c' : Nat), (∀ b o', s.heap.get? b = some o' → h'.get? b = some o') →
      h'.get? s.heap.objs.size = some { cls := .type "list", dict := none, data := .seq its.toArray c', slots := #[] } → EP X pins σ Q (.ref s.heap.objs.size) { s with heap := h' } := fun its r' hz h' c' kp e =>
    ⟨.ref s.heap.objs.size, _, I.laid (t' := s.toks) kp (Nat.le_refl _) (show ObjOk X.prog X.w _ h' _ (.lst ys) from ⟨hz, its, c', r', e⟩), rfl, q _ _ (same_upd hf) hf (Nat.ne_of_gt I.big) upd_same⟩
  rcases hq with hq | hq
  · obtain ⟨its, r', pl, hz⟩ := I.list hq
    have hlen := r'.length
    obtain ⟨o, ho, hc, n, hd⟩ := pl.isList
    exact call_list_seq p (.inl rfl) ho hc hd (fun h' c' kp e => fin its r' hz h' c' kp e) (by simp only [List.size_toArray] <;> omega)
  · obtain ⟨its, r', pl, hz⟩ := I.tuple hq
    have hlen := r'.length
    obtain ⟨o, ho, hc, n, hd⟩ := pl
    exact call_list_seq p (.inr rfl) ho hc hd (fun h' c' kp e => fin its r' hz h' c' kp e) (by simp only [List.size_toArray] <;> omega)
/-! repr -/
mutual
theorem Dq.reads {F : Addr → Prop} {pins : List (Addr × Obj)} {σ : L2.St} {H : Hp} {s : Shared} (I : Inv X pins σ H s) : ∀ {d : PyData} {v : V} {u : Value}, Dq F H d v → RelV v u → ∃ as, Reads s.heap u d as ∧ sysModules ∉ as
  | .none, v, u, h, r => by
    cases (show v = V.non from h)
    cases (show u = Value.none from r)
    exact ⟨[], Reads.none, fun h => by cases h⟩
  | .bool b, v, u, h, r => by
    cases (show v = V.bl b from h)
    cases (show u = Value.bool b from r)
    exact ⟨[], Reads.bool b, fun h => by cases h⟩
  | .int i, v, u, h, r => by
    cases (show v = V.int i from h)
    obtain ⟨t, rfl⟩ := (show ∃ t, u = Value.int i t from r)
    exact ⟨[], Reads.int i t, fun h => by cases h⟩
  | .str z, v, u, h, r => by
    cases (show v = V.str z from h)
    obtain ⟨t, rfl⟩ := (show ∃ t, u = Value.str z t from r)
    exact ⟨[], Reads.str z t, fun h => by cases h⟩
  | .list ds, v, u, h, r => by
    obtain ⟨a, xs, rfl, _, ha, hx⟩ := h
    cases (show u = Value.ref a from r)
    obtain ⟨its, rv, ⟨o, n, ho, hc, hn, hd⟩, _⟩ := I.list (.inl (.inl ha.1))
    obtain ⟨as, hr, hm⟩ := DqL.reads I hx rv
    exact ⟨a :: as, Reads.list ho hc hd (by simpa using hr), fun h => (List.mem_cons.mp h).elim (fun e => ha.2 e.symm) hm⟩
  | .tuple ds, v, u, h, r => by
    obtain ⟨a, xs, rfl, _, ha, hx⟩ := h
    cases (show u = Value.ref a from r)
    obtain ⟨its, rv, ⟨o, ho, hc, n, hd⟩, _⟩ := I.tuple (ha.sq (K := X.K))
    obtain ⟨as, hr, hm⟩ := DqL.reads I hx rv
    exact ⟨as, Reads.tuple ho hc hd (by simpa using hr), hm⟩
  | .dict kvs, v, u, h, r => by
    obtain ⟨rfl, a, rfl, _, ha⟩ := h
    cases (show u = Value.ref a from r)
    obtain ⟨_, hsys, vs, rel, o, es, ep, ho, hx, hd, _, hp, _⟩ := dk_of I.hok ha
    cases rel
    obtain ⟨el⟩ := es
    cases hp
    refine ⟨a :: [] ++ [], Reads.dict ho hx.1 hd ReadsAll.nil ReadsAll.nil, fun hm => ?_⟩
    have : sysModules = a := by simpa using hm
    rw [← this] at hsys
    cases hsys
theorem DqL.reads {F : Addr → Prop} {pins : List (Addr × Obj)} {σ : L2.St} {H : Hp} {s : Shared} (I : Inv X pins σ H s) : ∀ {ds : List PyData} {vs : List V} {us : List Value}, DqL F H ds vs → Vals vs us → ∃ as, ReadsAll s.heap us ds as ∧ sysModules ∉ as
  | [], vs, us, h, r => by
    rw [show vs = [] from h] at r
    cases r
    exact ⟨[], ReadsAll.nil, fun h => by cases h⟩
  | d :: ds, vs, us, h, r => by
    obtain ⟨v, vs', rfl, h1, h2⟩ := h
    cases r with
    | cons r1 r2 =>
      obtain ⟨as, q1, m1⟩ := Dq.reads I h1 r1
      obtain ⟨bs, q2, m2⟩ := DqL.reads I h2 r2
      exact ⟨as ++ bs, ReadsAll.cons q1 q2, fun h => (List.mem_append.mp h).elim m1 m2⟩
end
def rReprQ : List V → Hp → VK → Prop := fun xs H Q => ∃ (F : Addr → Prop) (v : V) (d : PyData), xs = [v] ∧ Dq F H d v ∧ d.showable = true ∧ d.depth ≤ 60 ∧ d.shown.length ≤ sizeLine ∧ Q (.str d.shown) H
theorem call_reprQ (hg : X.A.guards = some []) (hu : X.A.units + 66 < cLine) : CallR X (.builtin "repr") rReprQ := by
  intro pins s σ H xs us Q I r h
  obtain ⟨F, v, d, rfl, hd, hs, hdep, hz, q⟩ := h
  obtain ⟨u, rfl, rx⟩ := vals1 r
  obtain ⟨as, hr, hm⟩ := hd.reads I rx
  have hsm : d.hasDict = true → sysModules ∉ as := fun _ => hm
  have fin : ∀ t, EP X pins σ Q (.str d.shown t) { s with toks := s.toks + 1 } := fun t => ⟨.str d.shown, H, I.tok _, ⟨_, rfl⟩, q⟩
  cases hr with
  | none =>
    simp only [PyData.shown] at fin
    exact P.repr_of_none (fin _)
  | bool b =>
    simp only [PyData.shown] at fin
    exact P.repr_of_bool (fin _)
  | int i t =>
    simp only [PyData.shown] at fin
    exact P.repr_of_int (by simpa [PyData.showable] using hs) (fin _)
  | str x t =>
    simp only [PyData.shown] at fin hz
    exact P.repr_of_str (fin _) hz
  | list h1 h2 h3 h4 => exact repr_of_reads' (.list h1 h2 h3 h4) hs hsm hg (by omega) (fun _ _ e => e) (fun h' t tk hk => ⟨.str _, H, I.kept hk, ⟨_, rfl⟩, q⟩) hz
  | tuple h1 h2 h3 h4 => exact repr_of_reads' (.tuple h1 h2 h3 h4) hs hsm hg (by omega) (fun _ _ e => e) (fun h' t tk hk => ⟨.str _, H, I.kept hk, ⟨_, rfl⟩, q⟩) hz
  | dict h1 h2 h3 h4 h5 => exact repr_of_reads' (.dict h1 h2 h3 h4 h5) hs hsm hg (by omega) (fun _ _ e => e) (fun h' t tk hk => ⟨.str _, H, I.kept hk, ⟨_, rfl⟩, q⟩) hz
end
end LW

set_option Elab.async false
set_option linter.all false
set_option maxRecDepth 100000
set_option maxHeartbeats 4000000
/-! repr of data, and the defs in which it is called: there no repr may be on its way, so what stands around a call must say so. -/
namespace KG
open PySem PySem.Spec PyProof.Rows L2

def shows : PyData → Bool
  | .list _ => true
  | .tuple _ => true
  | _ => false
def rRepr (K : PySem.W.Frag) : List V → Hp → VK → Prop := fun xs H Q => ∃ x d, xs = [x] ∧ Dp K H x d ∧ shows d = true ∧ SeqAt.shaped d = true ∧ d.showable = true ∧ d.shown.length ≤ sizeLine ∧ Q (.str d.shown) H
theorem call_reprD {X : Cx} (hg : X.A.guards = some []) (hu : X.A.units + 66 < cLine) : CallR X (.builtin "repr") (rRepr X.K) := by
  intro pins s σ H xs us Q I r h
  obtain ⟨x, d, rfl, hd, h1, h2, h3, h4, q⟩ := h
  obtain ⟨u, rfl, rx⟩ := vals1 r
  have hs : (PyData.canLay0 d && decide (PyData.depth d ≤ 64)) = true := h2
  rw [Bool.and_eq_true] at hs
  have hdep : d.depth ≤ 64 := of_decide_eq_true hs.2
  obtain ⟨as, hr⟩ := Dp.reads I d x u hd rx
  have hx : ∃ a, u = .ref a := by
    cases hd with
    | non => cases h1
    | bl b => cases h1
    | int i => cases h1
    | str z => cases h1
    | lst _ _ => exact ⟨_, rx⟩
    | tup _ _ => exact ⟨_, rx⟩
  obtain ⟨a, rfl⟩ := hx
  refine repr_of_reads' hr h3 (PyData.noDict_hsm (PyData.hasDict_of_canLay d hs.1)) hg (by omega) (fun _ _ e => e) (fun h' t tk hk => ?_) h4
  exact ⟨.str d.shown, H, I.kept hk, ⟨_, rfl⟩, q⟩

/-! ### a def that is called where no repr is on its way -/
section
variable {P : Program} {w : World} {K : PySem.W.Frag} {mg : Str → Option Value} {base : Heap}
structure FnG (P : Program) (w : World) (K : PySem.W.Frag) (mg : Str → Option Value) (base : Heap) (k : Nat) (f : Addr) (fd : FuncData) (ps : List Str) (sp : Sp) : Prop where
  many : ∀ vs H Q E, sp vs H Q E → vs.length = ps.length
  goes : ∀ (A : Around) (outer : List Env) (s : Shared) (H : Hp) (args : Args) (us : List Value) (vs : List V) (Q : VK) (E : XK), Room k A → A.guards = some [] → Env0 P w K mg base A outer s H → BindsTo s fd args (ps.zip us) → Vals vs us →
    sp vs H Q E → codeAny (model P w) A (.call (.ref f) args) (CR CX0 outer P w H s Q E) s
theorem FnG.of {x qual : Str} {st : Stmt} {f : Addr} {fd : FuncData} {N ps : List Str} {k : Nat} {sp : Sp} (F : Fun K x qual st f fd) (S : FnScope N ps (defScope st)) (len : ∀ vs H Q E, sp vs H Q E → vs.length = ps.length)
    (body : ∀ (cdv : Value) (A : Around) (outer : List Env) (s : Shared) (H : Hp) (vs : List V) (Q : VK) (E : XK), Room k (A.deeper (envOfC qual (defScope st) s.heap.objs.size f cdv)) → A.guards = some [] → sp vs H Q E →
      ∃ t, PSs (cxOf CX0 P w K mg base N qual (defScope st) f cdv A outer s H E).nox (defBody st) t ∧ t { nx := fun _ H' => Q .non H', rt := Q } (start N vs) H) : FnG P w K mg base (k + 1) f fd ps sp := by
  obtain ⟨oc, od, kV, doc, pm, an, cdv, ct, osl, rfl, lk, hcd⟩ := F.ex
  constructor
  · exact len
  · intro A outer s H args us vs Q E room none0 e0 hb r hsp
    have stays : ∀ b o, base.get? b = some o → s.heap.get? b = some o := fun b o e => (e0.bs b o e).1
    have KX : K.In s.heap := e0.mod.kin.keeps stays
    have lim : s.heap.NoLimit := e0.mod.nolimit.keeps stays
    have kinds : ∀ y ∈ ps.zip us, (defScope st).names.lookup y.1 = some .local ∨ ((defScope st).names.lookup y.1 = some .cell ∧ ((cellsFrom (s.heap.objs.size + 1) (defScope st).names []).lookup y.1).isSome = true) := by
      rintro ⟨n, v⟩ hy
      exact (S.par n (List.of_mem_zip hy).1).elim .inl fun q => .inr ⟨q, PySem.W.cellsFrom_some _ _ _ (.inl q)⟩
    refine codeAny_call_function room.depth (KX f _ lk) rfl S.co S.gen rfl (PySem.W.codeRec_of KX hcd) (hb _ _ _ _ (wpAny_newFunctionEnv_cells S.kind kinds fun env he s1 x => ?_))
    subst he
    have hl := len vs H Q E hsp
    obtain ⟨t, ht, hq⟩ := body cdv A outer s H vs Q E (room.deeper _) none0 hsp
    refine ⟨lim.keeps x.toInCall.keep, codeAny_func (wpAny_mono (ht.nox.run [] s1 (start N vs) H _ (inv_start (CX := CX0) (E := E) S room.hd e0 hl r x) hq) (fun fl s' hs => ?_) fun e s' hs => hs)⟩
    cases fl with
    | next =>
      obtain ⟨σ', H', J, q⟩ := hs
      exact ⟨.non, H', J.os, J.bare, J.base, J.hok, rfl, q⟩
    | ret u =>
      obtain ⟨v, σ', H', J, rv, q⟩ := hs
      exact ⟨v, H', J.os, J.bare, J.base, J.hok, rv, q⟩
    | cont => exact hs.elim fun _ h => h.elim fun _ h => h.2.elim
    | brk => exact hs.elim fun _ h => h.elim fun _ h => h.2.elim
section
variable {X : Cx} {k : Nat} {f : Addr} {fd : FuncData} {ps : List Str} {sp : Sp} {x : Str} {p pos : Pos} {e : Expr} {es : List Expr} {t : TA}
/-- f(e, ..), no repr on its way -/
theorem pe_callG (F : FnG X.prog X.w X.K X.mg X.base k f fd ps sp) (hr : Room k X.A) (none0 : X.A.guards = some []) (hg : Gl X x) (hm : X.mg x = some (.ref f)) (hk : PySem.W.keepIn X.K (.ref f) = true) (hb : Binds X.K fd ps []) (ha : PA X (e :: es) t)
    (hdb : (x == ("__debug__" : Str)) = false := by decide) (he : starEach (e :: es) X.env = (false, eval e X.env) :: starEach es X.env := by rfl) (hpl : (backTo pos (starEach es X.env)).any (·.1) = false := by rfl) :
    PE X (.Call (.Name x p) (e :: es) [] pos) (tCall sp [] E0 t) := by
  constructor
  intro pins s σ H Q I h
  refine wpAny_Call_Name_kw (ld_glob I hg hm (PySem.W.callWith_K (h₀ := X.base) I.ok.mod.kin hk (thn (ha.run pos pins s σ H _ I h) ?_) he hpl) hdb)
  rintro us s1 ⟨vs, H1, I1, r, q⟩
  have q' : sp vs H1 Q E0 := by
    have q0 : sp (vs ++ []) H1 Q E0 := q
    rwa [List.append_nil] at q0
  have hl : us.length = ps.length := by rw [← r.length]; exact F.many _ _ _ _ q'
  have hb1 : BindsTo s1 fd ⟨us, []⟩ (ps.zip us) := by
    have := hb s1 us I1.kIn (by rw [List.append_nil]; exact hl)
    rwa [List.append_nil] at this
  refine ⟨I1.kIn, wpAny_call (codeAny_mono (F.goes X.A X.stack s1 H1 ⟨us, []⟩ us vs Q E0 hr none0 I1.env0 hb1 r q') fun res s' hq => ?_)⟩
  match res, hq with
  | .ok (.ret u), hq => exact I1.after hq
end
end

/-! ### the law's end -/
theorem law_end {P : Program} {w : World} {K : PySem.W.Frag} {mg mb : Str → Option Value} {k : Nat} {fa a : Addr} {fd : FuncData} {x : Str} {sp : Sp} {s1 : Shared} {vs : List Value} {ns : List Int}
    (KX : K.In s1.heap) (hns : s1.heap.Ns mainGlobals mg) (hb : s1.heap.Ns builtinsNs mb) (hbb : ∀ x : Str, x ≠ "__name__" → mb x = bootBuiltins x) (hlim : s1.heap.NoLimit) (hg : s1.gens = #[])
    (ha : s1.heap.get? a = some { cls := .type "list", data := .seq vs.toArray }) (hi : IntsAre vs ns) (hl : ns.length ≤ sizeLine) (hr : Room k callerA)
    (F : ∀ base : Heap, K.In base → base.Ns mainGlobals mg → FnG P w K mg base k fa fd [x] sp) (hbind : ∀ (s : Shared) (u : Value), BindsTo s fd ⟨[u], []⟩ [(x, u)])
    (hsp : ∀ H : Hp, Only H → SqL K H a (ns.map V.int) → sp [.ref a] H (fun v _ => v = .bl true) fun _ _ _ => False) :
    codeAny (model P w) callerA (.call (.ref fa) ⟨[.ref a], []⟩) (fun r s' => r = .ok (.ret (.bool true)) ∧ OldK s1.heap s'.heap ∧ s'.os = s1.os ∧ AllBare s'.gens) s1 := by
  -- where the abstract heap holds the script at most
  have main : ∀ H : Hp, Only H → SqL K H a (ns.map V.int) → HOk P w H s1.heap → (∀ b, b ≠ a → H b = none) → (K.lookup a ≠ none → H a = none) →
      codeAny (model P w) callerA (.call (.ref fa) ⟨[.ref a], []⟩) (fun r s' => r = .ok (.ret (.bool true)) ∧ OldK s1.heap s'.heap ∧ s'.os = s1.os ∧ AllBare s'.gens) s1 := by
    intro H hO hS hok off onK
    have dictFree : ∀ {b : Addr} {o : Obj} {es : Array DictEntry} {ep : Nat}, s1.heap.get? b = some o → o.data = .dict es ep → H b = none := by
      intro b o es ep e d
      by_cases hb : b = a
      · rw [hb, ha] at e
        cases e
        cases (show Data.seq vs.toArray _ = Data.dict es ep from d)
      · exact off b hb
    have nsB : ∀ {b : Addr} {m : Str → Option Value}, s1.heap.Ns b m → (hidT s1.heap H).Ns b m := by
      rintro b m ⟨o, es, ep, e, d, r⟩
      exact ⟨o, es, ep, hidT_get e (dictFree e d), d, r⟩
    have kB : K.In (hidT s1.heap H) := by
      intro b o e
      refine hidT_get (KX b o e) ?_
      by_cases hb : b = a
      · subst hb; exact onK (by rw [e]; simp)
      · exact off b hb
    obtain ⟨mc, l1, l2⟩ := hlim
    have e0 : Env0 P w K mg (hidT s1.heap H) callerA [] s1 H := by
      refine ⟨rfl, ⟨kB, nsB hns, ⟨mb, nsB hb, hbb⟩, ⟨mc, nsB l1, l2⟩⟩, fun b o e => of_hidT e, Nat.le_of_eq (hidT_size _ _), trivial, ?_, hok, .of_eq hg⟩
      intro b z
      cases z
    refine codeAny_mono ((F _ kB (nsB hns)).goes callerA [] s1 H ⟨[.ref a], []⟩ [.ref a] [.ref a] _ _ hr rfl e0 (hbind s1 (.ref a)) (.cons rfl .nil) (hsp H hO hS)) ?_
    intro r s' h
    match r, h with
    | .ok (.ret u), h =>
      obtain ⟨v, H', os, bare, un, hok', rv, rfl⟩ := h
      cases (show u = Value.bool true from rv)
      refine ⟨rfl, OldK.of_keep (fun b o e => ?_), os, bare⟩
      rcases hO b with z | ⟨ob, xs, z⟩
      · exact un.keep b o e z (by intro q; cases q) (by simp)
      · have e1 := (hok b _ z).1
        rw [e] at e1
        cases e1
        exact (hok' b _ (un.frzs b _ _ z)).1
  have rv := vals_ints hi
  by_cases hk : K.lookup a = none
  · let H0 : Hp := fun b => if b = a then some (.frz { cls := .type "list", data := .seq vs.toArray } (.lst (ns.map V.int))) else none
    have at0 : H0 a = some (.frz { cls := .type "list", data := .seq vs.toArray } (.lst (ns.map V.int))) := if_pos rfl
    have off0 : ∀ b, b ≠ a → H0 b = none := fun b hb => if_neg hb
    refine main H0 (fun b => ?_) (.inl (.inr ⟨_, at0⟩)) (fun b u z => ?_) off0 (fun z => absurd hk z)
    · by_cases hb : b = a
      · rw [hb]; exact .inr ⟨_, _, at0⟩
      · exact .inl (off0 b hb)
    · by_cases hb : b = a
      · subst hb
        rw [at0] at z
        cases z
        exact ⟨ha, by rw [List.length_map]; exact hl, vs, _, rv, ha⟩
      · rw [off0 b hb] at z; cases z
  · obtain ⟨o, ho⟩ := Option.ne_none_iff_exists'.mp hk
    have e := KX a o ho
    rw [ha] at e
    cases e
    have lenV := hi.length
    refine main (fun _ => none) (fun _ => .inl rfl) (.inr ⟨_, vs.toArray, _, ho, rfl, rfl, rfl, by rw [List.size_toArray, lenV]; exact hl, by simpa using rv⟩) ?_ (fun _ _ => rfl) (fun _ => rfl)
    intro b u z
    cases (show (none : Option HO) = some u from z)

/-- what k_head leaves, from the promise of the law's def -/
theorem walk_end {l : PySem.W.OpenLaw} {n k : Nat} {q : Program} {loose : List Str} {XP : (Str → Option Value) → Heap → Prop} {YP : World → Heap → Prop} {d : DefRec} {K : Params → PySem.W.Frag} {sp : World → Sp} {x : Str}
    (hn : l.most = some n) (hn2 : n ≤ sizeLine) (hdf : d.params.defaults = []) (hr : Room k callerA) (hY : ∀ (w : World) (h : Heap), YP w h → (K w.params).In h)
    (F : ∀ (w : World) (mg : Str → Option Value) (fa : Addr) (h : Heap), (K w.params).In h → h.Ns mainGlobals mg → mg d.name = some (.ref fa) →
      ∃ fd : FuncData, (∀ (s : Shared) (u : Value), BindsTo s fd ⟨[u], []⟩ [(x, u)]) ∧ ∀ base : Heap, (K w.params).In base → base.Ns mainGlobals mg → FnG l.prog w (K w.params) mg base k fa fd [x] (sp w))
    (hsp : ∀ (w : World) (H : Hp) (a : Addr) (ns : List Int), ns.length ≤ n → Only H → SqL (K w.params) H a (ns.map V.int) → sp w [.ref a] H (fun v _ => v = .bl true) fun _ _ _ => False) :
    PySem.W.WalkO q loose XP YP l.row.toRowW d [] (fun f vs => PySem.call f vs) := by
  apply Att.attach_call hn hdf
  intro w s₀ s₁ mg mb fa o pm cd doc a vs ns G Y ho hd hcd hmg hobj hints hlen hg
  have KX := hY w _ Y
  obtain ⟨fd, hb, hF⟩ := F w mg fa _ KX G.T.g hmg
  exact law_end KX G.T.g G.T.b G.T.builtins G.T.nolimit hg hobj hints (Nat.le_trans hlen hn2) hr hF hb (hsp w · a ns hlen)
end KG

set_option Elab.async false
set_option linter.all false
set_option maxRecDepth 100000
set_option maxHeartbeats 1000000
namespace KK
open PySem PySem.Spec PyProof.Rows L2
/-! ### a call by keywords alone -/
section
variable {X : Cx} {CX : CXT} {k : Nat} {f : Addr} {fd : FuncData} {ps ks : List Str} {sp : Sp} {E : XK} {x : Str} {p pos : Pos} {kws : List Keyword} {tk : TA} {g : List Value → List Value → List Value} {gV : List V → List V → List V}
theorem pe_callN0 (F : FnOk X.prog X.w X.K X.mg X.base CX k f fd ps sp) (hr : Room k X.A) (hg : Gl X x) (hm : X.mg x = some (.ref f)) (hk : PySem.W.keepIn X.K (.ref f) = true) (hb : KBn X.K fd ps 0 ks g gV) (hx : Passes CX X E)
    (hkw : PK X kws tk) (hall : (backToKw pos (keywordEach kws X.env)).all (·.1.isSome) = true := by rfl) (hks : (backToKw pos (keywordEach kws X.env)).filterMap (·.1) = ks := by rfl)
    (hdb : (x == ("__debug__" : Str)) = false := by decide)
    (hpl : ((backTo pos (starEach [] X.env)).any (·.1) || (backToKw pos (keywordEach kws X.env)).any (·.1.isNone)) = false := by rfl) :
    PE X (.Call (.Name x p) [] kws pos) (fun σ H Q => tk σ H fun zs H2 => zs.length = ks.length ∧ sp (gV [] zs) H2 Q E) := by
  refine ⟨fun pins s σ H Q I h => ?_⟩
  refine wpAny_Call_Name_kw (ld_glob I hg hm ?_ hdb)
  refine PySem.W.callWith_KW0 (h₀ := X.base) I.ok.mod.kin hk hall (thn (hkw.run pos pins s σ H _ I h) fun ws s2 ⟨zs, H2, I2, rz, l2, q2⟩ => ⟨I2.kIn, ?_⟩) hpl
  rw [hks]
  exact run_fnN F hr hb hx I2 .nil rz rfl l2 q2
end
end KK

set_option Elab.async false
set_option linter.all false
set_option maxRecDepth 100000
set_option maxHeartbeats 4000000
/-! t[::-1] of a tuple, t * k of any tuple, t != (). -/
namespace KT
open PySem PySem.Spec PyProof.Rows L2 HT
section
variable {prog : Program} {w : World} {A : Around} {E : Value → Shared → Prop} {s : Shared}
theorem adjust_rev (n : Nat) : Builtin.Slice.sliceAdjust none none (-1) (n : Int) = ((n : Int) - 1, -1) := by
  unfold Builtin.Slice.sliceAdjust
  have h1 : ((-1 : Int) < 0) := by omega
  simp only [h1, if_true]
theorem places_rev (n : Nat) : Builtin.Slice.slicePlaces ((n : Int) - 1) (-1) (-1) = n := by
  unfold Builtin.Slice.slicePlaces
  have h1 : ¬ ((-1 : Int) > 0) := by omega
  simp only [h1, if_false]
  rw [show (- -1 : Int) = 1 by decide, Int.ediv_one]
  split <;> omega
theorem fm_congr {α β : Type} {f g : α → Option β} : ∀ {l : List α}, (∀ x ∈ l, f x = g x) → l.filterMap f = l.filterMap g
  | [], _ => rfl
  | x :: r, h => by
    rw [List.filterMap_cons, List.filterMap_cons, h x (List.mem_cons_self ..), fm_congr fun y hy => h y (List.mem_cons_of_mem _ hy)]
theorem pick_rev (xs : Array Value) : ((List.range xs.size).filterMap fun (k : Nat) => xs[(((xs.size : Nat) : Int) - 1 + (k : Int) * (-1)).toNat]?).toArray = xs.toList.reverse.toArray := by
  have e : ((List.range xs.size).filterMap fun (k : Nat) => xs[(((xs.size : Nat) : Int) - 1 + (k : Int) * (-1)).toNat]?) = ((List.range xs.size).map fun k => xs.size - 1 - k).filterMap (xs[·]?) := by
    rw [List.filterMap_map]
    refine fm_congr fun k hk => ?_
    have := List.mem_range.mp hk
    have e1 : (((xs.size : Nat) : Int) - 1 + (k : Int) * (-1)).toNat = xs.size - 1 - k := by omega
    rw [e1]
    rfl
  rw [e, PySem.W.krv_range, List.filterMap_reverse, PySem.W.krv_all]
theorem sliceApplied_rev {sl : Addr} {vl vu vs : Value} {n : Nat} {Q : Int × Int × Nat → Shared → Prop} (hs : s.heap.IsSliceOf sl vl vu vs) (pl : IsPart vl none) (pu : IsPart vu none) (ps : IsPart vs (some (-1)))
    (h : Q ((n : Int) - 1, -1, n) s) : wpAny (model prog w) A (Builtin.Slice.sliceApplied (.ref sl) (pure (n : Int))) Q E s := by
  obtain ⟨os, hos, hcs, hds⟩ := id hs
  unfold Builtin.Slice.sliceApplied Builtin.Slice.sliceFields
  refine wpAny_bind (wpAny_bind (wpAny_field hos hds (x := vl) rfl (wpAny_bind (wpAny_field hos hds (x := vu) rfl (wpAny_bind (wpAny_field hos hds (x := vs) rfl (wpAny_pure ?_)))))))
  refine wpAny_bind (slicePart_ ps ?_)
  show wpAny _ _ (if ((-1 : Int) == 0) = true then _ else _) _ _ s
  rw [if_neg (by decide)]
  refine wpAny_bind (slicePart_ pl (wpAny_bind (slicePart_ pu (wpAny_bind (wpAny_pure ?_)))))
  show wpAny _ _ (match Builtin.Slice.sliceAdjust none none (-1) (n : Int) with | (lo, hi) => pure (lo, (-1 : Int), Builtin.Slice.slicePlaces lo hi (-1))) _ _ s
  rw [adjust_rev n]
  show wpAny _ _ (pure ((n : Int) - 1, (-1 : Int), Builtin.Slice.slicePlaces ((n : Int) - 1) (-1) (-1))) _ _ s
  rw [places_rev]
  exact wpAny_pure h
theorem getItem_tuple_rev {t sl : Addr} {items : Array Value} {vl vu vs : Value} {Q : Value → Shared → Prop} (ht : IsTup s.heap t items) (hs : s.heap.IsSliceOf sl vl vu vs) (pl : IsPart vl none) (pu : IsPart vu none) (ps : IsPart vs (some (-1)))
    (h : Q (.ref s.heap.objs.size) { s with heap := s.heap.push { cls := .type "tuple", data := .seq items.toList.reverse.toArray } }) (hsz : items.size ≤ sizeLine) : wpAny (model prog w) A (getItem (.ref t) (.ref sl)) Q E s := by
  have htake : sizeOk (.seq items.toList.reverse.toArray) := by
    show items.toList.reverse.toArray.size ≤ sizeLine
    rw [List.size_toArray, List.length_reverse, Array.length_toList]
    exact hsz
  obtain ⟨os, hos, hcs, hds⟩ := id hs
  have hTs : s.TypeIs (.ref sl) "slice" := ⟨os, hos, hcs⟩
  unfold getItem
  try with_reducible refine wpAny_holding ?_
  first | refine wpAny_bind (wpAny_pure ?_) | skip
  refine wpAny_bind (wpAny_sequenceKey ht.typeIs (by decide) ?_)
  refine wpAny_bind (wpAny_callSpecial?_slot (name := Str.ofString "__getitem__") ht.typeIs PyProof.Rows.slot_tuple_getitem
    (wpAny_call_entry PyProof.Rows.slot_tuple_getitem ht.typeIs entry_tuple_getitem ?_ (args_tuple_getitem _ _)))
  show wpAny _ _ (Builtin.Tuple.tupleItemsOf (.ref t) >>= _) _ _ s
  refine wpAny_bind (tupleItemsOf_ ht ?_)
  refine wpAny_bind (wpAny_typeOf hTs ?_)
  rw [if_pos (by decide)]
  refine wpAny_bind (sliceApplied_rev hs pl pu ps ?_)
  show wpAny _ _ (if ((((items.size : Nat) : Int) - 1) == 0 && (-1 : Int) == 1 && items.size == items.size) = true then _ else _) _ _ s
  have hno : ¬ (((((items.size : Nat) : Int) - 1) == 0 && (-1 : Int) == 1 && items.size == items.size) = true) := by
    rw [show ((-1 : Int) == 1) = false by decide, Bool.and_false, Bool.false_and]
    exact Bool.false_ne_true
  rw [if_neg hno, pick_rev]
  first
    | exact wpAny_bind (m := Builtin.Tuple.tupleExact _) (wpAny_newObj_type (wpAny_pure ⟨_, rfl, wpAny_pure h⟩) htake)
    | exact wpAny_bind (m := Builtin.Tuple.tupleExact _) (wpAny_newObj_type (wpAny_bind (wpAny_pure (wpAny_pure ⟨_, rfl, wpAny_pure h⟩))) htake)
    | exact wpAny_bind (wpAny_bind (m := Builtin.Tuple.tupleExact _) (wpAny_newObj_type (wpAny_pure (wpAny_pure ⟨_, rfl, wpAny_pure h⟩)) htake))
    | exact wpAny_bind (wpAny_bind (m := Builtin.Tuple.tupleExact _) (wpAny_newObj_type (wpAny_pure ⟨_, rfl, wpAny_pure h⟩) htake))
section
variable {X : Cx}
theorem op_ne_unit (hu : X.A.units < cLine) : OpR X (compareOp .NotEq) (fun x y H Q => ∃ a b xs, x = .ref a ∧ y = .ref b ∧ SqT X.K H a xs ∧ SqT X.K H b [] ∧ Q (.bl (!xs.isEmpty)) H) := by
  intro pins s σ H x y v u Q I rx ry h
  obtain ⟨a, b, xs, rfl, rfl, ha, hb, q⟩ := h
  cases rx
  cases ry
  obtain ⟨its, r1, p1, _⟩ := I.tuple ha
  obtain ⟨its2, r2, p2, _⟩ := I.tuple hb
  cases r2
  have hx : (!((List.range (min its.toArray.size ([] : List Value).toArray.size)).all (fun _ => true) && its.toArray.size == ([] : List Value).toArray.size)) = !xs.isEmpty := by
    have hl := r1.length
    rw [List.size_toArray, ← hl]
    cases xs with
    | nil => rfl
    | cons x r => simp
  have := SeqAt.RcNeAt.tuples (e := fun _ => true) p1 p2 hu (fun j j1 j2 => absurd j2 (Nat.not_lt_zero _))
  refine this _ _ _ _ ?_
  rw [hx]
  exact ⟨.bl _, H, I, rfl, q⟩
def tRevT (K : PySem.W.Frag) (te : TE) : TE := fun σ H Q => te σ H fun x H1 => ∃ a xs, x = .ref a ∧ SqT K H1 a xs ∧ ∀ p, H1 p = none → Q (.ref p) (upd H1 p (.tup xs.reverse))
theorem pe_revT {e : Expr} {te : TE} {k : Nat} {p1 p2 p3 pos : Pos} (he : PE X e te) : PE X (.Subscript e (.Slice none none (some (.UnaryOp .USub (.Constant (.int 1) k p1) p2)) p3) pos) (tRevT X.K te) := by
  refine ⟨fun pins s σ H Q I h => ?_⟩
  refine Subscript_ (thn (he.run pins s σ H _ I h) fun v s1 ⟨x, H1, I1, r1, q1⟩ => ?_)
  obtain ⟨a, xs, ex, hx, q⟩ := q1
  subst ex
  cases r1
  have hst : PO X (some (.UnaryOp .USub (.Constant (.int 1) k p1) p2)) (tPart (tUn (rU fun i => .int (-i)) (tC (.int 1)))) := po_some (pe_un un_neg pe_int)
  refine wpAny_Slice (thn (po_none.run pins s1 σ H1 (fun o H2 => o = none ∧ H2 = H1) I1 ⟨rfl, rfl⟩) fun vl s2 ⟨l, H2, I2, pl, el, e2⟩ => ?_)
  subst el e2
  refine thn (po_none.run pins s2 σ H2 (fun o H3 => o = none ∧ H3 = H2) I2 ⟨rfl, rfl⟩) fun vu s3 ⟨u, H3, I3, pu, eu, e3⟩ => ?_
  subst eu e3
  refine thn (hst.run pins s3 σ H3 (fun o H4 => o = some (-1) ∧ H4 = H3) I3 ⟨1, rfl, -1, rfl, rfl, rfl⟩) fun vs s4 ⟨o, H4, I4, ps, eo, e4⟩ => ?_
  subst eo e4
  have I5 : Inv X pins σ H4 { s4 with heap := s4.heap.push { cls := .type "slice", data := .fields #[vl, vu, vs] } } := I4.kept (t' := s4.toks) fun b ob q => Heap.get?_push_of_some _ q
  obtain ⟨its, r, ht, hz⟩ := I5.tuple hx
  have hlen := r.length
  show wpAny (model X.prog X.w) X.A (subscriptTail e (.Slice none none (some (.UnaryOp .USub (.Constant (.int 1) k p1) p2)) p3) (.ref a) (.ref s4.heap.objs.size)) (EP X pins σ Q) X.xe { s4 with heap := s4.heap.push { cls := .type "slice", data := .fields #[vl, vu, vs] } }
  refine tail_any (ops := [.ref a, .ref s4.heap.objs.size]) ht.typeIs (PyProof.Rows.slot_tuple_getitem.lookup) ?_ (by with_unfolding_all rfl)
  refine getItem_tuple_rev ht (Heap.IsSliceOf.new _ vl vu vs) pl pu ps ?_ (by rw [List.size_toArray]; omega)
  refine ⟨.ref _, _, I5.laid (t' := s4.toks) (o := .tup xs.reverse) (fun b ob q => Heap.get?_push_of_some _ q) (Nat.le_refl _) ?_, rfl, q _ (I5.hok.fresh (Nat.le_refl _))⟩
  exact ⟨by rw [List.length_reverse]; exact hz, _, r.reverse, IsTup.new _ _⟩
theorem tuple_mul0 (l : Addr) (n : Nat) (dd : Option Addr) (sl : Array (Option Value)) (x : Int) (u : Tok) (c0 : (decide (x < -(2 ^ 63)) || decide (x ≥ 2 ^ 63)) = false) :
    Meets (Builtin.«tuple.__mul__» ⟨[.ref l, .int x u], []⟩) (fun _ R s => s.heap.get? l = some { cls := .type "tuple", dict := dd, data := .seq #[] n, slots := sl } ∧ R (.ok (.ret (Value.ref l))) s) :=
  .of_wp fun prog w A R s h => by
    obtain ⟨hp, g, d, tk, os⟩ := s
    obtain ⟨hl, h⟩ := h
    have f1 := AutoSeq1.idx_int
    wp_walk using wpAny_loadPart' hl
    repeat (first
      | (refine wpAny_ite_false (decide_eq_false (by rw [c0]; exact Bool.false_ne_true)) ?_; wp_walk using wpAny_loadPart' hl))
    exact ⟨_, rfl, h⟩
def rRepA (K : PySem.W.Frag) : R2 := fun x y H Q => ∃ l k xs, x = .ref l ∧ y = .int k ∧ SqT K H l xs ∧ 2 ≤ k ∧ k ≤ 1000 ∧ xs.length ≤ 1000 ∧ (xs = [] → Q (.ref l) H) ∧ (xs ≠ [] → ∀ p, H p = none → Q (.ref p) (upd H p (.tup (List.replicate k.toNat xs).flatten)))
theorem op_repA : OpR X (binaryOp .Mult) (rRepA X.K) := by
  intro pins s σ H x y v u Q I rx ry h
  obtain ⟨l, k, xs, rfl, rfl, hT, h1, h2, hz, q0, q1⟩ := h
  by_cases hx : xs = []
  · subst hx
    cases rx
    obtain ⟨t, rfl⟩ := ry
    obtain ⟨its, r, ⟨⟨cls, dd, data, sl⟩, ho, hc, n, hd⟩, hs⟩ := I.tuple hT
    simp only at hc hd
    subst hc hd
    cases r
    have c0 : (decide (k < -(2 ^ 63)) || decide (k ≥ 2 ^ 63)) = false := by
      rw [decide_eq_false (by omega), decide_eq_false (by omega)] <;> rfl
    refine wpAny_binaryOp_repeat_ref (T := "tuple") (U := "int") (by decide) ⟨_, ho, rfl⟩ (fun s' => typeIs_int s' k t) noFill_tuple_mul F.fills_int_mul F.slot_int_rmul repeat_tuple F.slot_int_index.lookup
      (call_meets F.slot_int_rmul (typeIs_int s k t) F.entry_int_rmul (F.args_int_rmul_2 _ _) (int_rmul_tuple k t l ([] : List Value).toArray n dd sl)
        ⟨ho, rfl, ⟨_, ho, rfl⟩, call_meets F.slot_tuple_mul ⟨_, ho, rfl⟩ F.entry_tuple_mul (F.args_tuple_mul_2 _ _) (tuple_mul0 l n dd sl k t c0) ⟨ho, ?_⟩⟩)
    exact ⟨.ref l, H, I, rfl, q0 rfl⟩
  · exact op_repT pins s σ H _ _ v u Q I rx ry ⟨l, k, xs, rfl, rfl, hT, hx, h1, h2, hz, q1 hx⟩
end
end
end KT

set_option Elab.async false
set_option linter.all false
set_option maxRecDepth 100000
set_option maxHeartbeats 4000000
namespace LW
open PySem PySem.Spec PyProof.Rows L2
/-! a tuple of at most one thing twice; a whole number or a truth and a whole number -/
section
variable {X : Cx}
def nB (b : Bool) : Int := if b = true then 1 else 0
def rAddB : R2 := fun x y H Q => ∃ j, y = .int j ∧ ((∃ i, x = .int i ∧ Q (.int (i + j)) H) ∨ ∃ b, x = .bl b ∧ Q (.int (nB b + j)) H)
theorem op_addB : OpR X (binaryOp .Add) rAddB := by
  intro pins s σ H x y v u Q I rx ry h
  obtain ⟨j, rfl, h⟩ := h
  rcases h with ⟨i, rfl, q⟩ | ⟨b, rfl, q⟩
  · exact op_add pins s σ H _ _ v u Q I rx ry ⟨i, j, rfl, rfl, q⟩
  · obtain ⟨t, rfl⟩ := ry
    cases rx
    exact PySem.IntBool.add_bool_int ⟨.int (nB b + j), H, I.tok _, ⟨_, rfl⟩, q⟩
end
end LW

set_option Elab.async false
set_option linter.all false
set_option maxRecDepth 100000
set_option maxHeartbeats 4000000
namespace LW
open PySem PySem.Spec PyProof.Rows L2
/-! a tuple of at most one thing twice; a whole number or a truth and a whole number -/
section
variable {X : Cx}
def rTwice (K : PySem.W.Frag) : R2 := fun x y H Q => ∃ l k xs, x = .ref l ∧ y = .int k ∧ k = 2 ∧ Tu H l xs ∧ xs.length ≤ 1 ∧ ∀ p H', Same H H' → (p = l ∨ H p = none) → Tu H' p (xs ++ xs) → Q (.ref p) H'
theorem twice_tup {pins : List (Addr × Obj)} {σ : L2.St} {s : Shared} {H : Hp} {l : Addr} {k : Int} {t : Tok} {x1 : V} {Q : VK} (I : Inv X pins σ H s) (hk : k = 2) (hT : SqT X.K H l [x1]) (q : ∀ p H', Same H H' → H p = none → Tu H' p [x1, x1] → Q (.ref p) H') :
    wpAny (model X.prog X.w) X.A (binaryOp .Mult (.ref l) (.int k t)) (EP X pins σ Q) X.xe s := by
  obtain ⟨its, r, ⟨⟨cls, dd, data, sl⟩, ho, hc, n, hd⟩, hs⟩ := I.tuple hT
  simp only at hc hd
  subst hc hd
  have hle : its.length = 1 := r.length.symm
  obtain ⟨i1, rfl, r1⟩ := vals1 r
  generalize hits : [i1] = its at ho hs hle
  have hem : its.toArray.isEmpty = false := by rw [← hits]; rfl
  have hsz0 : its.toArray.size = 1 := by rw [List.size_toArray, hle]
  have far : (decide (k < -(2 ^ 63)) || decide (k ≥ 2 ^ 63)) = false := by
    rw [decide_eq_false (by omega), decide_eq_false (by omega)]; rfl
  have d1 : (its.toArray.isEmpty || k == 1) = false := by
    rw [hem, Bool.false_or]; exact beq_eq_false_iff_ne.mpr (by omega)
  have d2 : (decide (k ≤ 0) || its.toArray.isEmpty) = false := by
    rw [hem, Bool.or_false]; exact decide_eq_false (by omega)
  have one : ((its.toArray.size : Nat) : Int) * k = 2 := by rw [hsz0, hk]; rfl
  have d3 : ¬ ((its.toArray.size : Nat) : Int) * k > (2 ^ 63 - 1) / 8 := by rw [one]; omega
  have d4 : Builtin.Tuple.tupleTooMany (((its.toArray.size : Nat) : Int) * k) = false := by
    rw [one]
    unfold Builtin.Tuple.tupleTooMany
    rw [sizeLine_eq]
    exact decide_eq_false (by omega)
  have two : (List.foldl (fun x1 x2 => x1 ++ x2) #[] (List.replicate k.toNat its.toArray)) = [i1, i1].toArray := by
    rw [size_rep, ← hits, show k.toNat = 2 by omega]; rfl
  have d5 : (List.foldl (fun x1 x2 => x1 ++ x2) #[] (List.replicate k.toNat its.toArray)).size ≤ sizeLine := by
    have e : [i1, i1].toArray.size = 2 := rfl
    rw [two, e, sizeLine_eq]; omega
  have w := tuple_mulW l its.toArray n dd sl k t far d1 d2 d3 d4 d5
  refine wpAny_binaryOp_repeat_ref (T := "tuple") (U := "int") (by decide) ⟨_, ho, rfl⟩
    (fun s' => typeIs_int s' k t)
    noFill_tuple_mul F.fills_int_mul
    F.slot_int_rmul repeat_tuple
    F.slot_int_index.lookup ?_
  refine call_meets F.slot_int_rmul (typeIs_int s k t)
    F.entry_int_rmul (F.args_int_rmul_2 _ _)
    (int_rmul_tuple k t l its.toArray n dd sl) ⟨ho, rfl, ⟨_, ho, rfl⟩, ?_⟩
  refine call_meets F.slot_tuple_mul ⟨_, ho, rfl⟩
    F.entry_tuple_mul (F.args_tuple_mul_2 _ _)
    w ⟨ho, ?_⟩
  rw [two]
  obtain ⟨H', I2, e, nw, tu⟩ := tu_laid (n := 0) I (xs := [x1, x1]) (its := [i1, i1]) (le_size (by show 2 ≤ 5000; decide)) (.cons r1 (.cons r1 .nil))
  exact ⟨.ref s.heap.objs.size, H', I2, rfl, q _ _ e nw tu⟩
theorem op_twice : OpR X (binaryOp .Mult) (rTwice X.K) := by
  intro pins s σ H x y v u Q I rx ry h
  obtain ⟨l, k, xs, rfl, rfl, hk, hT, hz, q⟩ := h
  have k2 : 2 ≤ k := by omega
  have k3 : k ≤ 1000 := by omega
  cases xs with
  | nil =>
    have hT' : SqT X.K H l [] := hT.sq
    have q0 : Q (.ref l) H := q l H (Same.refl _) (.inl rfl) hT
    exact KT.op_repA pins s σ H _ _ v u Q I rx ry ⟨l, k, [], rfl, rfl, hT', k2, k3, Nat.zero_le _, fun _ => q0, fun z => absurd rfl z⟩
  | cons x1 r =>
    cases r with
    | nil =>
      cases rx
      obtain ⟨t, rfl⟩ := ry
      exact twice_tup I hk hT.sq fun p H' s n tu => q p H' s (.inr n) tu
    | cons x2 r => exact absurd hz (by rw [List.length_cons, List.length_cons]; omega)
end
end LW

set_option Elab.async false
set_option linter.all false
set_option maxRecDepth 100000
set_option maxHeartbeats 4000000
/-! t[::-1] and (x,) * 1, (x,) * 2, the new tuple's own object told -/
namespace LW
open PySem PySem.Spec PyProof.Rows L2
section
variable {X : Cx}
def tRevF (te : TE) : TE := fun σ H Q => te σ H fun x H1 => ∃ a xs, x = .ref a ∧ Tu H1 a xs ∧ NewT xs.reverse Q H1
theorem pe_revF {e : Expr} {te : TE} {k : Nat} {p1 p2 p3 pos : Pos} (he : PE X e te) : PE X (.Subscript e (.Slice none none (some (.UnaryOp .USub (.Constant (.int 1) k p1) p2)) p3) pos) (tRevF te) := by
  refine ⟨fun pins s σ H Q I h => ?_⟩
  refine Subscript_ (thn (he.run pins s σ H _ I h) fun v s1 ⟨x, H1, I1, r1, q1⟩ => ?_)
  obtain ⟨a, xs, ex, hx, q⟩ := q1
  subst ex
  cases r1
  have hst : PO X (some (.UnaryOp .USub (.Constant (.int 1) k p1) p2)) (tPart (tUn (rU fun i => .int (-i)) (tC (.int 1)))) := po_some (pe_un un_neg pe_int)
  refine wpAny_Slice (thn (po_none.run pins s1 σ H1 (fun o H2 => o = none ∧ H2 = H1) I1 ⟨rfl, rfl⟩) fun vl s2 ⟨l, H2, I2, pl, el, e2⟩ => ?_)
  subst el e2
  refine thn (po_none.run pins s2 σ H2 (fun o H3 => o = none ∧ H3 = H2) I2 ⟨rfl, rfl⟩) fun vu s3 ⟨u, H3, I3, pu, eu, e3⟩ => ?_
  subst eu e3
  refine thn (hst.run pins s3 σ H3 (fun o H4 => o = some (-1) ∧ H4 = H3) I3 ⟨1, rfl, -1, rfl, rfl, rfl⟩) fun vs s4 ⟨o, H4, I4, ps, eo, e4⟩ => ?_
  subst eo e4
  have I5 : Inv X pins σ H4 { s4 with heap := s4.heap.push { cls := .type "slice", data := .fields #[vl, vu, vs] } } := I4.kept (t' := s4.toks) fun b ob q => Heap.get?_push_of_some _ q
  obtain ⟨its, r, ht, hz⟩ := I5.tuple (hx.sq (K := X.K))
  have hlen := r.length
  show wpAny (model X.prog X.w) X.A (subscriptTail e (.Slice none none (some (.UnaryOp .USub (.Constant (.int 1) k p1) p2)) p3) (.ref a) (.ref s4.heap.objs.size)) (EP X pins σ Q) X.xe { s4 with heap := s4.heap.push { cls := .type "slice", data := .fields #[vl, vu, vs] } }
  refine tail_any (ops := [.ref a, .ref s4.heap.objs.size]) ht.typeIs (PyProof.Rows.slot_tuple_getitem.lookup) ?_ (by with_unfolding_all rfl)
  refine KT.getItem_tuple_rev ht (Heap.IsSliceOf.new _ vl vu vs) pl pu ps ?_ (by rw [List.size_toArray]; omega)
  obtain ⟨H', I6, e, n, tu⟩ := tu_laid (n := 0) I5 (xs := xs.reverse) (its := its.reverse) (by rw [List.length_reverse]; exact hz) r.reverse
  exact ⟨.ref _, H', by simpa using I6, rfl, q _ _ e n tu⟩
theorem tuple_mul1 (l : Addr) (items : Array Value) (n : Nat) (dd : Option Addr) (sl : Array (Option Value)) (u : Tok) :
    Meets (Builtin.«tuple.__mul__» ⟨[.ref l, .int 1 u], []⟩) (fun _ R s => s.heap.get? l = some { cls := .type "tuple", dict := dd, data := .seq items n, slots := sl } ∧ R (.ok (.ret (Value.ref l))) s) :=
  .of_wp fun prog w A R s h => by
    obtain ⟨hp, g, d, tk, os⟩ := s
    obtain ⟨hl, h⟩ := h
    have f1 := AutoSeq1.idx_int
    have c1 : (items.isEmpty || (1 : Int) == 1) = true := by rw [show ((1 : Int) == 1) = true by decide, Bool.or_true]
    wp_walk using wpAny_loadPart' hl
    exact ⟨_, rfl, h⟩
/-- one thing k times, k one or two -/
def rRep12 : R2 := fun x y H Q => ∃ (l : Addr) (k : Nat) (z : V), x = .ref l ∧ y = .int (k : Nat) ∧ 1 ≤ k ∧ k ≤ 2 ∧ Tu H l [z] ∧ ∀ p H', Same H H' → (p = l ∨ H p = none) → Tu H' p (List.replicate k z) → Q (.ref p) H'
theorem op_rep12 : OpR X (binaryOp .Mult) rRep12 := by
  intro pins s σ H x y v u Q I rx ry h
  obtain ⟨l, k, z, rfl, rfl, h1, h2, hT, q⟩ := h
  by_cases hk : k = 2
  · subst hk
    cases rx
    obtain ⟨t, rfl⟩ := ry
    exact twice_tup I rfl hT.sq fun p H' s n tu => q p H' s (.inr n) tu
  · have hk1 : k = 1 := by omega
    subst hk1
    have q0 := q l H (Same.refl _) (.inl rfl) hT
    cases rx
    obtain ⟨t, rfl⟩ := ry
    obtain ⟨its, r, ⟨⟨cls, dd, data, sl⟩, ho, hc, n, hd⟩, hs⟩ := I.tuple (hT.sq (K := X.K))
    simp only at hc hd
    subst hc hd
    refine wpAny_binaryOp_repeat_ref (T := "tuple") (U := "int") (by decide) ⟨_, ho, rfl⟩ (fun s' => typeIs_int s' _ t) noFill_tuple_mul F.fills_int_mul F.slot_int_rmul repeat_tuple F.slot_int_index.lookup
      (call_meets F.slot_int_rmul (typeIs_int s _ t) F.entry_int_rmul (F.args_int_rmul_2 _ _) (int_rmul_tuple _ t l its.toArray n dd sl)
        ⟨ho, rfl, ⟨_, ho, rfl⟩, call_meets F.slot_tuple_mul ⟨_, ho, rfl⟩ F.entry_tuple_mul (F.args_tuple_mul_2 _ _) (tuple_mul1 l its.toArray n dd sl t) ⟨ho, ?_⟩⟩)
    exact ⟨.ref l, H, I, rfl, q0⟩
end
end LW

set_option Elab.async false
set_option linter.all false
set_option maxRecDepth 100000
set_option maxHeartbeats 4000000
/-! a text times a number -/
namespace KW
open PySem PySem.Spec PyProof.Rows L2
section
variable {X : Cx}
def mulS (z : Str) (k : Int) : Str := if k < 1 then Str.empty else if (k == 1 || z.length == 0) = true then z else ⟨(List.replicate k.toNat z.cps).foldl (· ++ ·) #[]⟩
theorem op_mul_str : OpR X (binaryOp .Mult) (fun x y H Q => ∃ z k, x = .str z ∧ y = .int k ∧ 0 ≤ k ∧ k ≤ 1000 ∧ z.length ≤ 1000 ∧ (mulS z k).length ≤ sizeLine ∧ Q (.str (mulS z k)) H) := by
  intro pins s σ H x y v u Q I rx ry h
  obtain ⟨z, k, rfl, rfl, h0, h1, hz, hl, q⟩ := h
  obtain ⟨t, rfl⟩ := rx
  obtain ⟨t', rfl⟩ := ry
  have hm : z.length * k.toNat ≤ 1000 * 1000 := Nat.mul_le_mul hz (by omega)
  refine P.mul_str (by rw [decide_eq_false (by omega), decide_eq_false (by omega)]; rfl) (fun k1 _ => ?_) (fun _ _ => ?_) ?_
  · have : (1000 : Int) ≤ (2 ^ 63 - 1) / k := by
      rw [Int.le_ediv_iff_mul_le (by omega)]
      omega
    omega
  · unfold Builtin.Str.tooLong
    simp only [sizeLine_eq] at *
    simp
    omega
  · unfold mulS at q hl
    revert q hl
    split
    · exact fun hl q => ⟨hl, .str _, H, I.tok _, ⟨_, rfl⟩, q⟩
    · split
      · exact fun hl q => ⟨.str _, H, I.tok _, ⟨_, rfl⟩, q⟩
      · exact fun hl q => ⟨hl, .str _, H, I.tok _, ⟨_, rfl⟩, q⟩
end
end KW

set_option Elab.async false
set_option linter.all false
set_option maxRecDepth 100000
set_option maxHeartbeats 1000000
/-! repr of a truth value; list + list, where either may be the script. -/
namespace KB
open PySem PySem.Spec PyProof.Rows L2
section
variable {X : Cx}
theorem call_repr_bl : CallR X (.builtin "repr") (fun xs H Q => ∃ b : Bool, xs = [.bl b] ∧ Q (.str (if b then "True" else "False")) H) := by
  intro pins s σ H xs us Q I r h
  obtain ⟨b, rfl, q⟩ := h
  obtain ⟨u, rfl, rx⟩ := vals1 r
  cases (show u = Value.bool b from rx)
  exact PySem.P.repr_of_bool ⟨.str _, H, I.tok _, ⟨_, rfl⟩, q⟩
theorem op_catF : OpR X (binaryOp .Add) (fun x y H Q => ∃ a b xs ys, x = .ref a ∧ y = .ref b ∧ SqL X.K H a xs ∧ SqL X.K H b ys ∧ xs.length + ys.length ≤ sizeLine ∧ ∀ p, H p = none → Q (.ref p) (upd H p (.lst (xs ++ ys)))) := by
  intro pins s σ H x y v u Q I rx ry h
  obtain ⟨a, b, xs, ys, rfl, rfl, ha, hb, hz, q⟩ := h
  cases rx
  cases ry
  obtain ⟨vs, r, pl, _⟩ := I.list ha
  obtain ⟨ws, r2, pl2, _⟩ := I.list hb
  have hl : s.heap.IsList a vs.toArray := pl.isList
  have hb2 : s.heap.IsList b ws.toArray := pl2.isList
  obtain ⟨⟨cls, dd, data, sl⟩, ho, hc, n, hd⟩ := id hl
  obtain ⟨⟨cls2, dd2, data2, sl2⟩, ho2, hc2, n2, hd2⟩ := id hb2
  simp only at hc hd hc2 hd2
  subst hc hd hc2 hd2
  have e : vs.toArray ++ ws.toArray = (vs ++ ws).toArray := by simp
  have l1 := r.length
  have l2 := r2.length
  refine concat_meets ⟨_, ho, rfl⟩ ⟨_, ho2, rfl⟩ noFill_list_add seq_list_add PySem.F.slot_list_add PySem.F.entry_list_add (PySem.F.args_list_add_2 _ _) (list_addW a b vs.toArray ws.toArray n n2 dd dd2 sl sl2 (by rw [List.size_toArray, List.size_toArray]; omega)) ⟨ho, ho2, ?_⟩
  rw [e]
  refine ⟨.ref s.heap.objs.size, upd H s.heap.objs.size (.lst (xs ++ ys)), I.laid (t' := s.toks) (fun b u e => Heap.get?_push_of_some _ e) (Nat.le_refl _) ?_, rfl, q _ (I.hok.fresh (Nat.le_refl _))⟩
  exact ⟨by rw [List.length_append]; exact hz, vs ++ ws, 0, r.append r2, Heap.get?_push_size _ rfl⟩
end
end KB

set_option Elab.async false
set_option linter.all false
set_option maxRecDepth 100000
set_option maxHeartbeats 4000000
namespace KW
open PySem PySem.Spec PyProof.Rows L2
section
variable {X : Cx}
theorem op_catFS : OpR X (binaryOp .Add) (fun x y H Q => ∃ a b xs ys, x = .ref a ∧ y = .ref b ∧ SqL X.K H a xs ∧ SqL X.K H b ys ∧ xs.length + ys.length ≤ 5000 ∧ New (.lst (xs ++ ys)) Q H) :=
  OpR.weak KB.op_catF fun x y H Q ⟨a, b, xs, ys, e1, e2, h1, h2, hz, q⟩ => ⟨a, b, xs, ys, e1, e2, h1, h2, le_size hz, fun p n => q.at n⟩
theorem SlR.weak {r r' : V → Option Int → Option Int → Hp → VK → Prop} (h : SlR X r) (w : ∀ x lo hi H Q, r' x lo hi H Q → r x lo hi H Q) : SlR X r' := fun pins s σ H x v vl vu lo hi sl Q I rx hs pl pu q => h pins s σ H x v vl vu lo hi sl Q I rx hs pl pu (w x lo hi H Q q)
theorem sl_listS : SlR X (fun x lo hi H Q => ∃ a xs, x = .ref a ∧ SqL X.K H a xs ∧ New (.lst (cutV xs lo hi)) Q H) := SlR.weak sl_list fun x lo hi H Q ⟨a, xs, e, h, q⟩ => ⟨a, xs, e, h, fun p n => q.at n⟩
end
theorem sqL_same {K : PySem.W.Frag} {H H' : Hp} {a : Addr} {xs : List V} (h : SqL K H a xs) (e : Same H H') : SqL K H' a xs := Same.seq e h
end KW

set_option Elab.async false
set_option linter.all false
set_option maxRecDepth 100000
set_option maxHeartbeats 1000000
/-! xs != [] of a list of anything. -/
namespace KT4
open PySem PySem.Spec PyProof.Rows L2
section
variable {X : Cx}
theorem op_ne_nil (hu : X.A.units < cLine) : OpR X (compareOp .NotEq) (fun x y H Q => ∃ a b xs, x = .ref a ∧ y = .ref b ∧ SqL X.K H a xs ∧ SqL X.K H b [] ∧ Q (.bl (!xs.isEmpty)) H) := by
  intro pins s σ H x y v u Q I rx ry h
  obtain ⟨a, b, xs, rfl, rfl, ha, hb, q⟩ := h
  cases rx
  cases ry
  obtain ⟨its, r1, p1, _⟩ := I.list ha
  obtain ⟨its2, r2, p2, _⟩ := I.list hb
  cases r2
  have hl := r1.length
  cases xs with
  | nil =>
    cases r1
    have := SeqAt.RcNeAt.lists (e := fun _ => true) p1.isList p2.isList rfl hu (fun j j1 j2 => absurd j2 (Nat.not_lt_zero _))
    exact this _ _ _ _ ⟨.bl false, H, I, rfl, q⟩
  | cons x r =>
    have hs : (its.toArray.size != ([] : List Value).toArray.size) = true := by
      rw [List.size_toArray, ← hl]
      simp
    have := SeqAt.RcNeAt.lists_lengths p1.isList p2.isList hs hu
    exact this _ _ _ _ ⟨.bl true, H, I, rfl, q⟩
end
end KT4

set_option Elab.async false
set_option linter.all false
set_option maxRecDepth 100000
set_option maxHeartbeats 8000000
/-! for k, x in enumerate(t), t a tuple. -/
namespace KEn
open PySem PySem.Spec PyProof.Rows L2
open AutoSeq1 (wpAny_loadPart')
theorem new_enumT (t : Addr) (items : Array Value) (n : Nat) (dct : Option Addr) (sl : Array (Option Value)) :
    Meets (Builtin.«enumerate.__new__» ⟨[.type "enumerate", .ref t], []⟩) (fun _ R s => s.heap.get? t = some { cls := .type "tuple", dict := dct, data := .seq items n, slots := sl } ∧
      R (.ok (.ret (.ref (s.heap.push { cls := .type "tuple_iterator", data := .fields #[.ref t, .int 0 0] }).objs.size)))
        { s with heap := (s.heap.push { cls := .type "tuple_iterator", data := .fields #[.ref t, .int 0 0] }).push { cls := .type "enumerate", data := .fields #[.none, .bool false, .ref s.heap.objs.size, rawInt 0, .none, .none] } }) := by
  refine .of_wp (fun prog w A R s h => ?_)
  obtain ⟨hp, g, d, tk, os⟩ := s
  obtain ⟨hl, h⟩ := h
  have subE := sub_enumerate
  have hT : Heap.IsTuple (Shared.heap ⟨hp, g, d, tk, os⟩) t items := ⟨_, hl, rfl, n, rfl⟩
  wp_walk using wpAny_loadPart' hl
  refine wpAny_stack_any (fun st => wpAny_pure ?_)
  split
  · rename_i c _ _ _ _ _
    cases (c == Value.type "enumerate") <;> (wp_walk using wpAny_loadPart' hl, wpAny_pyIter_tuple hT) <;> exact ⟨_, rfl, h⟩
  · (wp_walk using wpAny_loadPart' hl, wpAny_pyIter_tuple hT); exact ⟨_, rfl, h⟩
theorem call_enumT {prog : Program} {w : World} {A : Around} {E : Value → Shared → Prop} {s : Shared} {t : Addr} {items : Array Value} {Q : Value → Shared → Prop} (hT : s.heap.IsTuple t items)
    (h : ∀ h', IsEnum h' (s.heap.objs.size + 1) s.heap.objs.size 0 .none → h'.IsTupleIter s.heap.objs.size t 0 → (∀ b o, s.heap.get? b = some o → h'.get? b = some o) → Q (.ref (s.heap.objs.size + 1)) { s with heap := h' }) :
    wpAny (model prog w) A (call (.type "enumerate") [.ref t]) Q E s := by
  obtain ⟨⟨c, dct, dt, sl⟩, hl, hc, n, hd⟩ := hT
  replace hc : c = .type "tuple" := hc
  replace hd : dt = .seq items n := hd
  subst hc hd
  have one := Heap.size_push s.heap { cls := .type "tuple_iterator", data := .fields #[.ref t, .int 0 0] }
  refine callType_new F.called_enumerate (by decide) (F.typeCall_enumerate_1 _) (F.newCall_enumerate_1 _) (fun obj => F.args_object_init_2 obj _) F.entry_enumerate_new (new_enumT t items n dct sl) ⟨hl, ?_⟩
  have there : IsEnum ((s.heap.push { cls := .type "tuple_iterator", data := .fields #[.ref t, .int 0 0] }).push { cls := .type "enumerate", data := .fields #[.none, .bool false, .ref s.heap.objs.size, rawInt 0, .none, .none] }) (s.heap.objs.size + 1) s.heap.objs.size 0 .none := by
    have q := Heap.get?_push_size (s.heap.push { cls := .type "tuple_iterator", data := .fields #[.ref t, .int 0 0] }) (o := { cls := .type "enumerate", data := .fields #[.none, .bool false, .ref s.heap.objs.size, rawInt 0, .none, .none] }) rfl
    rwa [one] at q
  show _ ∧ _
  rw [one]
  exact ⟨⟨_, there, rfl⟩, h _ there ⟨_, Heap.get?_push_of_some _ (Heap.get?_push_size _ rfl), rfl, rfl⟩ fun b o x => Heap.get?_push_of_some _ (Heap.get?_push_of_some _ x)⟩

/-- the tuple at a, its items numbered, in new pairs -/
def Inum (K : PySem.W.Frag) (a : Addr) : It :=
  ⟨fun i H => ∃ xs x, SqT K H a xs ∧ xs[i]? = some x, fun i H v H' => ∃ T x, v = .ref T ∧ H T = none ∧ H' = upd H T (.tup [.int (i : Nat), x]) ∧ ∀ xs, SqT K H a xs → xs[i]? = some x, fun i H => ∃ xs, SqT K H a xs ∧ xs.length = i⟩
theorem turn_num {P : Program} {w : World} {K : PySem.W.Frag} {elts : List Expr} {kk : Nat} {tpos : Pos} (a e it : Addr) (hne : e ≠ it) (ha1 : a ≠ it) (ha2 : a ≠ e) :
    Turn P w K (.Tuple elts kk tpos) (Inum K a) [e, it] e (fun i h => (∃ old, IsEnum h e it (i : Int) old) ∧ h.IsTupleIter it a i) := by
  have part : ∀ (X : Cx), X.calm = true → X.Ok → ∀ its : Array Value, GoesN P w X.A (.Tuple elts kk tpos) e (e :: [it, a]) [e, it] its.size (fun i h₀ v h => ∃ T t x, v = .ref T ∧ h₀.objs.size ≤ T ∧ its[i]? = some x ∧ h.IsTuple T #[.int ((0 : Int) + (i : Int)) t, x])
      (fun i h => (∃ old, IsEnum h e it ((0 : Int) + (i : Int)) old) ∧ h.IsTupleIter it a i ∧ h.IsTuple a its) := fun X hc ok its =>
    GoesN.enumFrom 0 (Draws.tuple (A := X.A.in1) (ok.hd hc) it a ha1 its) e hne (by simp [hne, ha2.symm]) (by simp)
  refine ⟨by simp, ?_, ?_, ?_, ?_, ?_⟩
  · rintro i h ⟨⟨old, he⟩, ⟨o, ho, hc, hd⟩⟩ b hb
    rcases List.mem_cons.mp hb with rfl | hb
    · exact ⟨_, he, fun v z => by cases z⟩
    · rw [List.mem_singleton.mp hb]
      exact ⟨o, ho, fun v z => by rw [hd] at z; cases z⟩
  · rintro i h h' ⟨⟨old, he⟩, hit⟩ hk
    exact ⟨⟨old, hk e (by simp) _ he⟩, hit.at fun o q => hk it (by simp) o q⟩
  · intro X hP hw hK hc i pins s σ H E I hf st hg
    subst hP hw hK
    obtain ⟨⟨old, he⟩, hit⟩ := st
    obtain ⟨xs, x, hq, hx⟩ := hg
    obtain ⟨its, rv, p, hz⟩ := I.tuple hq
    obtain ⟨u, hu, ru⟩ := rv.get hx
    have hi : i < its.toArray.size := by
      rw [List.size_toArray]; exact (List.getElem?_eq_some_iff.mp hu).1
    have el : e < s.heap.objs.size := Heap.lt_size he
    have il : it < s.heap.objs.size := by obtain ⟨_, q, _⟩ := hit; exact Heap.lt_size q
    refine (part X hc I.ok its.toArray).goes i s _ E hi ⟨⟨old, by rw [Int.zero_add]; exact he⟩, hit, p⟩ ?_
    rintro v h' tk ⟨T, t, y, rfl, hT, hy, tupT⟩ ⟨⟨old', he'⟩, hit', p'⟩ hk htk
    have ey : y = u := by
      have : its.toArray[i]? = some u := by simpa using hu
      rw [this] at hy; cases hy; rfl
    subst ey
    rw [Int.zero_add] at tupT
    have new : ObjOk X.prog X.w (upd H T (.tup [.int (i : Nat), x])) h' T (.tup [.int (i : Nat), x]) := ⟨by show 2 ≤ sizeLine; decide, [.int (i : Nat) t, y], .cons ⟨_, rfl⟩ (.cons ru .nil), tupT⟩
    have I1 : Inv X pins σ (upd H T (.tup [.int (i : Nat), x])) { s with heap := h', toks := tk } := I.turnedNew (ch := [e, it]) hk hf hT new
    refine ⟨.ref T, _, I1, rfl, ⟨T, x, rfl, I.hok.fresh hT, rfl, fun ys hy => by rw [I.tuple_inj hy hq]; exact hx⟩, ⟨⟨old', ?_⟩, hit'⟩, fun b hb => ?_⟩
    · have e1 : (0 : Int) + ((i + 1 : Nat) : Int) = ((i + 1 : Nat) : Int) := Int.zero_add _
      rw [e1] at he'; exact he'
    · have hb' : b < s.heap.objs.size := by
        rcases List.mem_cons.mp hb with z | z
        · rw [z]; exact el
        · rw [List.mem_singleton.mp z]; exact il
      rw [upd_ne (Nat.ne_of_lt (Nat.lt_of_lt_of_le hb' hT))]
      exact (hf b hb).1
  · intro X hP hw hK hc i pins s σ H E I hf st hg
    subst hP hw hK
    obtain ⟨⟨old, he⟩, hit⟩ := st
    obtain ⟨xs, hq, hx⟩ := hg
    obtain ⟨its, rv, p, hz⟩ := I.tuple hq
    have hi : i = its.toArray.size := by
      rw [List.size_toArray, ← rv.length]; exact hx.symm
    subst hi
    exact (part X hc I.ok its.toArray).stops s _ E ⟨⟨old, by rw [Int.zero_add]; exact he⟩, hit, p⟩ fun h' tk hk _ => I.turnedL (ch := [e, it]) hk hf
  · rintro A i s Q E ⟨⟨old, he⟩, hit⟩ h
    exact wpAny_pyIter_enum he h
def iNum (K : PySem.W.Frag) (ta : TA) : TI := fun σ H R => ta σ H fun vs H1 => ∃ a xs, vs = [.ref a] ∧ SqT K H1 a xs ∧ R (Inum K a) H1
theorem pi_num {X : Cx} {e : Expr} {ta : TA} {p pos tpos : Pos} {elts : List Expr} {kk : Nat} (hg : Gl X "enumerate") (hm : X.mg "enumerate" = none) (ha : PA X [e] ta) (hs : starEach [e] X.env = [(false, eval e X.env)] := by rfl) :
    PI X (.Tuple elts kk tpos) (.Call (.Name "enumerate" p) [e] [] pos) (iNum X.K ta) := by
  constructor
  intro pins s σ H R I h
  refine Call_ (ld_blt I hg hm boot_enumerate (PyProof.Rows.callWith_type1 (thn (ha.run pos pins s σ H _ I h) ?_) hs rfl))
  rintro us s1 ⟨vs, H1, I1, r1, a, xs, rfl, hq, q⟩
  obtain ⟨u, rfl, ru⟩ := vals1 r1
  cases (show u = Value.ref a from ru)
  obtain ⟨its, rv, p', hz⟩ := I1.tuple hq
  have la : a < s1.heap.objs.size := p'.lt
  refine call_enumT p' (fun h' he hit hk => wpAny_pyIter_enum he ?_)
  refine ⟨s1.heap.objs.size + 1, [s1.heap.objs.size + 1, s1.heap.objs.size], _, _, H1, rfl, I1.kept (t' := s1.toks) hk, turn_num a (s1.heap.objs.size + 1) s1.heap.objs.size (Nat.succ_ne_self _) (Nat.ne_of_lt la) (Nat.ne_of_lt (Nat.lt_succ_of_lt la)), ⟨⟨.none, he⟩, hit⟩, fun b hb => ?_, q⟩
  have hle : s1.heap.objs.size ≤ b := by
    rcases List.mem_cons.mp hb with z | z
    · rw [z]; exact Nat.le_succ _
    · rw [List.mem_singleton.mp z]; exact Nat.le_refl _
  exact I1.fpOk hle (I1.hok.fresh hle)
/-- the loop: an invariant over the turn -/
theorem for_num {K : PySem.W.Frag} {a : Addr} {xs : List V} {g : TG} {tb : TS} {D : Ends} {σ : L2.St} {H : Hp} (Pv : Nat → L2.St → Hp → Prop) (h0 : Pv 0 σ H) (hl : ∀ i σ H, i ≤ xs.length → Pv i σ H → SqT K H a xs)
    (hs : ∀ i x T σ H, xs[i]? = some x → H T = none → Pv i σ H → g (.ref T) σ (upd H T (.tup [.int (i : Nat), x])) fun σ2 H2 => tb { D with nx := Pv (i + 1), ct := Pv (i + 1), bk := D.nx } σ2 H2) (hd : ∀ σ H, Pv xs.length σ H → D.nx σ H) :
    ∃ W : Nat → Nat → L2.St → Hp → Prop, (∃ m, W 0 m σ H) ∧ ∀ i m σ H, W i m σ H →
      ((Inum K a).stop i H ∧ D.nx σ H) ∨ ((Inum K a).go i H ∧ ∃ N : L2.St → Hp → Prop, (∀ σ' H', N σ' H' → ∃ m', m' < m ∧ W (i + 1) m' σ' H') ∧ ∀ x H', (Inum K a).yld i H x H' → g x σ H' fun σ2 H2 => tb { D with nx := N, ct := N, bk := D.nx } σ2 H2) := by
  refine ⟨fun i m σ H => m = xs.length - i ∧ i ≤ xs.length ∧ Pv i σ H, ⟨_, rfl, Nat.zero_le _, h0⟩, ?_⟩
  rintro i m σ H ⟨rfl, hi, p⟩
  have there := hl i σ H hi p
  rcases Nat.lt_or_ge i xs.length with lt | ge
  · refine .inr ⟨⟨xs, xs[i], there, List.getElem?_eq_getElem lt⟩, Pv (i + 1), fun σ' H' p' => ⟨xs.length - (i + 1), by omega, rfl, lt, p'⟩, ?_⟩
    rintro x H' ⟨T, y, rfl, hT, rfl, hy⟩
    exact hs i y T σ H (hy xs there) hT p
  · have e : i = xs.length := Nat.le_antisymm hi ge
    subst e
    exact .inl ⟨⟨xs, there, rfl⟩, hd σ H p⟩
end KEn

set_option Elab.async false
set_option linter.all false
set_option maxRecDepth 100000
set_option maxHeartbeats 4000000
/-! dicts whose keys are tuples of tuples, texts, numbers, None: get, setdefault, a store, {} -/
namespace KN
open PySem PySem.Spec PyProof.Rows L2 LW
/-! tuples that stay -/
def TuK (H H' : Hp) : Prop := ∀ b (o : Obj) xs, H b = some (.frz o (.tup xs)) → H' b = some (.frz o (.tup xs))
theorem TuK.refl (H : Hp) : TuK H H := fun _ _ _ h => h
theorem TuK.trans {H H1 H2 : Hp} (a : TuK H H1) (b : TuK H1 H2) : TuK H H2 := fun d o xs h => b d o xs (a d o xs h)
theorem TuK.of_same {H H' : Hp} (a : Same H H') : TuK H H' := fun b o xs h => a b _ h
theorem TuK.off {H H' : Hp} {c : Addr} {u : HO} (hc : H c = some u) (hu : ∀ o xs, u ≠ .frz o (.tup xs)) (k : ∀ b o, b ≠ c → H b = some o → H' b = some o) : TuK H H' := fun b o xs h => by
  refine k b _ (fun e => ?_) h
  rw [e, hc] at h
  exact hu o xs (Option.some.inj h)
mutual
theorem key_stays {H H' : Hp} (t : TuK H H') : ∀ {k : NestedKey} {v : V}, Dt H k.data v → Dt H' k.data v
  | .none, _, h => h
  | .num _, _, h => h
  | .text _, _, h => h
  | .tup ks, v, h => by
    obtain ⟨a, xs, rfl, _, ⟨o, h3, h5⟩, h4⟩ := (show Dt H (.tuple (NestedKey.datas ks)) v from h)
    exact (show Dt H' (.tuple (NestedKey.datas ks)) (.ref a) from ⟨a, xs, rfl, trivial, ⟨o, t _ _ _ h3, h5⟩, keys_stay t h4⟩)
theorem keys_stay {H H' : Hp} (t : TuK H H') : ∀ {ks : List NestedKey} {vs : List V}, DtL H (NestedKey.datas ks) vs → DtL H' (NestedKey.datas ks) vs
  | [], _, h => h
  | k :: ks, vs, h => by
    obtain ⟨v, r, rfl, h1, h2⟩ := (show DtL H (k.data :: NestedKey.datas ks) vs from h)
    exact (show DtL H' (k.data :: NestedKey.datas ks) (v :: r) from ⟨v, r, rfl, key_stays t h1, keys_stay t h2⟩)
end
section
variable {X : Cx} {pins : List (Addr × Obj)} {σ : L2.St} {H : Hp} {s : Shared}
mutual
theorem key_is (I : Inv X pins σ H s) : ∀ {k : NestedKey} {v : V} {u : Value}, Dt H k.data v → RelV v u → NestedIs s.heap k u
  | .none, v, u, h, r => by
    cases (show v = V.non from h)
    cases (show u = Value.none from r)
    exact .none
  | .num i, v, u, h, r => by
    cases (show v = V.int i from h)
    obtain ⟨t, rfl⟩ := (show ∃ t, u = Value.int i t from r)
    exact .int i t
  | .text z, v, u, h, r => by
    cases (show v = V.str z from h)
    obtain ⟨t, rfl⟩ := (show ∃ t, u = Value.str z t from r)
    exact .text z t
  | .tup ks, v, u, h, r => by
    obtain ⟨a, xs, rfl, _, ha, hx⟩ := (show Dt H (.tuple (NestedKey.datas ks)) v from h)
    cases (show u = Value.ref a from r)
    obtain ⟨its, rv, ⟨o, ho, hc, n, hd⟩, _⟩ := I.tuple (ha.sq (K := X.K))
    exact .tup ho hc hd (by simpa using keys_are I hx rv)
theorem keys_are (I : Inv X pins σ H s) : ∀ {ks : List NestedKey} {vs : List V} {us : List Value}, DtL H (NestedKey.datas ks) vs → Vals vs us → NestedAll s.heap ks us
  | [], vs, us, h, r => by
    rw [show vs = [] from h] at r
    cases r
    exact .nil
  | k :: ks, vs, us, h, r => by
    obtain ⟨v, vs', rfl, h1, h2⟩ := (show DtL H (k.data :: NestedKey.datas ks) vs from h)
    cases r with
    | cons r1 r2 => exact .cons (key_is I h1 r1) (keys_are I h2 r2)
end
end
/-! the dict at a -/
abbrev Row := NestedKey × Addr × V
abbrev RwR (p : Row) (q : NestedKey × Addr × Value) : Prop := p.1 = q.1 ∧ p.2.1 = q.2.1 ∧ RelV p.2.2 q.2.2
def NdIn (P : Program) (w : World) (a : Addr) (xs : List Row) (h : Heap) : Prop := xs.length ≤ sizeLine ∧ (a == sysModules) = false ∧ ∃ ys, Paired RwR xs ys ∧ ∃ o es ep, h.get? a = some o ∧ o.ExactDict ∧ o.data = .dict es ep ∧ es.toList = ys.map (entryOfKey (nestedKind P w)) ∧ (ys.map (·.1)).Nodup
def NDO (P : Program) (w : World) (a : Addr) (xs : List Row) : HO := .ext (NdIn P w a xs)
theorem ndo_ok {P : Program} {w : World} {H : Hp} {h : Heap} {a : Addr} {xs : List Row} (x : NdIn P w a xs h) : ObjOk P w H h a (NDO P w a xs) := by
  obtain ⟨z, y, ys, r, o, es, ep, e, c⟩ := id x
  refine ⟨x, ⟨o, e⟩, fun h1 h2 q k => ?_⟩
  obtain ⟨z, y, ys, r, o, es, ep, e, c⟩ := q
  exact ⟨z, y, ys, r, o, es, ep, k o e, c⟩
def IsN (P : Program) (w : World) (H : Hp) (a : Addr) : Prop := ∃ xs, H a = some (NDO P w a xs)
/-- the dict at a has these keys and values -/
def ND (P : Program) (w : World) (H : Hp) (a : Addr) (kvs : List (NestedKey × V)) : Prop := ∃ xs : List Row, H a = some (NDO P w a xs) ∧ (∀ x ∈ xs, Dt H x.1.data (.ref x.2.1) ∧ x.1.depth ≤ 8) ∧ kvs = xs.map fun x => (x.1, x.2.2)
section
variable {P : Program} {w : World} {H H' : Hp} {a : Addr} {kvs : List (NestedKey × V)}
theorem ND.isN (h : ND P w H a kvs) : IsN P w H a := let ⟨xs, h1, _⟩ := h; ⟨xs, h1⟩
theorem ND.kp (h : ND P w H a kvs) (t : TuK H H') (e : ∀ o, H a = some o → H' a = some o) : ND P w H' a kvs := by
  obtain ⟨xs, h1, h2, h3⟩ := h
  exact ⟨xs, e _ h1, fun x hx => ⟨key_stays t (h2 x hx).1, (h2 x hx).2⟩, h3⟩
theorem ND.same (h : ND P w H a kvs) (e : Same H H') : ND P w H' a kvs := h.kp (.of_same e) fun o q => e _ _ q
theorem ND.some (h : ND P w H a kvs) : ∃ o, H a = Option.some o := let ⟨xs, h1, _⟩ := h; ⟨_, h1⟩
theorem ND.nt (h : ND P w H a kvs) : ∀ o xs, H a ≠ Option.some (.frz o (.tup xs)) := fun o xs e => by
  obtain ⟨ys, h1, _⟩ := h
  rw [h1] at e
  cases e
theorem ND.tuk (h : ND P w H a kvs) (k : ∀ b o, b ≠ a → H b = Option.some o → H' b = Option.some o) : TuK H H' := by
  obtain ⟨ys, h1, _⟩ := h
  exact .off h1 (fun o xs e => by cases e) k
theorem ND.len (h : ND P w H a kvs) {xs : List Row} (e : H a = Option.some (NDO P w a xs)) : True := trivial
end
/-! rows by key -/
theorem rw_val {xs : List Row} {ys : List (NestedKey × Addr × Value)} (r : Paired RwR xs ys) (k : NestedKey) : RelO (valV (xs.map fun x => (x.1, x.2.2)) k) ((atKey ys k).map (·.2)) := by
  induction r with
  | nil => exact True.intro
  | @cons p q ps qs h t ih =>
    obtain ⟨h1, _, h2⟩ := h
    by_cases e : p.1 = k
    · have e' : q.1 = k := h1.symm.trans e
      have b : atKey (q :: qs) k = some q.2 := by simp [atKey, List.find?_cons, e']
      rw [List.map_cons, valV_pos (p := (p.1, p.2.2)) e, b]
      exact h2
    · have e' : ¬ q.1 = k := fun z => e (h1.trans z)
      have b : atKey (q :: qs) k = atKey qs k := by simp [atKey, List.find?_cons, e']
      rw [List.map_cons, valV_neg (p := (p.1, p.2.2)) e, b]
      exact ih
/-- in its place, or at the end -/
def putR (xs : List Row) (k : NestedKey) (b : Addr) (v : V) : List Row :=
  if (xs.any fun x => decide (x.1 = k)) = true then xs.map (fun x => if x.1 = k then (x.1, x.2.1, v) else x) else xs ++ [(k, b, v)]
theorem putR_kvs (xs : List Row) (k : NestedKey) (b : Addr) (v : V) : (putR xs k b v).map (fun x => (x.1, x.2.2)) = putK (xs.map fun x => (x.1, x.2.2)) k v := by
  have e : (xs.any fun x => decide (x.1 = k)) = ((xs.map fun x => (x.1, x.2.2)).any fun kv => decide (kv.1 = k)) := by
    rw [List.any_map]
    rfl
  unfold putR putK
  rw [← e]
  by_cases c : (xs.any fun x => decide (x.1 = k)) = true
  · rw [if_pos c, if_pos c, List.map_map, List.map_map]
    refine List.map_congr_left fun x _ => ?_
    by_cases d : x.1 = k <;> simp [d]
  · rw [if_neg c, if_neg c, List.map_append]
    rfl
theorem putR_len (xs : List Row) (k : NestedKey) (b : Addr) (v : V) : (putR xs k b v).length ≤ xs.length + 1 := by
  unfold putR
  split
  · rw [List.length_map]; omega
  · rw [List.length_append, List.length_cons, List.length_nil]; omega
theorem putR_mem {xs : List Row} {k : NestedKey} {b : Addr} {v : V} {x : Row} (h : x ∈ putR xs k b v) : (∃ y ∈ xs, y.1 = x.1 ∧ y.2.1 = x.2.1) ∨ (x.1 = k ∧ x.2.1 = b) := by
  unfold putR at h
  split at h
  · obtain ⟨y, hy, rfl⟩ := List.mem_map.mp h
    refine .inl ⟨y, hy, ?_⟩
    by_cases d : y.1 = k <;> simp [d]
  · rcases List.mem_append.mp h with h | h
    · exact .inl ⟨x, h, rfl, rfl⟩
    · rw [List.mem_singleton] at h
      subst h
      exact .inr ⟨rfl, rfl⟩
theorem rw_repl {xs : List Row} {ys : List (NestedKey × Addr × Value)} (r : Paired RwR xs ys) (k : NestedKey) {y : V} {u : Value} (ry : RelV y u) :
    Paired RwR (xs.map fun x => if x.1 = k then (x.1, x.2.1, y) else x) (ys.map (putAt k u)) := by
  induction r with
  | nil => exact .nil
  | @cons p q ps qs h t ih =>
    rw [List.map_cons, List.map_cons]
    refine .cons ?_ ih
    obtain ⟨h1, h2, h3⟩ := h
    unfold putAt
    by_cases e : p.1 = k
    · rw [if_pos e, if_pos (h1.symm.trans e)]; exact ⟨h1, h2, ry⟩
    · rw [if_neg e, if_neg (fun z => e (h1.trans z))]; exact ⟨h1, h2, h3⟩
theorem rw_put {xs : List Row} {ys : List (NestedKey × Addr × Value)} (r : Paired RwR xs ys) (k : NestedKey) (b : Addr) {y : V} {u : Value} (ry : RelV y u) : Paired RwR (putR xs k b y) (storedH ys k b u) := by
  have e : (xs.any fun x => decide (x.1 = k)) = (atKey ys k).isSome := by
    have q := (rw_val r k).isSome_eq
    rw [Option.isSome_map] at q
    rw [← q, ← valV_any, List.any_map]
    rfl
  unfold putR storedH
  rw [e]
  by_cases q : (atKey ys k).isSome = true
  · rw [if_pos q, if_pos q]; exact rw_repl r k ry
  · rw [if_neg q, if_neg q]; exact Paired.snoc r ⟨rfl, rfl, ry⟩
section
variable {X : Cx} {pins : List (Addr × Obj)} {σ : L2.St} {H : Hp} {s : Shared} {a b : Addr} {kvs : List (NestedKey × V)} {k : NestedKey} {A : Around} {E : Value → Shared → Prop}
theorem nd_in (I : Inv X pins σ H s) {xs : List Row} (h1 : H a = some (NDO X.prog X.w a xs)) : NdIn X.prog X.w a xs s.heap := (I.hok a _ h1).1
theorem nd_of (I : Inv X pins σ H s) {xs : List Row} (h1 : H a = some (NDO X.prog X.w a xs)) (h2 : ∀ x ∈ xs, Dt H x.1.data (.ref x.2.1) ∧ x.1.depth ≤ 8) : xs.length ≤ sizeLine ∧ (a == sysModules) = false ∧ ∃ ys, Paired RwR xs ys ∧ s.heap.DictOfH (nestedKind X.prog X.w) a ys := by
  obtain ⟨z, y, ys, r, o, es, ep, e1, e2, e3, e4, e5⟩ := nd_in I h1
  refine ⟨z, y, ys, r, o, es, ep, e1, e2, e3, e4, fun q hq => ?_, e5⟩
  have all : ∀ {l : List Row} {m : List (NestedKey × Addr × Value)}, Paired RwR l m → (∀ x ∈ l, Dt H x.1.data (.ref x.2.1) ∧ x.1.depth ≤ 8) → ∀ q ∈ m, (nestedKind X.prog X.w).is s.heap q.1 q.2.1 := by
    intro l m p
    induction p with
    | nil => intro _ q hq; cases hq
    | @cons p q0 ps qs hh t ih =>
      intro hl q hq
      rcases List.mem_cons.mp hq with e | hq
      · subst e
        obtain ⟨g1, g2, _⟩ := hh
        have := hl p List.mem_cons_self
        rw [← g1, ← g2]
        exact ⟨key_is I this.1 rfl, this.2⟩
      · exact ih (fun x hx => hl x (List.mem_cons_of_mem _ hx)) q hq
  exact all r h2 q hq
theorem isN_at (I : Inv X pins σ H s) (d : IsN X.prog X.w H a) : s.TypeIs (.ref a) "dict" ∧ (∀ b, Value.ref a = .ref b → ∃ ob, s.heap.get? b = some ob ∧ ob.dict = none) ∧ (a == sysModules) = false := by
  obtain ⟨xs, h1⟩ := d
  obtain ⟨z, y, ys, r, o, es, ep, e1, e2, e3, e4, e5⟩ := nd_in I h1
  refine ⟨⟨o, e1, e2.1⟩, fun b q => ?_, y⟩
  cases q
  exact ⟨o, e1, e2.2.1⟩
theorem key_at (I : Inv X pins σ H s) (h : Dt H k.data (.ref b)) (hd : k.depth ≤ 8) : (nestedKind X.prog X.w).is s.heap k b := ⟨key_is I h rfl, hd⟩
/-- the heap behind a store -/
def NdPut (P : Program) (w : World) (a : Addr) (kvs : List (NestedKey × V)) (H H' : Hp) : Prop := ND P w H' a kvs ∧ ∀ b o, b ≠ a → H b = some o → H' b = some o
theorem nd_wrote {xs : List Row} {ys : List (NestedKey × Addr × Value)} {v : V} {r : Value} {h' : Heap} {t' : Nat} (I : Inv X pins σ H s) (h1 : H a = some (NDO X.prog X.w a xs)) (h2 : ∀ x ∈ xs, Dt H x.1.data (.ref x.2.1) ∧ x.1.depth ≤ 8) (hd : (a == sysModules) = false)
    (hl : xs.length < sizeLine) (hk : Dt H k.data (.ref b)) (hk8 : k.depth ≤ 8) (rel : Paired RwR xs ys) (rv : RelV v r) (dd : h'.DictOfH (nestedKind X.prog X.w) a (storedH ys k b r)) (hs : Heap.SameBut a s.heap h') :
    ∃ H', Inv X pins σ H' { s with heap := h', toks := t' } ∧ NdPut X.prog X.w a (putK (xs.map fun x => (x.1, x.2.2)) k v) H H' := by
  obtain ⟨q, es, ep, hq, g2, g3, g4, _, g5⟩ := dd
  have hz : (putR xs k b v).length ≤ sizeLine := by have := putR_len xs k b v; omega
  have tk : TuK H (upd H a (NDO X.prog X.w a (putR xs k b v))) := .off h1 (fun o xs e => by cases e) fun c o hc e => by rw [upd_ne hc]; exact e
  refine ⟨upd H a (NDO X.prog X.w a (putR xs k b v)), d_write I (by rw [h1]; exact True.intro) hs ⟨q, hq⟩ (ndo_ok ⟨hz, hd, _, rw_put rel k b rv, q, es, ep, hq, g2, g3, g4, g5⟩), ⟨putR xs k b v, upd_same, fun x hx => ?_, (putR_kvs xs k b v).symm⟩, fun c o hc e => by rw [upd_ne hc]; exact e⟩
  rcases putR_mem hx with ⟨y, hy, e1, e2⟩ | ⟨e1, e2⟩
  · rw [← e1, ← e2]
    exact ⟨key_stays tk (h2 y hy).1, (h2 y hy).2⟩
  · rw [e1, e2]
    exact ⟨key_stays tk hk, hk8⟩
theorem n_get2 {d : V} {r : Value} {Q : Value → Shared → Prop} (hu : A.units + 9 < cLine) (I : Inv X pins σ H s) (g : ND X.prog X.w H a kvs) (hk : Dt H k.data (.ref b)) (hk8 : k.depth ≤ 8) (rd : RelV d r) (h : ∀ w' s', Inv X pins σ H s' → RelV ((valV kvs k).getD d) w' → Q w' s') :
    wpAny (model X.prog X.w) A (call (.builtin "dict.get") [.ref a, .ref b, r]) Q E s := by
  obtain ⟨xs, h1, h2, rfl⟩ := g
  obtain ⟨z, hd, ys, rel, dd⟩ := nd_of I h1 h2
  refine call_meetsIn PySem.F.slot_dict_get dd.typeIs PySem.F.entry_dict_get (PySem.F.args_dict_get_3 _ _ _) (meetsH_dict_get_default (nestedKind X.prog X.w) a b hd r) ⟨by show A.units + 1 + 8 < cLine; omega, k, ys, key_at I hk hk8, dd, h _ _ (I.tok _) ?_⟩
  exact (rw_val rel k).getD rd
theorem n_setd {d : V} {r : Value} {Q : Value → Shared → Prop} (hu : A.units + 9 < cLine) (I : Inv X pins σ H s) (g : ND X.prog X.w H a kvs) (hl : kvs.length < sizeLine) (hk : Dt H k.data (.ref b)) (hk8 : k.depth ≤ 8) (rd : RelV d r)
    (h1 : ∀ v, valV kvs k = some v → ∀ (w' : Value) (s' : Shared), Inv X pins σ H s' → RelV v w' → Q w' s') (h2 : valV kvs k = none → ∀ (H' : Hp) (w' : Value) (s' : Shared), NdPut X.prog X.w a (putK kvs k d) H H' → Inv X pins σ H' s' → RelV d w' → Q w' s') :
    wpAny (model X.prog X.w) A (call (.builtin "dict.setdefault") [.ref a, .ref b, r]) Q E s := by
  obtain ⟨xs, g1, g2, rfl⟩ := g
  obtain ⟨z, hd, ys, rel, dd⟩ := nd_of I g1 g2
  have q := rw_val rel k
  refine call_setdefault_heap (hsz := by rw [← Paired.length rel]; exact z) (by show A.units + 1 + 8 < cLine; omega) (key_at I hk hk8) hd dd (fun p hp => ?_) fun hn h' dd' hs => ?_
  · rw [hp] at q
    cases e : valV (xs.map fun x => (x.1, x.2.2)) k with
    | none => rw [e] at q; exact (show False from q).elim
    | some v => rw [e] at q; exact h1 v e _ _ (I.tok _) q
  · rw [hn] at q
    cases e : valV (xs.map fun x => (x.1, x.2.2)) k with
    | some v => rw [e] at q; exact (show False from q).elim
    | none =>
      obtain ⟨H', I', pt⟩ := nd_wrote (t' := s.toks + (nestedKind X.prog X.w).draws k) I g1 g2 hd (by rw [List.length_map] at hl; exact hl) hk hk8 rel rd dd' hs
      exact h2 e H' _ _ pt I' rd
theorem n_set {d : V} {r : Value} {Q : Unit → Shared → Prop} (hu : A.units + 9 < cLine) (I : Inv X pins σ H s) (g : ND X.prog X.w H a kvs) (hl : kvs.length < sizeLine) (hk : Dt H k.data (.ref b)) (hk8 : k.depth ≤ 8) (rd : RelV d r)
    (h : ∀ (H' : Hp) (s' : Shared), NdPut X.prog X.w a (putK kvs k d) H H' → Inv X pins σ H' s' → Q () s') : wpAny (model X.prog X.w) A (setItem (.ref a) (.ref b) r) Q E s := by
  obtain ⟨xs, g1, g2, rfl⟩ := g
  obtain ⟨z, hd, ys, rel, dd⟩ := nd_of I g1 g2
  refine wpAny_setItem_heap (hsz := by rw [← Paired.length rel]; exact z) (by show A.units + 1 + 8 < cLine; omega) (key_at I hk hk8) dd fun h' dd' hs => ?_
  obtain ⟨H', I', pt⟩ := nd_wrote (t' := s.toks + (nestedKind X.prog X.w).draws k) I g1 g2 hd (by rw [List.length_map] at hl; exact hl) hk hk8 rel rd dd' hs
  exact h H' _ pt I'
end
/-! the rules -/
def tNGet2 (P : Program) (w : World) (td ty tx : TE) : TE := fun σ H Q => td σ H fun x H1 => ∃ a, x = .ref a ∧ IsN P w H1 a ∧ ty σ H1 fun y H2 => tx σ H2 fun z H3 => ∃ kvs k b, ND P w H3 a kvs ∧ y = .ref b ∧ Dt H3 k.data (.ref b) ∧ k.depth ≤ 8 ∧ Q ((valV kvs k).getD z) H3
def tNSetd (P : Program) (w : World) (td ty tx : TE) : TE := fun σ H Q => td σ H fun x H1 => ∃ a, x = .ref a ∧ IsN P w H1 a ∧ ty σ H1 fun y H2 => tx σ H2 fun z H3 => ∃ kvs k b, ND P w H3 a kvs ∧ kvs.length ≤ 1000000 ∧ y = .ref b ∧ Dt H3 k.data (.ref b) ∧ k.depth ≤ 8 ∧
  (∀ v, valV kvs k = some v → Q v H3) ∧ (valV kvs k = none → ∀ H4, NdPut P w a (putK kvs k z) H3 H4 → Q z H4)
def sNPut (P : Program) (w : World) (td ty tv : TE) : TS := fun D σ H => tv σ H fun v H1 => td σ H1 fun x H2 => ty σ H2 fun y H3 => ∃ a kvs k b, x = .ref a ∧ ND P w H3 a kvs ∧ kvs.length ≤ 1000000 ∧ y = .ref b ∧ Dt H3 k.data (.ref b) ∧ k.depth ≤ 8 ∧ ∀ H4, NdPut P w a (putK kvs k v) H3 H4 → D.nx σ H4
def tNNew (P : Program) (w : World) : TE := fun _ H Q => ∀ p H', Same H H' → H p = none → ND P w H' p [] → Q (.ref p) H'
theorem lt_million {n : Nat} (h : n ≤ 1000000) : n < sizeLine := by rw [sizeLine_eq]; omega
section
variable {X : Cx} {o e f i value : Expr} {apos cpos pos pos' : Pos} {td ty tx tv : TE}
theorem pe_nnew : PE X (.Dict [] [] pos) (tNNew X.prog X.w) := ⟨fun pins s σ H Q I h => by
  have hf : H s.heap.objs.size = none := I.hok.fresh (Nat.le_refl _)
  have ok : ObjOk X.prog X.w (upd H s.heap.objs.size (NDO X.prog X.w s.heap.objs.size [])) (s.heap.push { cls := .type "dict", data := .dict #[] }) s.heap.objs.size (NDO X.prog X.w s.heap.objs.size []) :=
    ndo_ok ⟨Nat.zero_le _, beq_eq_false_iff_ne.mpr (Ne.symm (Nat.ne_of_lt I.big)), [], .nil, _, #[], 0, Heap.get?_push_size _ rfl, ⟨rfl, rfl, rfl⟩, rfl, rfl, List.nodup_nil⟩
  exact wpAny_Dict_empty ⟨.ref s.heap.objs.size, _, I.laid (a := s.heap.objs.size) (t' := s.toks) (fun _ _ q => Heap.get?_push_of_some _ q) (Nat.le_refl _) ok, rfl, h _ _ (same_upd hf) hf ⟨[], upd_same, (fun x hx => nomatch hx), rfl⟩⟩⟩
theorem pe_nget2 (hu : X.A.units + 9 < cLine) (ho : PE X o td) (he : PE X e ty) (hf : PE X f tx) (m : M2 X o "get" apos e f cpos) : PE X (.Call (.Attribute o "get" apos) [e, f] [] cpos) (tNGet2 X.prog X.w td ty tx) := by
  refine ⟨fun pins s σ H Q I h => ?_⟩
  refine wpAny_Call_method m.base m.few m.line PySem.F.plainAttrs_dict PySem.F.slot_dict_get PySem.F.type_dict_get (thn (ho.run pins s σ H _ I h) fun u s1 ⟨x, H1, I1, rx, a, ex, d, q1⟩ => ?_)
  subst ex
  obtain rfl : u = Value.ref a := rx
  obtain ⟨t1, t2, _⟩ := isN_at I1 d
  refine ⟨t1, t2, ?_⟩
  rw [m.trees]
  refine Calls.callWith_builtin rfl (Calls.evalArgs_plain (Calls.spliced_cons (thn (he.run pins s1 σ H1 _ I1 q1) fun iv s2 ⟨y, H2, I2, ry, q2⟩ =>
    Calls.spliced_cons (thn (hf.run pins s2 σ H2 _ I2 q2) fun fv s3 ⟨z, H3, I3, rz, kvs, k, b, g, ey, hk, hk8, q3⟩ => Calls.spliced_nil ?_))))
  subst ey
  obtain rfl : iv = Value.ref b := ry
  exact n_get2 hu I3 g hk hk8 rz fun w' s4 I4 rw' => ⟨_, H3, I4, rw', q3⟩
theorem pe_nsetd (hu : X.A.units + 9 < cLine) (ho : PE X o td) (he : PE X e ty) (hf : PE X f tx) (m : M2 X o "setdefault" apos e f cpos) : PE X (.Call (.Attribute o "setdefault" apos) [e, f] [] cpos) (tNSetd X.prog X.w td ty tx) := by
  refine ⟨fun pins s σ H Q I h => ?_⟩
  refine wpAny_Call_method m.base m.few m.line PySem.F.plainAttrs_dict PySem.F.slot_dict_setdefault PySem.F.type_dict_setdefault (thn (ho.run pins s σ H _ I h) fun u s1 ⟨x, H1, I1, rx, a, ex, d, q1⟩ => ?_)
  subst ex
  obtain rfl : u = Value.ref a := rx
  obtain ⟨t1, t2, _⟩ := isN_at I1 d
  refine ⟨t1, t2, ?_⟩
  rw [m.trees]
  refine Calls.callWith_builtin rfl (Calls.evalArgs_plain (Calls.spliced_cons (thn (he.run pins s1 σ H1 _ I1 q1) fun iv s2 ⟨y, H2, I2, ry, q2⟩ =>
    Calls.spliced_cons (thn (hf.run pins s2 σ H2 _ I2 q2) fun fv s3 ⟨z, H3, I3, rz, kvs, k, b, g, hl, ey, hk, hk8, q3, q4⟩ => Calls.spliced_nil ?_))))
  subst ey
  obtain rfl : iv = Value.ref b := ry
  exact n_setd hu I3 g (lt_million hl) hk hk8 rz (fun v hv w' s4 I4 rw' => ⟨v, _, I4, rw', q3 v hv⟩) fun hn H4 w' s4 pt I4 rw' => ⟨z, _, I4, rw', q4 hn H4 pt⟩
theorem ps_nput (hu : X.A.units + 9 < cLine) (ho : PE X o td) (hi : PE X i ty) (hv : PE X value tv) (hs : swapsWith value (some (.Subscript o i pos')) pos.line X.env = pure false) :
    PS X (.Assign [.Subscript o i pos'] value pos) (sNPut X.prog X.w td ty tv) := by
  refine ⟨fun pins s σ H D I h => ?_⟩
  refine wpAny_Assign_Subscript (thn (hv.run pins s σ H _ I h) fun r s1 ⟨v, H1, I1, rv, q1⟩ => thn (ho.run pins s1 σ H1 _ I1 q1) fun u s2 ⟨x, H2, I2, rx, q2⟩ => thn (hi.run pins s2 σ H2 _ I2 q2) fun iv s3 ⟨y, H3, I3, ry, a, kvs, k, b, ex, g, hl, ey, hk, hk8, q3⟩ => ?_) hs
  subst ex
  subst ey
  obtain rfl : u = Value.ref a := rx
  obtain rfl : iv = Value.ref b := ry
  exact n_set hu I3 g (lt_million hl) hk hk8 rv fun H4 s4 pt I4 => ⟨σ, H4, I4, q3 H4 pt⟩
end
end KN

set_option Elab.async false
set_option linter.all false
set_option maxRecDepth 100000
set_option maxHeartbeats 4000000
/-! d == e of two such dicts whose values are data -/
namespace KN
open PySem PySem.Spec PyProof.Rows L2 LW
section
variable {P : Program} {w : World} {A : Around} {s : Shared}
/-- row by row: is it in the other one, and alike there -/
inductive Hits (P : Program) (w : World) (A : Around) (s : Shared) (ys : List (NestedKey × Addr × Value)) : List (NestedKey × Addr × Value) → Bool → Prop
  | nil : Hits P w A s ys [] true
  | miss {x r} : atKey ys x.1 = none → Hits P w A s ys (x :: r) false
  | hit {x r b y e t} : atKey ys x.1 = some (b, y) → SeqAt.EqAt A s x.2.2 y e → Hits P w A s ys r t → Hits P w A s ys (x :: r) (e && t)
theorem Hits.cons {ys x r b} (h : Hits P w A s ys (x :: r) b) : (atKey ys x.1 = none ∧ b = false) ∨ ∃ c y e t, atKey ys x.1 = some (c, y) ∧ SeqAt.EqAt A s x.2.2 y e ∧ Hits P w A s ys r t ∧ b = (e && t) := by
  cases h with
  | miss h => exact .inl ⟨h, rfl⟩
  | hit h1 h2 h3 => exact .inr ⟨_, _, _, _, h1, h2, h3, rfl⟩
theorem atKey_at {ys : List (NestedKey × Addr × Value)} (nd : (ys.map (·.1)).Nodup) {k : NestedKey} {j : Nat} {p : Addr × Value} (h : ys[j]? = some (k, p)) : atKey ys k = some p := by
  induction ys generalizing j with
  | nil => cases h
  | cons y r ih =>
    rw [List.map_cons, List.nodup_cons] at nd
    cases j with
    | zero =>
      have e : y = (k, p) := Option.some.inj h
      subst e
      simp [atKey, List.find?_cons]
    | succ j =>
      have h' : r[j]? = some (k, p) := h
      have ne : ¬ y.1 = k := fun e => nd.1 (by rw [e]; exact List.mem_map.mpr ⟨_, List.mem_of_getElem? h', rfl⟩)
      have := ih nd.2 h'
      simpa [atKey, List.find?_cons, ne] using this
theorem atKey_no {ys : List (NestedKey × Addr × Value)} {k : NestedKey} (h : ∀ (j : Nat) (p : Addr × Value), ys[j]? ≠ some (k, p)) : atKey ys k = none := by
  induction ys with
  | nil => rfl
  | cons y r ih =>
    have ne : ¬ y.1 = k := fun e => h 0 y.2 (by show some y = _; rw [← e])
    have := ih fun j p => h (j + 1) p
    simpa [atKey, List.find?_cons, ne] using this
theorem n_same {nm : String} {a b : Addr} {xs ys : List (NestedKey × Addr × Value)} {r : Bool} {E : Value → Shared → Prop} {Q : Bool → Shared → Prop} (hu : A.units + 8 < cLine) (ha : (a == sysModules) = false) (hb : (b == sysModules) = false)
    (da : s.heap.DictOfH (nestedKind P w) a xs) (db : s.heap.DictOfH (nestedKind P w) b ys) (hits : xs.length = ys.length → Hits P w A s ys xs r) (h : Q (xs.length == ys.length && r) s) :
    wpAny (model P w) A (Builtin.Dict.samePairs nm a b) Q E s := by
  obtain ⟨oa, es, ep, a1, _, a2, a3, a4, a5⟩ := da
  obtain ⟨ob, fs, fp, b1, _, b2, b3, b4, b5⟩ := db
  have la : es.size = xs.length := size_of_entries a3
  have lb : fs.size = ys.length := size_of_entries b3
  unfold Builtin.Dict.samePairs Builtin.Dict.showsAll
  rw [if_neg (show ¬ (a == sysModules) = true by rw [ha]; exact Bool.false_ne_true), if_neg (show ¬ (b == sysModules) = true by rw [hb]; exact Bool.false_ne_true)]
  refine wpAny_bind (wpAny_pure (wpAny_bind (wpAny_pure (wpAny_bind (wpAny_dictEntries a1 a2 ?_)))))
  dsimp only
  refine wpAny_bind (wpAny_dictEntries b1 b2 ?_)
  by_cases sz : es.size = fs.size
  · rw [if_neg (show ¬ (es.size != fs.size) = true by simp [sz])]
    have lxy : xs.length = ys.length := by rw [← la, ← lb]; exact sz
    have h0 : Q r s := by simpa [lxy] using h
    refine wpAny_bind (wpAny_dictEpoch a1 a2 (wpAny_bind ?_))
    rw [Std.Legacy.Range.forIn_eq_forIn_range']; simp only [Std.Legacy.Range.size, Nat.sub_zero, Nat.add_sub_cancel, Nat.div_one]
    refine wpAny_forIn_list _ (fun rest q t => t = s ∧ q = (none, ()) ∧ ∃ i, rest = List.range' i (es.size - i) ∧ i ≤ es.size ∧ Hits P w A s ys (xs.drop i) r) _ ?_ ?_ _ _ ⟨rfl, rfl, 0, by simp, Nat.zero_le _, hits lxy⟩
    · rintro i rest q t ⟨rfl, rfl, j, hr, hj, hh⟩
      have lt : j < es.size := Nat.lt_of_not_le fun c => by rw [Nat.sub_eq_zero_of_le c] at hr; cases hr
      have e1 : es.size - j = (es.size - (j + 1)) + 1 := by omega
      rw [e1, List.range'_succ] at hr
      injection hr with e2 e3
      subst e2
      have ltx : i < xs.length := by rw [← la]; exact lt
      have gx : xs[i]? = some xs[i] := List.getElem?_eq_getElem ltx
      have ge : es[i]? = some (entryOfKey (nestedKind P w) xs[i]) := by rw [entry_at a3, gx]; rfl
      rw [drop_at gx] at hh
      refine wpAny_bind (wpAny_dictEntries a1 a2 ?_)
      rw [ge]
      have kx := a4 _ (List.mem_of_getElem? gx)
      show wpAny _ _ (holding [(entryOfKey (nestedKind P w) xs[i]).key, (entryOfKey (nestedKind P w) xs[i]).val] _ >>= _) _ _ _
      refine wpAny_bind (wpAny_holding (wpAny_bind (wpAny_dictFind_heap (knd := nestedKind P w) hu kx b1 b2 b3 b4 b5 (fun no => ?_) fun m p yes => ?_)))
      · rcases hh.cons with ⟨_, er⟩ | ⟨c, y, e, t', g, _⟩
        · rw [er] at h0
          refine wpAny_pure ?_
          show wpAny _ _ (if (!false) = true then _ else _) _ _ _
          rw [if_pos (by decide)]
          exact wpAny_pure (wpAny_pure h0)
        · rw [atKey_no no] at g
          cases g
      · refine wpAny_bind (wpAny_dictEntries b1 b2 ?_)
        have gf : fs[m]? = some (entryOfKey (nestedKind P w) (xs[i].1, p)) := by rw [entry_at b3, yes]; rfl
        rw [gf]
        rcases hh.cons with ⟨g, _⟩ | ⟨c, y, e, t', g, he, hr', er⟩
        · rw [atKey_at b5 yes] at g
          cases g
        · rw [atKey_at b5 yes] at g
          cases g
          refine wpAny_holding (he P w _ _ ?_)
          cases e with
          | false =>
            rw [er, Bool.false_and] at h0
            show wpAny _ _ (if (!false) = true then _ else _) _ _ _
            rw [if_pos (by decide)]
            exact wpAny_pure (wpAny_pure h0)
          | true =>
            rw [Bool.true_and] at er
            rw [← er] at hr'
            show wpAny _ _ (if (!true) = true then _ else _) _ _ _
            rw [if_neg (by decide)]
            refine wpAny_bind (wpAny_dictEpoch a1 a2 ?_)
            rw [if_neg (by simp)]
            exact wpAny_pure ⟨rfl, rfl, i + 1, e3, lt, hr'⟩
    · rintro q t ⟨rfl, rfl, j, hr, hj, hh⟩
      have e0 : j = es.size := Nat.le_antisymm hj (Nat.le_of_not_lt fun c => by
        have e1 : es.size - j = (es.size - (j + 1)) + 1 := by omega
        rw [e1, List.range'_succ] at hr
        cases hr)
      rw [e0, la, List.drop_length] at hh
      cases hh
      exact wpAny_pure h0
  · rw [if_pos (show (es.size != fs.size) = true by simp [sz])]
    have lf : (xs.length == ys.length) = false := by rw [← la, ← lb]; simpa using sz
    rw [lf, Bool.false_and] at h
    exact wpAny_bind (wpAny_rule (wpAny_pure h))
theorem n_rich {a b : Addr} {xs ys : List (NestedKey × Addr × Value)} {r : Bool} {E Q : Value → Shared → Prop} (hu : A.units + 9 < cLine) (ha : (a == sysModules) = false) (hb : (b == sysModules) = false)
    (da : s.heap.DictOfH (nestedKind P w) a xs) (db : s.heap.DictOfH (nestedKind P w) b ys) (hits : xs.length = ys.length → Hits P w A.in1 s ys xs r) (h : Q (.bool (xs.length == ys.length && r)) s) :
    wpAny (model P w) A (compareOp .Eq (.ref a) (.ref b)) Q E s := by
  refine wpAny_richCompare_same_room (op := .Eq) da.typeIs db.typeIs PySem.F.slot_dict_eq (wpAny_call_entry PySem.F.slot_dict_eq da.typeIs PySem.F.entry_dict_eq ?_ (PySem.F.args_dict_eq_2 _ _)) (by omega)
  show wpAny _ _ (Builtin.Dict.dictSlotArgs "__eq__" ⟨[.ref a, .ref b], []⟩ >>= _) _ _ s
  refine wpAny_bind ?_
  unfold Builtin.Dict.dictSlotArgs
  refine wpAny_bind (wpAny_notOrdered_dict da.typeIs ?_)
  show wpAny _ _ (pure (Value.ref a, Value.ref b)) _ _ s
  refine wpAny_pure (wpAny_bind (wpAny_isInstance (T := "dict") db.typeIs PySem.F.sub_dict_dict ?_))
  simp only [Bool.not_true, Bool.false_eq_true, if_false]
  refine wpAny_bind (wpAny_pure (wpAny_bind (wpAny_pure (wpAny_bind (n_same (by show A.units + 1 + 8 < cLine; omega) ha hb da db hits (wpAny_pure ⟨_, rfl, (fun x => nomatch x), ?_⟩))))))
  simpa using h
end
/-! told of data -/
/-- the dict at a: these keys with these data -/
def NDV (P : Program) (w : World) (H : Hp) (a : Addr) (ks : List (NestedKey × PyData)) : Prop := ∃ kvs, ND P w H a kvs ∧ Paired (fun (p : NestedKey × V) (q : NestedKey × PyData) => p.1 = q.1 ∧ Dt H q.2 p.2) kvs ks
def lookD (ks : List (NestedKey × PyData)) (k : NestedKey) : Option PyData := (ks.find? fun p => decide (p.1 = k)).map (·.2)
def eqN (ks ls : List (NestedKey × PyData)) : Bool := ks.length == ls.length && ks.all fun p => match lookD ls p.1 with
  | none => false
  | some d => PyData.eqv p.2 d
section
variable {X : Cx} {pins : List (Addr × Obj)} {σ : L2.St} {H : Hp} {s : Shared}
/-- its rows as they are in the heap -/
theorem ndv_rows (I : Inv X pins σ H s) {a : Addr} {ks : List (NestedKey × PyData)} (h : NDV X.prog X.w H a ks) : (a == sysModules) = false ∧ ∃ ys : List (NestedKey × Addr × Value), s.heap.DictOfH (nestedKind X.prog X.w) a ys ∧ Paired (fun (y : NestedKey × Addr × Value) (q : NestedKey × PyData) => y.1 = q.1 ∧ ∃ as, Reads s.heap y.2.2 q.2 as) ys ks := by
  obtain ⟨kvs, ⟨xs, h1, h2, rfl⟩, hp⟩ := h
  obtain ⟨z, hd, ys, rel, dd⟩ := nd_of I h1 h2
  refine ⟨hd, ys, dd, ?_⟩
  have all : ∀ {l : List Row} {m : List (NestedKey × Addr × Value)} {n : List (NestedKey × PyData)}, Paired RwR l m → Paired (fun (p : NestedKey × V) (q : NestedKey × PyData) => p.1 = q.1 ∧ Dt H q.2 p.2) (l.map fun x => (x.1, x.2.2)) n → Paired (fun (y : NestedKey × Addr × Value) (q : NestedKey × PyData) => y.1 = q.1 ∧ ∃ as, Reads s.heap y.2.2 q.2 as) m n := by
    intro l m n p
    induction p generalizing n with
    | nil => intro g; cases g; exact .nil
    | @cons x y ps qs hh t ih =>
      intro g
      rw [List.map_cons] at g
      cases g with
      | cons g1 g2 =>
        obtain ⟨as, hr, _⟩ := Dq.reads I g1.2 hh.2.2
        exact .cons ⟨hh.1.symm.trans g1.1, as, hr⟩ (ih g2)
  exact all rel hp
theorem look_rows {h : Heap} {ys : List (NestedKey × Addr × Value)} {ks : List (NestedKey × PyData)} (r : Paired (fun (y : NestedKey × Addr × Value) (q : NestedKey × PyData) => y.1 = q.1 ∧ ∃ as, Reads h y.2.2 q.2 as) ys ks) (k : NestedKey) :
    (atKey ys k = none ∧ lookD ks k = none) ∨ ∃ c y d as, atKey ys k = some (c, y) ∧ lookD ks k = some d ∧ Reads h y d as ∧ (k, d) ∈ ks := by
  induction r with
  | nil => exact .inl ⟨rfl, rfl⟩
  | @cons y q ps qs hh t ih =>
    obtain ⟨h1, as, h2⟩ := hh
    by_cases e : y.1 = k
    · refine .inr ⟨y.2.1, y.2.2, q.2, as, by simp [atKey, List.find?_cons, e], by simp [lookD, List.find?_cons, h1.symm.trans e], h2, ?_⟩
      rw [show (k, q.2) = q by rw [← e, h1]]
      exact List.mem_cons_self
    · have e' : ¬ q.1 = k := fun z => e (h1.trans z)
      have g1 : atKey (y :: ps) k = atKey ps k := by simp [atKey, List.find?_cons, e]
      have g2 : lookD (q :: qs) k = lookD qs k := by simp [lookD, List.find?_cons, e']
      rw [g1, g2]
      rcases ih with ih | ⟨c, y', d, as', i1, i2, i3, i4⟩
      · exact .inl ih
      · exact .inr ⟨c, y', d, as', i1, i2, i3, List.mem_cons_of_mem _ i4⟩
theorem hits_of {P : Program} {w : World} {A : Around} (hu : A.units + 64 < cLine) {ys : List (NestedKey × Addr × Value)} {ls : List (NestedKey × PyData)} (rb : Paired (fun (y : NestedKey × Addr × Value) (q : NestedKey × PyData) => y.1 = q.1 ∧ ∃ as, Reads s.heap y.2.2 q.2 as) ys ls) (sl : ∀ p ∈ ls, SeqAt.shaped p.2 = true) :
    ∀ {xs : List (NestedKey × Addr × Value)} {ks : List (NestedKey × PyData)}, Paired (fun (y : NestedKey × Addr × Value) (q : NestedKey × PyData) => y.1 = q.1 ∧ ∃ as, Reads s.heap y.2.2 q.2 as) xs ks → (∀ p ∈ ks, SeqAt.shaped p.2 = true) →
      Hits P w A s ys xs (ks.all fun p => match lookD ls p.1 with
        | none => false
        | some d => PyData.eqv p.2 d)
  | _, _, .nil, _ => .nil
  | _, _, .cons (a := x) (b := q) hh t, sk => by
    obtain ⟨h1, as, h2⟩ := hh
    have ih := hits_of (P := P) (w := w) hu rb sl t fun p hp => sk p (List.mem_cons_of_mem _ hp)
    rw [List.all_cons]
    rcases look_rows rb q.1 with ⟨g1, g2⟩ | ⟨c, y, d, bs, g1, g2, g3, g4⟩
    · rw [g2]
      exact .miss (by rw [h1]; exact g1)
    · rw [g2]
      have s1 := sk q List.mem_cons_self
      have s2 := sl _ g4
      exact .hit (by rw [h1]; exact g1) (SeqAt.eqAt_reads q.2 d A s _ _ _ _ h2 g3 (SeqAt.canLay_of_shaped s1) (SeqAt.canLay_of_shaped s2) (SeqAt.room_of_shaped s1 hu)) ih
end
def rEqN (P : Program) (w : World) : R2 := fun x y H Q => ∃ a b ks ls, x = .ref a ∧ y = .ref b ∧ NDV P w H a ks ∧ NDV P w H b ls ∧ (∀ p ∈ ks, SeqAt.shaped p.2 = true) ∧ (∀ p ∈ ls, SeqAt.shaped p.2 = true) ∧ Q (.bl (eqN ks ls)) H
theorem op_eqN {X : Cx} (hu : X.A.units + 66 < cLine) : OpR X (compareOp .Eq) (rEqN X.prog X.w) := by
  intro pins s σ H x y v u Q I rx ry h
  obtain ⟨a, b, ks, ls, rfl, rfl, ha, hb, sk, sl, q⟩ := h
  obtain rfl : v = Value.ref a := rx
  obtain rfl : u = Value.ref b := ry
  obtain ⟨da, xs, d1, r1⟩ := ndv_rows I ha
  obtain ⟨db, ys, d2, r2⟩ := ndv_rows I hb
  refine n_rich (by omega) da db d1 d2 (fun _ => hits_of (by show X.A.units + 1 + 64 < cLine; omega) r2 sl r1 sk) ?_
  rw [r1.length, r2.length]
  exact ⟨.bl (eqN ks ls), H, I, rfl, q⟩
end KN

set_option Elab.async false
set_option linter.all false
set_option maxRecDepth 100000
set_option maxHeartbeats 4000000
namespace LW
open PySem PySem.Spec PyProof.Rows L2
def topS (i : Nat) : Stmt := PySem.Challenge.pw_lanewright_k62_clashes_and_words_told.main.body.getD i (.Pass ⟨0, 0, 0, 0⟩)
abbrev s_near_names : Stmt := topS 2
theorem sc_near_names : FnScope ["kernel", "near"] ["kernel"] (defScope s_near_names) := ⟨rfl, rfl, rfl, by decide +kernel, rfl, by decide +kernel, by decide +kernel⟩
abbrev s_place_of : Stmt := topS 3
theorem sc_place_of : FnScope ["near", "event", "who", "name", "cell"] ["near", "event"] (defScope s_place_of) := ⟨rfl, rfl, rfl, by decide +kernel, rfl, by decide +kernel, by decide +kernel⟩
abbrev s_do_clash : Stmt := topS 4
theorem sc_do_clash : FnScope ["near", "one", "other"] ["near", "one", "other"] (defScope s_do_clash) := ⟨rfl, rfl, rfl, by decide +kernel, rfl, by decide +kernel, by decide +kernel⟩
abbrev s_clash_of : Stmt := topS 5
theorem sc_clash_of : FnScope ["kernel", "events", "near", "groups", "lanes", "number", "event", "who", "interval", "kind", "place", "key", "seen"] ["kernel", "events"] (defScope s_clash_of) := ⟨rfl, rfl, rfl, by decide +kernel, rfl, by decide +kernel, by decide +kernel⟩
abbrev s_note_one : Stmt := topS 6
theorem sc_note_one : FnScope ["seen", "key", "who"] ["seen", "key", "who"] (defScope s_note_one) := ⟨rfl, rfl, rfl, by decide +kernel, rfl, by decide +kernel, by decide +kernel⟩
abbrev s_first_clash : Stmt := topS 7
theorem sc_first_clash : FnScope ["near", "events", "number", "event"] ["near", "events", "number"] (defScope s_first_clash) := ⟨rfl, rfl, rfl, by decide +kernel, rfl, by decide +kernel, by decide +kernel⟩
abbrev s_is_clean : Stmt := topS 8
theorem sc_is_clean : FnScope ["kernel", "events"] ["kernel", "events"] (defScope s_is_clean) := ⟨rfl, rfl, rfl, by decide +kernel, rfl, by decide +kernel, by decide +kernel⟩
abbrev s_words_moved : Stmt := topS 9
theorem sc_words_moved : FnScope ["kernel", "events", "near", "event"] ["kernel", "events"] (defScope s_words_moved) := ⟨rfl, rfl, rfl, by decide +kernel, rfl, by decide +kernel, by decide +kernel⟩
abbrev s_one_order : Stmt := topS 10
theorem sc_one_order : FnScope ["events", "others"] ["events", "others"] (defScope s_one_order) := ⟨rfl, rfl, rfl, by decide +kernel, rfl, by decide +kernel, by decide +kernel⟩
abbrev s_events_by_lane : Stmt := topS 11
theorem sc_events_by_lane : FnScope ["events", "found", "event"] ["events"] (defScope s_events_by_lane) := ⟨rfl, rfl, rfl, by decide +kernel, rfl, by decide +kernel, by decide +kernel⟩
abbrev s__law_begun : Stmt := topS 13
theorem sc__law_begun : FnScope ["script", "cell"] ["script"] (defScope s__law_begun) := ⟨rfl, rfl, rfl, by decide +kernel, rfl, by decide +kernel, by decide +kernel⟩
abbrev s__law_draw : Stmt := topS 14
theorem sc__law_draw : FnScope ["m", "count", "k", "spot", "cell", "nth"] ["m", "count"] (defScope s__law_draw) := ⟨rfl, rfl, rfl, by decide +kernel, rfl, by decide +kernel, by decide +kernel⟩
abbrev s__law_names : Stmt := topS 15
theorem sc__law_names : FnScope ["m", "own", "first", "small", "k"] ["m"] (defScope s__law_names) := ⟨rfl, rfl, rfl, by decide +kernel, rfl, by decide +kernel, by decide +kernel⟩
abbrev s__law_kernel : Stmt := topS 16
theorem sc__law_kernel : FnScope ["m", "names", "nears"] ["m", "names"] (defScope s__law_kernel) := ⟨rfl, rfl, rfl, by decide +kernel, rfl, by decide +kernel, by decide +kernel⟩
abbrev s__law_events : Stmt := topS 17
theorem sc__law_events : FnScope ["m", "names", "many", "found", "way", "groups", "k", "who", "interval", "name", "spot", "kind", "cell"] ["m", "names", "many"] (defScope s__law_events) := ⟨rfl, rfl, rfl, by decide +kernel, rfl, by decide +kernel, by decide +kernel⟩
abbrev s__law_is_near : Stmt := topS 18
theorem sc__law_is_near : FnScope ["kern", "name", "pair"] ["kern", "name"] (defScope s__law_is_near) := ⟨rfl, rfl, rfl, by decide +kernel, rfl, by decide +kernel, by decide +kernel⟩
abbrev s__law_clashing : Stmt := topS 19
theorem sc__law_clashing : FnScope ["kern", "one", "two"] ["kern", "one", "two"] (defScope s__law_clashing) := ⟨rfl, rfl, rfl, by decide +kernel, rfl, by decide +kernel, by decide +kernel⟩
abbrev s__law_first_clash : Stmt := topS 20
theorem sc__law_first_clash : FnScope ["kern", "some", "k", "two", "one"] ["kern", "some"] (defScope s__law_first_clash) := ⟨rfl, rfl, rfl, by decide +kernel, rfl, by decide +kernel, by decide +kernel⟩
abbrev s__law_merged : Stmt := topS 21
theorem sc__law_merged : FnScope ["m", "some", "left", "found", "who", "spot", "k", "event"] ["m", "some"] (defScope s__law_merged) := ⟨rfl, rfl, rfl, by decide +kernel, rfl, by decide +kernel, by decide +kernel⟩
abbrev s__law_others : Stmt := topS 22
theorem sc__law_others : FnScope ["m", "some", "found", "spot", "k", "one", "odd", "far", "swapped"] ["m", "some"] (defScope s__law_others) := ⟨rfl, rfl, rfl, by decide +kernel, rfl, by decide +kernel, by decide +kernel⟩
abbrev s__law_by_lanes : Stmt := topS 23
theorem sc__law_by_lanes : FnScope ["some", "lanes", "event", "who"] ["some"] (defScope s__law_by_lanes) := ⟨rfl, rfl, rfl, by decide +kernel, rfl, by decide +kernel, by decide +kernel⟩
abbrev s__law_row_right : Stmt := topS 24
theorem sc__law_row_right : FnScope ["m", "kern", "some", "kept", "due", "again", "moved_due", "event", "told", "other", "same"] ["m", "kern", "some"] (defScope s__law_row_right) := ⟨rfl, rfl, rfl, by decide +kernel, rfl, by decide +kernel, by decide +kernel⟩
abbrev s_law : Stmt := topS 25
theorem sc_law : FnScope ["script", "m", "turn", "names", "kern", "many", "k", "last"] ["script"] (defScope s_law) := ⟨rfl, rfl, rfl, by decide +kernel, rfl, by decide +kernel, by decide +kernel⟩
end LW

set_option Elab.async false
set_option linter.all false
set_option maxRecDepth 100000
set_option maxHeartbeats 4000000
namespace LW
open PySem PySem.Spec PyProof.Rows L2
structure FnT (K : PySem.W.Frag) (mg : Str → Option Value) (n : Str) (st : Stmt) (ps : List Str) where
  f : Addr
  d : FuncData
  F : Fun K n n st f d
  g : mg n = some (.ref f)
  b : Binds K d ps []
structure TpT (K : PySem.W.Frag) (mg : Str → Option Value) (n : Str) (ws : List Str) where
  a : Addr
  g : mg n = some (.ref a)
  t : ∀ H, SqT K H a (ws.map V.str)
structure TxL (K : PySem.W.Frag) (mg : Str → Option Value) where
  near_names : FnT K mg "near_names" s_near_names ["kernel"]
  place_of : FnT K mg "place_of" s_place_of ["near", "event"]
  do_clash : FnT K mg "do_clash" s_do_clash ["near", "one", "other"]
  clash_of : FnT K mg "clash_of" s_clash_of ["kernel", "events"]
  note_one : FnT K mg "note_one" s_note_one ["seen", "key", "who"]
  first_clash : FnT K mg "first_clash" s_first_clash ["near", "events", "number"]
  is_clean : FnT K mg "is_clean" s_is_clean ["kernel", "events"]
  words_moved : FnT K mg "words_moved" s_words_moved ["kernel", "events"]
  one_order : FnT K mg "one_order" s_one_order ["events", "others"]
  events_by_lane : FnT K mg "events_by_lane" s_events_by_lane ["events"]
  _law_begun : FnT K mg "_law_begun" s__law_begun ["script"]
  _law_draw : FnT K mg "_law_draw" s__law_draw ["m", "count"]
  _law_names : FnT K mg "_law_names" s__law_names ["m"]
  _law_kernel : FnT K mg "_law_kernel" s__law_kernel ["m", "names"]
  _law_events : FnT K mg "_law_events" s__law_events ["m", "names", "many"]
  _law_is_near : FnT K mg "_law_is_near" s__law_is_near ["kern", "name"]
  _law_clashing : FnT K mg "_law_clashing" s__law_clashing ["kern", "one", "two"]
  _law_first_clash : FnT K mg "_law_first_clash" s__law_first_clash ["kern", "some"]
  _law_merged : FnT K mg "_law_merged" s__law_merged ["m", "some"]
  _law_others : FnT K mg "_law_others" s__law_others ["m", "some"]
  _law_by_lanes : FnT K mg "_law_by_lanes" s__law_by_lanes ["some"]
  _law_row_right : FnT K mg "_law_row_right" s__law_row_right ["m", "kern", "some"]
  law : FnT K mg "law" s_law ["script"]
  n_enumerate : mg "enumerate" = none
  n_len : mg "len" = none
  n_list : mg "list" = none
  n_max : mg "max" = none
  n_range : mg "range" = none
  n_repr : mg "repr" = none
  n_set : mg "set" = none
  n_sorted : mg "sorted" = none
  n_tuple : mg "tuple" = none
  c_MANY : ∃ t, mg "MANY" = some (.str "many" t)
end LW

set_option Elab.async false
set_option linter.all false
set_option maxRecDepth 100000
set_option maxHeartbeats 4000000
/-! data without truths and dicts: compared, shown; events -/
namespace LW
open PySem PySem.Spec PyProof.Rows L2
mutual
/-- no truth, no dict in it; texts short and plain, whole numbers not too great -/
def fine : PyData → Bool
  | .none => true
  | .int i => decide (i.natAbs < 2 ^ 60)
  | .str z => decide (z.length ≤ 100) && z.cps.toList.all fun c => decide (c < 128)
  | .list ds => fineL ds
  | .tuple ds => fineL ds
  | .bool _ => false
  | .dict _ => false
def fineL : List PyData → Bool
  | [] => true
  | d :: r => fine d && fineL r
end
theorem fineL_mem : ∀ {ds : List PyData}, fineL ds = true ↔ ∀ d ∈ ds, fine d = true
  | [] => by simp [fineL]
  | d :: r => by simp [fineL, fineL_mem (ds := r)]
mutual
theorem eqv_fine : ∀ {d e : PyData}, fine d = true → fine e = true → PyData.eqv d e = true → d = e
  | .none, .none, _, _, _ => rfl
  | .int i, .int j, _, _, h => by simp only [PyData.eqv, beq_iff_eq] at h; rw [h]
  | .str x, .str y, _, _, h => by simp only [PyData.eqv, beq_iff_eq] at h; rw [h]
  | .list x, .list y, a, b, h => by simp only [PyData.eqv] at h; rw [eqvL_fine a b h]
  | .tuple x, .tuple y, a, b, h => by simp only [PyData.eqv] at h; rw [eqvL_fine a b h]
  | .bool _, _, a, _, _ => by cases a
  | .dict _, _, a, _, _ => by cases a
  | _, .bool _, _, b, _ => by cases b
  | _, .dict _, _, b, _ => by cases b
  | .none, .int _, _, _, h | .none, .str _, _, _, h | .none, .list _, _, _, h | .none, .tuple _, _, _, h => by cases h
  | .int _, .none, _, _, h | .int _, .str _, _, _, h | .int _, .list _, _, _, h | .int _, .tuple _, _, _, h => by cases h
  | .str _, .none, _, _, h | .str _, .int _, _, _, h | .str _, .list _, _, _, h | .str _, .tuple _, _, _, h => by cases h
  | .list _, .none, _, _, h | .list _, .int _, _, _, h | .list _, .str _, _, _, h | .list _, .tuple _, _, _, h => by cases h
  | .tuple _, .none, _, _, h | .tuple _, .int _, _, _, h | .tuple _, .str _, _, _, h | .tuple _, .list _, _, _, h => by cases h
theorem eqvL_fine : ∀ {x y : List PyData}, fineL x = true → fineL y = true → PyData.eqvAll x y = true → x = y
  | [], [], _, _, _ => rfl
  | d :: x, e :: y, a, b, h => by
    simp only [fineL, Bool.and_eq_true] at a b
    simp only [PyData.eqvAll, Bool.and_eq_true] at h
    rw [eqv_fine a.1 b.1 h.1, eqvL_fine a.2 b.2 h.2]
  | [], _ :: _, _, _, h | _ :: _, [], _, _, h => by simp [PyData.eqvAll] at h
end
mutual
theorem fine_lay : ∀ {d : PyData}, fine d = true → PyData.canLay0 d = true ∧ PyData.showable d = true ∧ PyData.leavesShort 64 d = true
  | .none, _ => ⟨rfl, rfl, rfl⟩
  | .int i, h => by
    have h' : i.natAbs < 2 ^ 60 := of_decide_eq_true h
    have := KX.fd_int (i := i) (Nat.lt_trans h' (by decide))
    exact ⟨by simp only [PyData.canLay0], this.sh, this.lv⟩
  | .str z, h => by
    have h' : (decide (z.length ≤ 100) && z.cps.toList.all fun c => decide (c < 128)) = true := h
    rw [Bool.and_eq_true] at h'
    have hc : ∀ c ∈ z.cps.toList, c < 128 := fun c m => of_decide_eq_true (List.all_eq_true.mp h'.2 c m)
    have := KX.fd_str (z := z) (Nat.le_refl _) (fun c m => Nat.lt_trans (hc c m) (by decide))
    refine ⟨?_, this.sh, this.lv⟩
    show z.cps.all _ = true
    rw [← Array.all_toList]
    exact List.all_eq_true.mpr fun c m => decide_eq_true (by have := hc c m; omega)
  | .list ds, h => by
    have := fineL_lay (ds := ds) h
    exact ⟨by simp only [PyData.canLay0]; exact this.1, by simp only [PyData.showable]; exact this.2.1, by simp only [PyData.leavesShort]; exact this.2.2⟩
  | .tuple ds, h => by
    have := fineL_lay (ds := ds) h
    exact ⟨by simp only [PyData.canLay0]; exact this.1, by simp only [PyData.showable]; exact this.2.1, by simp only [PyData.leavesShort]; exact this.2.2⟩
  | .bool _, h => by cases h
  | .dict _, h => by cases h
theorem fineL_lay : ∀ {ds : List PyData}, fineL ds = true → PyData.canLayAll0 ds = true ∧ PyData.showableAll ds = true ∧ PyData.leavesShortAll 64 ds = true
  | [], _ => ⟨by simp only [PyData.canLayAll0], rfl, rfl⟩
  | d :: r, h => by
    have h' : (fine d && fineL r) = true := h
    rw [Bool.and_eq_true] at h'
    have h1 := fine_lay h'.1
    have h2 := fineL_lay h'.2
    refine ⟨?_, ?_, ?_⟩
    · simp only [PyData.canLayAll0, h1.1, h2.1, Bool.and_self]
    · simp only [PyData.showableAll, h1.2.1, h2.2.1, Bool.and_self]
    · simp only [PyData.leavesShortAll, h1.2.2, h2.2.2, Bool.and_self]
end
theorem eqv_dec {d e : PyData} (a : fine d = true) (b : fine e = true) : PyData.eqv d e = true ↔ d = e := ⟨eqv_fine a b, fun h => by rw [h]; exact SeqAt.eqv_refl e (fine_lay b).1⟩
theorem fine_shaped {d : PyData} (h : fine d = true) (hd : d.depth ≤ 64) : SeqAt.shaped d = true := by
  show (PyData.canLay0 d && decide (d.depth ≤ 64)) = true
  rw [(fine_lay h).1, decide_eq_true hd]
  rfl
mutual
theorem fine_dp {K : PySem.W.Frag} {F : Addr → Prop} {H : Hp} : ∀ {d : PyData} {v : V}, fine d = true → Dq F H d v → Dp K H v d
  | .none, _, _, h => by rw [show _ = V.non from h]; exact .non
  | .int i, _, _, h => by rw [show _ = V.int i from h]; exact .int i
  | .str x, _, _, h => by rw [show _ = V.str x from h]; exact .str x
  | .list ds, _, n, h => by
    obtain ⟨a, xs, rfl, _, ha, hx⟩ := h
    exact .lst (.inl (.inl ha.1)) (fineL_dp n hx)
  | .tuple ds, _, n, h => by
    obtain ⟨a, xs, rfl, _, ha, hx⟩ := h
    exact .tup ha.sq (fineL_dp n hx)
  | .bool _, _, n, _ => by cases n
  | .dict _, _, n, _ => by cases n
theorem fineL_dp {K : PySem.W.Frag} {F : Addr → Prop} {H : Hp} : ∀ {ds : List PyData} {vs : List V}, fineL ds = true → DqL F H ds vs → DpAll K H vs ds
  | [], _, _, h => by rw [show _ = [] from h]; exact .nil
  | d :: ds, _, n, h => by
    obtain ⟨v, r, rfl, h1, h2⟩ := h
    have n' : (fine d && fineL ds) = true := n
    rw [Bool.and_eq_true] at n'
    exact .cons (fine_dp n'.1 h1) (fineL_dp n'.2 h2)
end
/-- fine, this great, this deep -/
structure Sx (d : PyData) (wt dp : Nat) : Prop where
  f : fine d = true
  w : d.weight ≤ wt
  d : d.depth ≤ dp
structure SxL (ds : List PyData) (wt dp : Nat) : Prop where
  f : fineL ds = true
  w : PyData.weightAll ds ≤ wt
  d : PyData.depthAll ds ≤ dp
theorem Sx.le {r : PyData} {w1 w2 d1 d2 : Nat} (h : Sx r w1 d1) (a : w1 ≤ w2) (b : d1 ≤ d2) : Sx r w2 d2 := ⟨h.f, Nat.le_trans h.w a, Nat.le_trans h.d b⟩
theorem SxL.le {r : List PyData} {w1 w2 d1 d2 : Nat} (h : SxL r w1 d1) (a : w1 ≤ w2) (b : d1 ≤ d2) : SxL r w2 d2 := ⟨h.f, Nat.le_trans h.w a, Nat.le_trans h.d b⟩
theorem sx_nil : SxL [] 0 0 := ⟨rfl, Nat.le_refl _, Nat.le_refl _⟩
theorem sx_cons {x : PyData} {r : List PyData} {w1 w2 d1 d2 : Nat} (h : Sx x w1 d1) (g : SxL r w2 d2) : SxL (x :: r) (w1 + 1 + w2) (max d1 d2) :=
  ⟨by simp only [fineL, h.f, g.f, Bool.and_true], by have := h.w; have := g.w; simp only [PyData.weightAll]; omega, by have := h.d; have := g.d; simp only [PyData.depthAll]; omega⟩
theorem sx_all {w d : Nat} : ∀ {r : List PyData}, (∀ x ∈ r, Sx x w d) → SxL r (r.length * (w + 1)) d
  | [], _ => sx_nil.le (Nat.zero_le _) (Nat.zero_le _)
  | x :: r, h => (sx_cons (h x (List.mem_cons_self ..)) (sx_all fun y hy => h y (List.mem_cons_of_mem _ hy))).le (by rw [List.length_cons, Nat.succ_mul]; omega) (by omega)
theorem sx_tup {ds : List PyData} {w d : Nat} (h : SxL ds w d) : Sx (.tuple ds) w (d + 1) := ⟨h.f, by simp only [PyData.weight, h.w], by simp only [PyData.depth]; have := h.d; omega⟩
theorem sx_lst {ds : List PyData} {w d : Nat} (h : SxL ds w d) : Sx (.list ds) w (d + 1) := ⟨h.f, by simp only [PyData.weight, h.w], by simp only [PyData.depth]; have := h.d; omega⟩
theorem sx_non : Sx .none 0 0 := ⟨rfl, by simp only [PyData.weight, Nat.le_refl], by simp only [PyData.depth, Nat.le_refl]⟩
theorem sx_int {i : Int} (h : i.natAbs < 2 ^ 60) : Sx (.int i) 60 0 := by
  refine ⟨decide_eq_true h, ?_, by simp only [PyData.depth, Nat.le_refl]⟩
  simp only [PyData.weight]
  split
  · omega
  · rename_i z
    have nz : i.natAbs ≠ 0 := fun e => z (by rw [beq_iff_eq]; omega)
    have := (Nat.log2_lt nz).mpr h
    omega
theorem sx_str {z : Str} {n : Nat} (hl : z.length ≤ n) (hn : n ≤ 100) (h : ∀ c ∈ z.cps.toList, c < 128) : Sx (.str z) n 0 := by
  refine ⟨?_, by simp only [PyData.weight]; exact hl, by simp only [PyData.depth, Nat.le_refl]⟩
  show (decide (z.length ≤ 100) && z.cps.toList.all fun c => decide (c < 128)) = true
  rw [decide_eq_true (by omega), List.all_eq_true.mpr fun c m => decide_eq_true (h c m)]
  rfl
theorem Sx.fd {d : PyData} {w dp : Nat} (h : Sx d w dp) : KX.Fd d w dp := ⟨(fine_lay h.f).2.2, (fine_lay h.f).2.1, h.w, h.d⟩
theorem Sx.sh {d : PyData} {w dp : Nat} (h : Sx d w dp) (hd : dp ≤ 64) : SeqAt.shaped d = true := fine_shaped h.f (Nat.le_trans h.d hd)
end LW

set_option Elab.async false
set_option linter.all false
set_option maxRecDepth 100000
set_option maxHeartbeats 4000000
/-! events, kernels -/
namespace LW
open PySem PySem.Spec PyProof.Rows L2
theorem Dq.t2 {F : Addr → Prop} {H : Hp} {a b : PyData} {v : V} (h : Dq F H (.tuple [a, b]) v) : ∃ p x y, v = .ref p ∧ F p ∧ Tu H p [x, y] ∧ Dq F H a x ∧ Dq F H b y := by
  obtain ⟨p, xs, rfl, f, hp, x, r, rfl, h1, y, r2, rfl, h2, hn⟩ := h
  cases (show r2 = [] from hn)
  exact ⟨p, x, y, rfl, f, hp, h1, h2⟩
theorem Dq.t3 {F : Addr → Prop} {H : Hp} {a b c : PyData} {v : V} (h : Dq F H (.tuple [a, b, c]) v) : ∃ p x y z, v = .ref p ∧ F p ∧ Tu H p [x, y, z] ∧ Dq F H a x ∧ Dq F H b y ∧ Dq F H c z := by
  obtain ⟨p, xs, rfl, f, hp, x, r, rfl, h1, y, r2, rfl, h2, z, r3, rfl, h3, hn⟩ := h
  cases (show r3 = [] from hn)
  exact ⟨p, x, y, z, rfl, f, hp, h1, h2, h3⟩
theorem Dq.t4 {F : Addr → Prop} {H : Hp} {a b c d : PyData} {v : V} (h : Dq F H (.tuple [a, b, c, d]) v) : ∃ p x y z u, v = .ref p ∧ F p ∧ Tu H p [x, y, z, u] ∧ Dq F H a x ∧ Dq F H b y ∧ Dq F H c z ∧ Dq F H d u := by
  obtain ⟨p, xs, rfl, f, hp, x, r, rfl, h1, y, r2, rfl, h2, z, r3, rfl, h3, u, r4, rfl, h4, hn⟩ := h
  cases (show r4 = [] from hn)
  exact ⟨p, x, y, z, u, rfl, f, hp, h1, h2, h3, h4⟩
structure Ev where
  g : Int
  l : Int
  i : Int
  p : Int
  kind : Str
  name : Str
  cell : List Int
  w : Int
  deriving DecidableEq
def intsD (ns : List Int) : PyData := .tuple (ns.map PyData.int)
def whoD (e : Ev) : PyData := .tuple [.int e.g, .int e.l]
def Ev.d (e : Ev) : PyData := .tuple [whoD e, .int e.i, .tuple [.int e.p], .str e.kind, .str e.name, intsD e.cell, .int e.w]
/-- its parts in the heap -/
theorem ev_parts {F : Addr → Prop} {H : Hp} {e : Ev} {v : V} (h : Dq F H e.d v) :
    ∃ (a w p c : Addr) (cs : List V), v = .ref a ∧ F a ∧ Tu H a [.ref w, .int e.i, .ref p, .str e.kind, .str e.name, .ref c, .int e.w] ∧ F w ∧ Tu H w [.int e.g, .int e.l] ∧ F p ∧ Tu H p [.int e.p] ∧ F c ∧ Tu H c cs ∧ DqL F H (e.cell.map PyData.int) cs := by
  obtain ⟨a, xs, rfl, fa, ha, v1, r1, rfl, h1, v2, r2, rfl, h2, v3, r3, rfl, h3, v4, r4, rfl, h4, v5, r5, rfl, h5, v6, r6, rfl, h6, v7, r7, rfl, h7, hn⟩ := h
  cases (show r7 = [] from hn)
  obtain ⟨w, ws, rfl, fw, hw, u1, t1, rfl, g1, u2, t2, rfl, g2, gn⟩ := h1
  cases (show t2 = [] from gn)
  cases (show u1 = .int e.g from g1)
  cases (show u2 = .int e.l from g2)
  cases (show v2 = .int e.i from h2)
  obtain ⟨p, ps, rfl, fp, hp, u3, t3, rfl, g3, gn3⟩ := h3
  cases (show t3 = [] from gn3)
  cases (show u3 = .int e.p from g3)
  cases (show v4 = .str e.kind from h4)
  cases (show v5 = .str e.name from h5)
  obtain ⟨c, cs, rfl, fc, hc, hcs⟩ := h6
  cases (show v7 = .int e.w from h7)
  exact ⟨a, w, p, c, cs, rfl, fa, ha, fw, hw, fp, hp, fc, hc, hcs⟩
theorem who_dt {F : Addr → Prop} {H : Hp} {e : Ev} {w : Addr} (f : F w) (h : Tu H w [.int e.g, .int e.l]) : Dq F H (whoD e) (.ref w) := .mk f h (.two rfl rfl)
theorem cell_dt {F : Addr → Prop} {H : Hp} {e : Ev} {c : Addr} {cs : List V} (f : F c) (h : Tu H c cs) (g : DqL F H (e.cell.map PyData.int) cs) : Dq F H (intsD e.cell) (.ref c) := .mk f h g
theorem dec_int (i j : Int) : decide (V.int i = V.int j) = decide (i = j) := by simp
theorem dec_str (i j : Str) : decide (V.str i = V.str j) = decide (i = j) := by simp
/-! kernels -/
def nearD (p : Str × List PyData) : PyData := .tuple (.str p.1 :: p.2)
def kernD (x y : PyData) (ns : List (Str × List PyData)) (z : PyData) : PyData := .tuple [x, y, .tuple (ns.map nearD), z]
def nmsN (ns : List (Str × List PyData)) : List Str := ns.map (·.1)
/-! keys -/
theorem datas_ints : ∀ ns : List Int, NestedKey.datas (ns.map NestedKey.num) = ns.map PyData.int
  | [] => rfl
  | n :: ns => by
    show PyData.int n :: NestedKey.datas (ns.map NestedKey.num) = _
    rw [datas_ints ns]
    rfl
def grK (nm : List Str) (e : Ev) : NestedKey := if e.name ∈ nm then .num e.g else .none
def grD (nm : List Str) (e : Ev) : PyData := if e.name ∈ nm then .int e.g else .none
/-- the place of an event -/
def plK (nm : List Str) (e : Ev) : NestedKey := .tup [.text e.name, grK nm e, .tup (e.cell.map NestedKey.num)]
theorem grK_data (nm : List Str) (e : Ev) : (grK nm e).data = grD nm e := by
  unfold grK grD
  split <;> rfl
theorem plK_data (nm : List Str) (e : Ev) : (plK nm e).data = .tuple [.str e.name, grD nm e, intsD e.cell] := by
  show PyData.tuple [.str e.name, (grK nm e).data, .tuple (NestedKey.datas (e.cell.map NestedKey.num))] = _
  rw [grK_data, datas_ints]
  rfl
theorem num_inj : ∀ {a b : List Int}, a.map NestedKey.num = b.map NestedKey.num → a = b
  | [], [], _ => rfl
  | [], _ :: _, h => by cases h
  | _ :: _, [], h => by cases h
  | x :: a, y :: b, h => by
    injection h with h1 h2
    injection h1 with h1
    rw [h1, num_inj h2]
/-- of the same place: of one name, one cell; of one group, if the array is near -/
theorem plK_eq (nm : List Str) (a b : Ev) : plK nm a = plK nm b ↔ a.name = b.name ∧ a.cell = b.cell ∧ (a.name ∈ nm → a.g = b.g) := by
  constructor
  · intro h
    injection h with h
    injection h with h1 h
    injection h with h2 h
    injection h with h3 _
    injection h1 with h1
    injection h3 with h3
    refine ⟨h1, num_inj h3, fun m => ?_⟩
    unfold grK at h2
    rw [← h1, if_pos m, if_pos m] at h2
    injection h2
  · rintro ⟨h1, h2, h3⟩
    have e : grK nm a = grK nm b := by
      unfold grK
      rw [← h1]
      by_cases m : a.name ∈ nm
      · rw [if_pos m, if_pos m, h3 m]
      · rw [if_neg m, if_neg m]
    unfold plK
    rw [e, h1, h2]
def isSt (e : Ev) : Bool := decide (e.kind = "store")
/-- two events clash -/
def clashB (nm : List Str) (a b : Ev) : Bool :=
  !decide (a.g = b.g ∧ a.l = b.l) && decide (plK nm a = plK nm b) && (isSt a || isSt b) && (!decide (a.g = b.g) || decide (a.i = b.i))
end LW

set_option Elab.async false
set_option linter.all false
set_option maxRecDepth 100000
set_option maxHeartbeats 4000000
/-! the program: names that are near, places, two events -/
namespace LW
open PySem PySem.Spec PyProof.Rows L2
section
variable {P : Program} {w : World} {K : PySem.W.Frag} {mg : Str → Option Value} {base : Heap}
theorem near_at {H : Hp} : ∀ {ns : List (Str × List PyData)} {vs : List V} {i : Nat} {v : V}, DtL H (ns.map nearD) vs → vs[i]? = some v → ∃ p a xs, ns[i]? = some p ∧ v = .ref a ∧ Tu H a (.str p.1 :: xs) ∧ DtL H p.2 xs := by
  intro ns vs i v h e
  obtain ⟨d, e1, e2⟩ := DqL.get h e
  rw [List.getElem?_map] at e1
  cases hp : ns[i]? with
  | none => rw [hp] at e1; cases e1
  | some p =>
    rw [hp] at e1
    cases Option.some.inj e1
    obtain ⟨a, xs, rfl, _, ha, u, r, rfl, h1, h2⟩ := e2
    cases (show u = .str p.1 from h1)
    exact ⟨p, a, r, rfl, rfl, ha, h2⟩
def spNear : Sp := fun vs H Q _ => ∃ (v : V) (x y z : PyData) (ns : List (Str × List PyData)), vs = [v] ∧ Dt H (kernD x y ns z) v ∧ ns.length ≤ 100 ∧ KW.New (.lst ((nmsN ns).map V.str)) Q H
theorem ok_near (T : TxL K mg) : FnOk P w K mg base CX0 1 T.near_names.f T.near_names.d ["kernel"] spNear := by
  refine T.near_names.F.ok sc_near_names (fun vs H Q E h => ?_) (fun cdv A outer s0 H vs Q E hr h => ?_)
  · obtain ⟨v, x, y, z, ns, rfl, _⟩ := h
    rfl
  · obtain ⟨v, x, y, z, ns, rfl, hd, hl, q⟩ := h
    refine ⟨_, (pss_one (ps_ret (pe_lc (own := [("near", 1)]) (g := gName 1) (tt := tYes) rfl sc_near_names.nd (pi_tup (pe_ix ix_tup (pv 0) pe_int (fun _ _ => rfl))) (blkOk_by (N := ["kernel", "near"]) (sc := (defScope s_near_names)) (by decide +kernel)) (fun _ _ _ _ _ => (pg_name (i := 1) sc_near_names.nd rfl (.inl rfl))) (fun _ _ _ _ _ => pts_nil) (fun _ _ _ _ _ => (pe_ix (r := rIxT K) ix_tup (pv 1) pe_int (fun _ _ => rfl)))))), ?_⟩
    obtain ⟨a, vx, vy, vn, vz, rfl, _, ha, _, _, ⟨n, us, rfl, _, hn, hus⟩, _⟩ := Dq.t4 hd
    have hlen := hus.len
    rw [List.length_map] at hlen
    refine ⟨_, rfl, a, _, _, _, rfl, rfl, ha.sq, rfl, n, rfl, ⟨_, hn.sq⟩, fun D nD => ?_⟩
    refine lc_tup (K := K) (a := n) (xs := us) (fun i H' => Same H H' ∧ H' D = some (.lst (((nmsN ns).take i).map V.str))) ⟨same_upd nD, upd_same⟩ (fun i H' hi h => (hn.same h.1).sq) (fun i x H' hx h => ?_) (fun H' h => ?_)
    · obtain ⟨sm, hD⟩ := h
      obtain ⟨p, b, xs, hp, rfl, hb, _⟩ := near_at hus hx
      have hi : i < ns.length := (List.getElem?_eq_some_iff.mp hp).1
      have hp' : (nmsN ns)[i]? = some p.1 := by show (ns.map (·.1))[i]? = _; rw [List.getElem?_map, hp]; rfl
      refine ⟨rfl, _, rfl, b, _, _, _, rfl, rfl, (hb.same sm).sq, atI_nat (j := 0) rfl, _, hD, ?_, fun c o e => ?_, ?_⟩
      · rw [List.length_map, List.length_take]
        exact lt_size (by omega)
      · rw [upd_ne (ne_of_none e nD)]; exact sm _ _ e
      · rw [upd_same, take_snoc hp', List.map_append]; rfl
    · obtain ⟨sm, hD⟩ := h
      rw [show (nmsN ns).take us.length = nmsN ns from List.take_of_length_le (by show (ns.map (·.1)).length ≤ _; rw [List.length_map]; omega)] at hD
      exact q D H' sm nD hD
/-- the tuple of a place -/
def spPlace : Sp := fun vs H Q _ => ∃ (n : Addr) (v : V) (nm : List Str) (e : Ev), vs = [.ref n, v] ∧ H n = some (.lst (nm.map V.str)) ∧ Dt H e.d v ∧ ∀ p H', Same H H' → H p = none → Dt H' (plK nm e).data (.ref p) → Q (.ref p) H'
theorem ok_place (T : TxL K mg) : FnOk P w K mg base CX0 1 T.place_of.f T.place_of.d ["near", "event"] spPlace := by
  refine T.place_of.F.ok sc_place_of (fun vs H Q E h => ?_) (fun cdv A outer s0 H vs Q E hr h => ?_)
  · obtain ⟨n, v, nm, e, rfl, _⟩ := h
    rfl
  · obtain ⟨n, v, nm, e, rfl, hn, hd, q⟩ := h
    refine ⟨_, (pss_cons (ps_par3 (i := 2) (j := 3) (l := 4) (by rfl) sc_place_of.nd rfl rfl rfl (by decide) (by decide) (by decide) rfl rfl rfl (pa_cons (pe_ix ix_tup (pv 1) pe_int (fun _ _ => rfl)) (pa_cons (pe_ix ix_tup (pv 1) pe_int (fun _ _ => rfl)) (pa_cons (pe_ix ix_tup (pv 1) pe_int (fun _ _ => rfl)) pa_nil))) (by rfl))
      (pss_one (ps_ret (pe_tupF (pa_cons (pv 3) (pa_cons (pe_ifExp (pt_cmpR op_in_seq (pv 3) (pv 0) (by rfl)) (pe_ix ix_tup (pv 2) pe_int (fun _ _ => rfl)) pe_non) (pa_cons (pv 4) pa_nil))))))), ?_⟩
    obtain ⟨a, wA, pA, c, cs, rfl, _, ha, _, hw, _, hp, _, hc, hcs⟩ := ev_parts hd
    refine ⟨_, rfl, a, _, _, _, rfl, rfl, ha.sq, rfl, _, rfl, a, _, _, _, rfl, rfl, ha.sq, rfl, _, rfl, a, _, _, _, rfl, rfl, ha.sq, rfl, _, _, _, rfl, ?_⟩
    refine ⟨_, rfl, _, rfl, _, rfl, n, _, rfl, .inl (.inl (.inl hn)), rfl, flat_strs nm, _, rfl, ?_⟩
    have fin : ∀ (g : PyData) (vg : V), Dt H g vg → g = grD nm e → ∀ p H', Same H H' → H p = none → Tu H' p [.str e.name, vg, .ref c] → Q (.ref p) H' := fun g vg hg eg p H' sm np hp => by
      refine q p H' sm np ?_
      rw [plK_data, ← eg]
      exact .mk trivial hp (.three rfl (hg.same sm) (cell_dt trivial (hc.same sm) (DqL.same hcs sm)))
    rw [inV_strs]
    by_cases m : e.name ∈ nm
    · rw [decide_eq_true m]
      refine iteT ⟨_, rfl, wA, _, _, _, rfl, rfl, hw.sq, rfl, _, rfl, (by show 3 ≤ 5000; omega), fin (.int e.g) (.int e.g) rfl (by unfold grD; rw [if_pos m])⟩
    · rw [decide_eq_false m]
      refine iteF ⟨_, rfl, (by show 3 ≤ 5000; omega), fin .none .non rfl (by unfold grD; rw [if_neg m])⟩
end
end LW

set_option Elab.async false
set_option linter.all false
set_option maxRecDepth 100000
set_option maxHeartbeats 4000000
/-! the program: two events -/
namespace LW
open PySem PySem.Spec PyProof.Rows L2
mutual
theorem key_eqv : ∀ a b : NestedKey, PyData.eqv a.data b.data = NestedKey.beq a b
  | .none, .none => rfl
  | .num i, .num j => by
    show (i == j) = decide (i = j)
    by_cases e : i = j <;> simp [e]
  | .text x, .text y => by
    show (x == y) = decide (x = y)
    by_cases e : x = y <;> simp [e]
  | .tup x, .tup y => keys_eqv x y
  | .none, .num _ | .none, .text _ | .none, .tup _ => rfl
  | .num _, .none | .num _, .text _ | .num _, .tup _ => rfl
  | .text _, .none | .text _, .num _ | .text _, .tup _ => rfl
  | .tup _, .none | .tup _, .num _ | .tup _, .text _ => rfl
theorem keys_eqv : ∀ a b : List NestedKey, PyData.eqvAll (NestedKey.datas a) (NestedKey.datas b) = NestedKey.beqAll a b
  | [], [] => rfl
  | x :: a, y :: b => by
    show (PyData.eqv x.data y.data && PyData.eqvAll (NestedKey.datas a) (NestedKey.datas b)) = (NestedKey.beq x y && NestedKey.beqAll a b)
    rw [key_eqv x y, keys_eqv a b]
  | [], _ :: _ => rfl
  | _ :: _, [] => rfl
end
theorem eqv_pl (nm : List Str) (a b : Ev) : PyData.eqv (plK nm a).data (plK nm b).data = decide (plK nm a = plK nm b) := by
  rw [key_eqv, NestedKey.decide_eq]
theorem eqv_who (a b : Ev) : PyData.eqv (whoD a) (whoD b) = decide (a.g = b.g ∧ a.l = b.l) := by
  show ((a.g == b.g) && ((a.l == b.l) && true)) = _
  by_cases h1 : a.g = b.g <;> by_cases h2 : a.l = b.l <;> simp [h1, h2]
def EvOk (e : Ev) : Prop := fine e.d = true
theorem EvOk.who {e : Ev} (h : EvOk e) : fine (whoD e) = true := by
  have h' : (fine (whoD e) && _) = true := h
  rw [Bool.and_eq_true] at h'
  exact h'.1
theorem EvOk.parts {e : Ev} (h : EvOk e) : fine (.int e.g) = true ∧ fine (.str e.kind) = true ∧ fine (.str e.name) = true ∧ fine (intsD e.cell) = true ∧ fine (.int e.i) = true := by
  have h' : ((fine (.int e.g) && (fine (.int e.l) && true)) && (fine (.int e.i) && ((fine (.int e.p) && true) && (fine (.str e.kind) && (fine (.str e.name) && (fine (intsD e.cell) && (fine (.int e.w) && true))))))) = true := h
  simp only [Bool.and_eq_true] at h'
  exact ⟨h'.1.1, h'.2.2.2.1, h'.2.2.2.2.1, h'.2.2.2.2.2.1, h'.2.1⟩
theorem depthA_ints : ∀ ns : List Int, PyData.depthAll (ns.map PyData.int) = 0
  | [] => by simp only [List.map_nil, PyData.depthAll]
  | n :: ns => by simp only [List.map_cons, PyData.depthAll, PyData.depth, depthA_ints ns]; omega
theorem depth_intsD (ns : List Int) : (intsD ns).depth = 1 := by
  unfold intsD
  simp only [PyData.depth, depthA_ints]
theorem depth_who (e : Ev) : (whoD e).depth = 1 := by
  unfold whoD
  simp only [PyData.depth, PyData.depthAll]
  omega
theorem who_sh {e : Ev} (h : EvOk e) : SeqAt.shaped (whoD e) = true := fine_shaped h.who (by rw [depth_who]; omega)
theorem pl_fine {nm : List Str} {e : Ev} (h : EvOk e) : fine (plK nm e).data = true := by
  rw [plK_data]
  obtain ⟨h1, h2, h3, h4, _⟩ := h.parts
  have h5 : fine (grD nm e) = true := by
    unfold grD
    split
    · exact h1
    · rfl
  show (fine (.str e.name) && (fine (grD nm e) && (fine (intsD e.cell) && true))) = true
  rw [h3, h5, h4]
  rfl
theorem depth_pl (nm : List Str) (e : Ev) : (plK nm e).data.depth ≤ 2 := by
  rw [plK_data]
  have : (grD nm e).depth = 0 := by
    unfold grD
    split <;> simp only [PyData.depth]
  simp only [PyData.depth, PyData.depthAll, this, depth_intsD]
  omega
theorem pl_sh {nm : List Str} {e : Ev} (h : EvOk e) : SeqAt.shaped (plK nm e).data = true := fine_shaped (pl_fine h) (by have := depth_pl nm e; omega)
theorem inV_st (a b : Ev) : inV (.str "store") [V.str a.kind, V.str b.kind] = (isSt a || isSt b) := by
  show inV (.str "store") ([a.kind, b.kind].map V.str) = _
  rw [inV_strs]
  unfold isSt
  by_cases h1 : a.kind = "store"
  · simp [h1]
  · by_cases h2 : b.kind = "store"
    · simp [h2]
    · have h1' : ¬ ("store" : Str) = a.kind := fun e => h1 e.symm
      have h2' : ¬ ("store" : Str) = b.kind := fun e => h2 e.symm
      simp [h1, h2, h1', h2']
theorem who_dp {K : PySem.W.Frag} {H : Hp} {e : Ev} {w : Addr} (o : EvOk e) (h : Tu H w [.int e.g, .int e.l]) : Dp K H (.ref w) (whoD e) := fine_dp (F := fun _ => True) o.who (who_dt trivial h)
section
variable {P : Program} {w : World} {K : PySem.W.Frag} {mg : Str → Option Value} {base : Heap}
def spDoClash : Sp := fun vs H Q _ => ∃ (n : Addr) (u v : V) (nm : List Str) (a b : Ev), vs = [.ref n, u, v] ∧ H n = some (.lst (nm.map V.str)) ∧ EvOk a ∧ EvOk b ∧ Dt H a.d u ∧ Dt H b.d v ∧ ∀ H', Same H H' → Q (.bl (clashB nm a b)) H'
theorem ok_do_clash (T : TxL K mg) : FnOk P w K mg base CX0 2 T.do_clash.f T.do_clash.d ["near", "one", "other"] spDoClash := by
  have G_place_of : FnOk P w K mg base CX0 1 T.place_of.f T.place_of.d ["near", "event"] spPlace := ok_place T
  refine T.do_clash.F.ok sc_do_clash (fun vs H Q E h => ?_) (fun cdv A outer s0 H vs Q E hr h => ?_)
  · obtain ⟨n, u, v, nm, a, b, rfl, _⟩ := h
    rfl
  · obtain ⟨n, u, v, nm, a, b, rfl, hn, oa, ob, ha, hb, q⟩ := h
    have r_place_of := hr
    refine ⟨_, (pss_cons (ps_if (PW.pt (pw_or (pt_cmpR (op_eqD hr.units) (pe_ix ix_tup (pv 1) pe_int (fun _ _ => rfl)) (pe_ix ix_tup (pv 2) pe_int (fun _ _ => rfl)) (nomark _)) (pw_or (pt_cmpR (op_neD hr.units) (pe_call G_place_of r_place_of (by rfl) T.place_of.g T.place_of.F.kp T.place_of.b .nil pass0 (pa_cons (pv 0) (pa_cons (pv 1) pa_nil))) (pe_call G_place_of r_place_of (by rfl) T.place_of.g T.place_of.F.kp T.place_of.b .nil pass0 (pa_cons (pv 0) (pa_cons (pv 2) pa_nil))) (nomark _)) (pw_or1 (pt_cmpR op_notIn_seq pe_str (pe_tupF (pa_cons (pe_ix ix_tup (pv 1) pe_int (fun _ _ => rfl)) (pa_cons (pe_ix ix_tup (pv 2) pe_int (fun _ _ => rfl)) pa_nil))) (by rfl)))))) (pss_one (ps_ret pe_bl)) pss_nil)
      (pss_one (ps_ret (pe_or (pe_cmpR op_ne (pe_ix ix_tup (pe_ix ix_tup (pv 1) pe_int (fun _ _ => rfl)) pe_int (fun _ _ => rfl)) (pe_ix ix_tup (pe_ix ix_tup (pv 2) pe_int (fun _ _ => rfl)) pe_int (fun _ _ => rfl)) (nomark _)) (pe_one (pe_cmpR op_eq (pe_ix ix_tup (pv 1) pe_int (fun _ _ => rfl)) (pe_ix ix_tup (pv 2) pe_int (fun _ _ => rfl)) (nomark _))))))), ?_⟩
    obtain ⟨x, xw, xp, xc, xcs, rfl, _, tx, _, txw, _, txp, _, txc, hxc⟩ := ev_parts ha
    obtain ⟨y, yw, yp, yc, ycs, rfl, _, ty, _, tyw, _, typ, _, tyc, hyc⟩ := ev_parts hb
    refine ⟨_, rfl, x, _, _, _, rfl, rfl, tx.sq, rfl, _, rfl, y, _, _, _, rfl, rfl, ty.sq, rfl, whoD a, whoD b, who_dp oa txw, who_dp ob tyw, who_sh oa, who_sh ob, _, rfl, ?_⟩
    rw [eqv_who]
    by_cases c1 : a.g = b.g ∧ a.l = b.l
    · rw [decide_eq_true c1]
      have e : clashB nm a b = false := by
        unfold clashB
        rw [decide_eq_true c1]
        rfl
      rw [e] at q
      exact iteT (iteT (q H (Same.refl _)))
    · rw [decide_eq_false c1]
      refine iteF ?_
      refine ⟨_, rfl, _, rfl, n, .ref x, nm, a, rfl, hn, ha, fun p H1 s1 np hp => ?_⟩
      refine ⟨_, rfl, _, rfl, n, .ref y, nm, b, rfl, s1 _ _ hn, hb.same s1, fun p2 H2 s2 np2 hp2 => ?_⟩
      have s12 := s1.trans s2
      refine ⟨_, _, fine_dp (pl_fine oa) (hp.same s2), fine_dp (pl_fine ob) hp2, pl_sh oa, pl_sh ob, _, rfl, ?_⟩
      rw [eqv_pl]
      by_cases c2 : plK nm a = plK nm b
      · rw [decide_eq_true c2]
        refine iteF ?_
        refine ⟨_, rfl, x, _, _, _, rfl, rfl, (tx.same s12).sq, rfl, _, rfl, y, _, _, _, rfl, rfl, (ty.same s12).sq, rfl, (by show 2 ≤ 5000; omega), fun p3 H3 s3 np3 hp3 => ?_⟩
        refine ⟨p3, _, rfl, .inr hp3.sq, rfl, rfl, _, rfl, ?_⟩
        have s13 := s12.trans s3
        rw [inV_st]
        cases c3 : isSt a || isSt b with
        | false =>
          have e : clashB nm a b = false := by
            unfold clashB
            rw [c3, Bool.and_false, Bool.false_and]
          rw [e] at q
          exact iteT (q H3 s13)
        | true =>
          refine iteF ?_
          refine ⟨_, rfl, x, _, _, _, rfl, rfl, (tx.same s13).sq, rfl, xw, _, _, _, rfl, rfl, (txw.same s13).sq, rfl, _, rfl, y, _, _, _, rfl, rfl, (ty.same s13).sq, rfl, yw, _, _, _, rfl, rfl, (tyw.same s13).sq, rfl, rfl, _, rfl, ?_⟩
          have e : clashB nm a b = (!decide (a.g = b.g) || decide (a.i = b.i)) := by
            unfold clashB
            rw [c3, decide_eq_false c1, decide_eq_true c2]
            rfl
          rw [e] at q
          by_cases c4 : a.g = b.g
          · have e1 : decide (V.int a.g = V.int b.g) = true := decide_eq_true (by rw [c4])
            rw [e1]
            refine iteF ⟨_, rfl, x, _, _, _, rfl, rfl, (tx.same s13).sq, rfl, _, rfl, y, _, _, _, rfl, rfl, (ty.same s13).sq, rfl, rfl, ?_⟩
            rw [dec_int]
            rw [decide_eq_true c4] at q
            exact q H3 s13
          · have e1 : decide (V.int a.g = V.int b.g) = false := decide_eq_false fun z => c4 (by injection z)
            rw [e1]
            rw [decide_eq_false c4] at q
            exact iteT (q H3 s13)
      · rw [decide_eq_false c2]
        have e : clashB nm a b = false := by
          unfold clashB
          rw [decide_eq_false c2, Bool.and_false, Bool.false_and, Bool.false_and]
        rw [e] at q
        exact iteT (iteT (q H2 s12))
end
end LW

set_option Elab.async false
set_option linter.all false
set_option maxRecDepth 100000
set_option maxHeartbeats 4000000
/-! the program: what was noted under a key; the first that clashes -/
namespace LW
open PySem PySem.Spec PyProof.Rows L2 KN
def manyK : NestedKey := .text "many"
/-- what a key has, one more noted -/
def nv (o : Option NestedKey) (x : NestedKey) : Option NestedKey := match o with
  | none => some x
  | some d => if d = x then some d else some manyK
def noteF (f : NestedKey → Option NestedKey) (k x : NestedKey) : NestedKey → Option NestedKey := fun j => if j = k then nv (f k) x else f j
/-- the dict at a has these keys and values, at most n -/
def NDF (P : Program) (w : World) (H : Hp) (a : Addr) (f : NestedKey → Option NestedKey) (n : Nat) : Prop := ∃ kvs, ND P w H a kvs ∧ kvs.length ≤ n ∧ ∀ k, (f k = none ∧ valV kvs k = none) ∨ ∃ d v, f k = some d ∧ valV kvs k = some v ∧ Dt H d.data v
section
variable {P : Program} {w : World} {H H' : Hp} {a : Addr} {f : NestedKey → Option NestedKey} {n : Nat}
theorem NDF.kp (h : NDF P w H a f n) (t : TuK H H') (e : ∀ o, H a = some o → H' a = some o) : NDF P w H' a f n := by
  obtain ⟨kvs, h1, h2, h3⟩ := h
  refine ⟨kvs, h1.kp t e, h2, fun k => ?_⟩
  rcases h3 k with h | ⟨d, v, g1, g2, g3⟩
  · exact .inl h
  · exact .inr ⟨d, v, g1, g2, key_stays t g3⟩
theorem NDF.same (h : NDF P w H a f n) (e : Same H H') : NDF P w H' a f n := h.kp (.of_same e) fun o q => e _ _ q
theorem NDF.isN (h : NDF P w H a f n) : IsN P w H a := let ⟨_, h1, _⟩ := h; h1.isN
theorem NDF.tuk (h : NDF P w H a f n) (k : ∀ b o, b ≠ a → H b = some o → H' b = some o) : TuK H H' := let ⟨_, h1, _⟩ := h; h1.tuk k
theorem NDF.off (h : NDF P w H a f n) {p : Addr} (e : H p = none) : p ≠ a := by
  obtain ⟨_, h1, _⟩ := h
  obtain ⟨o, ho⟩ := h1.some
  exact (ne_of_none ho e).symm
theorem NDF.put {kvs : List (NestedKey × V)} {k d : NestedKey} {v : V} (hk : ∀ j, (f j = none ∧ valV kvs j = none) ∨ ∃ d v, f j = some d ∧ valV kvs j = some v ∧ Dt H d.data v) (hn : kvs.length ≤ n) (hv : Dt H d.data v) (h : ND P w H a kvs) (p : NdPut P w a (putK kvs k v) H H') : NDF P w H' a (fun j => if j = k then some d else f j) (n + 1) := by
  have t := h.tuk p.2
  refine ⟨_, p.1, by have := length_putK kvs k v; omega, fun j => ?_⟩
  rw [valV_put]
  show ((if j = k then some d else f j) = none ∧ (if j = k then some v else valV kvs j) = none) ∨ ∃ d' v', (if j = k then some d else f j) = some d' ∧ (if j = k then some v else valV kvs j) = some v' ∧ Dt H' d'.data v'
  by_cases e : j = k
  · rw [if_pos e, if_pos e]
    exact .inr ⟨d, v, rfl, rfl, key_stays t hv⟩
  · rw [if_neg e, if_neg e]
    rcases hk j with h | ⟨d, v, g1, g2, g3⟩
    · exact .inl h
    · exact .inr ⟨d, v, g1, g2, key_stays t g3⟩
end
/-- a store at a: all else stays -/
def KpA (a : Addr) (H H' : Hp) : Prop := ∀ b o, b ≠ a → H b = some o → H' b = some o
section
variable {P : Program} {w : World} {K : PySem.W.Frag} {mg : Str → Option Value} {base : Heap}
def shK (k : NestedKey) : Prop := SeqAt.shaped k.data = true ∧ fine k.data = true
theorem many_sh : shK manyK := ⟨by decide +kernel, by decide +kernel⟩
def spNote (P : Program) (w : World) : Sp := fun vs H Q _ => ∃ (a b : Addr) (vx : V) (k x : NestedKey) (f : NestedKey → Option NestedKey) (n : Nat), vs = [.ref a, .ref b, vx] ∧ NDF P w H a f n ∧ n ≤ 900000 ∧ Dt H k.data (.ref b) ∧ k.depth ≤ 8 ∧ Dt H x.data vx ∧ shK x ∧ (∀ d, f k = some d → shK d) ∧
  ∀ H', KpA a H H' → NDF P w H' a (noteF f k x) (n + 2) → Q .non H'
theorem ok_note (T : TxL K mg) : FnOk P w K mg base CX0 1 T.note_one.f T.note_one.d ["seen", "key", "who"] (spNote P w) := by
  obtain ⟨t1, g_MANY⟩ := T.c_MANY
  refine T.note_one.F.ok sc_note_one (fun vs H Q E h => ?_) (fun cdv A outer s0 H vs Q E hr h => ?_)
  · obtain ⟨a, b, vx, k, x, f, n, rfl, _⟩ := h
    rfl
  · obtain ⟨a, b, vx, k, x, f, n, rfl, hf, hn, hk, hk8, hx, sx, sf, q⟩ := h
    have hu9 : (A.deeper (envOfC "note_one" (defScope s_note_one) s0.heap.objs.size T.note_one.f cdv)).units + 9 < cLine := by have := hr.units; omega
    refine ⟨_, (pss_one (ps_if (pt_cmpR (op_neD hr.units) (KN.pe_nsetd hu9 (pv 0) (pv 1) (pv 2) ⟨rfl, rfl, rfl, rfl⟩) (pv 2) (nomark _)) (pss_one (KN.ps_nput hu9 (pv 0) (pv 1) (pe_glob (v := .str "many") rfl g_MANY ⟨_, rfl⟩) rfl)) pss_nil)), ?_⟩
    obtain ⟨kvs, h1, h2, h3⟩ := hf
    refine ⟨_, rfl, a, rfl, h1.isN, _, rfl, _, rfl, kvs, k, b, h1, by omega, rfl, hk, hk8, fun v hv => ?_, fun hv H4 pt => ?_⟩
    · rcases h3 k with ⟨g1, g2⟩ | ⟨d, v', g1, g2, g3⟩
      · rw [hv] at g2; cases g2
      · rw [hv] at g2
        cases g2
        have sd := sf d g1
        refine ⟨_, rfl, d.data, x.data, fine_dp sd.2 g3, fine_dp sx.2 hx, sd.1, sx.1, _, rfl, ?_⟩
        rw [key_eqv, ← NestedKey.decide_eq]
        by_cases c : d = x
        · rw [decide_eq_true c]
          refine iteF (q H (fun b o _ h => h) ⟨kvs, h1, by omega, fun j => ?_⟩)
          unfold noteF nv
          rw [g1]
          by_cases e : j = k
          · rw [if_pos e]
            refine .inr ⟨d, v, by simp [c], by rw [e]; exact hv, g3⟩
          · rw [if_neg e]
            exact h3 j
        · rw [decide_eq_false c]
          refine iteT ⟨_, rfl, _, rfl, a, kvs, k, b, rfl, h1, by omega, rfl, hk, hk8, fun H4 pt => ?_⟩
          have e : noteF f k x = fun j => if j = k then some manyK else f j := by
            funext j
            unfold noteF nv
            rw [g1]
            simp [c]
          have := NDF.put (d := manyK) h3 h2 (show Dt H manyK.data (.str "many") from rfl) h1 pt
          rw [← e] at this
          obtain ⟨kv2, i1, i2, i3⟩ := this
          exact q H4 (fun b o h e => pt.2 b o h e) ⟨kv2, i1, by omega, i3⟩
    · have g1 : f k = none := by
        rcases h3 k with ⟨g1, _⟩ | ⟨d, v', g1, g2, g3⟩
        · exact g1
        · rw [hv] at g2; cases g2
      have t4 := h1.tuk pt.2
      refine ⟨_, rfl, x.data, x.data, fine_dp sx.2 (key_stays t4 hx), fine_dp sx.2 (key_stays t4 hx), sx.1, sx.1, _, rfl, ?_⟩
      rw [key_eqv, ← NestedKey.decide_eq, decide_eq_true rfl]
      refine iteF ?_
      have e : noteF f k x = fun j => if j = k then some x else f j := by
        funext j
        unfold noteF nv
        rw [g1]
      have := NDF.put (d := x) h3 h2 hx h1 pt
      rw [← e] at this
      obtain ⟨kv2, i1, i2, i3⟩ := this
      exact q H4 (fun b o h e => pt.2 b o h e) ⟨kv2, i1, by omega, i3⟩
/-- events at p -/
def EvsAt (H : Hp) (p : Addr) (es : List Ev) : Prop := ∃ us, Tu H p us ∧ DtL H (es.map Ev.d) us
theorem EvsAt.same {H H' : Hp} {p : Addr} {es : List Ev} (h : EvsAt H p es) (e : Same H H') : EvsAt H' p es := by
  obtain ⟨us, h1, h2⟩ := h
  exact ⟨us, h1.same e, DqL.same h2 e⟩
theorem ev_at {H : Hp} : ∀ {es : List Ev} {us : List V} {i : Nat} {v : V}, DtL H (es.map Ev.d) us → us[i]? = some v → ∃ e, es[i]? = some e ∧ Dt H e.d v := by
  intro es us i v h e
  obtain ⟨d, e1, e2⟩ := DqL.get h e
  rw [List.getElem?_map] at e1
  cases hp : es[i]? with
  | none => rw [hp] at e1; cases e1
  | some x =>
    rw [hp] at e1
    cases Option.some.inj e1
    exact ⟨x, rfl, e2⟩
theorem ev_nth {H : Hp} {es : List Ev} {us : List V} {i : Nat} {e : Ev} (h : DtL H (es.map Ev.d) us) (he : es[i]? = some e) : ∃ v, us[i]? = some v ∧ Dt H e.d v :=
  DqL.nth h (by rw [List.getElem?_map, he]; rfl)
def resD : Option (Ev × Ev) → PyData
  | none => .none
  | some (a, b) => .tuple [a.d, b.d]
def spFirst : Sp := fun vs H Q _ => ∃ (n p : Addr) (nm : List Str) (es : List Ev) (k : Nat) (e : Ev), vs = [.ref n, .ref p, .int (k : Nat)] ∧ H n = some (.lst (nm.map V.str)) ∧ EvsAt H p es ∧ (∀ e ∈ es, EvOk e) ∧ es[k]? = some e ∧
  ∀ v H', Same H H' → Dt H' (resD ((es.find? fun f => clashB nm f e).map fun f => (f, e))) v → Q v H'
theorem find_take {α : Type} {g : α → Bool} : ∀ {xs : List α} {i : Nat} {x : α}, xs[i]? = some x → (∀ y ∈ xs.take i, g y = false) → g x = true → xs.find? g = some x
  | [], _, _, e, _, _ => by cases e
  | y :: xs, 0, x, e, _, h => by
    cases Option.some.inj e
    rw [List.find?_cons, h]
  | y :: xs, i + 1, x, e, hn, h => by
    rw [List.find?_cons, hn y (by rw [List.take_succ_cons]; exact List.mem_cons_self ..)]
    exact find_take (i := i) (by simpa using e) (fun z hz => hn z (by rw [List.take_succ_cons]; exact List.mem_cons_of_mem _ hz)) h
theorem ok_first (T : TxL K mg) : FnOk P w K mg base CX0 3 T.first_clash.f T.first_clash.d ["near", "events", "number"] spFirst := by
  have G_do_clash : FnOk P w K mg base CX0 2 T.do_clash.f T.do_clash.d ["near", "one", "other"] spDoClash := ok_do_clash T
  refine T.first_clash.F.ok sc_first_clash (fun vs H Q E h => ?_) (fun cdv A outer s0 H vs Q E hr h => ?_)
  · obtain ⟨n, p, nm, es, k, e, rfl, _⟩ := h
    rfl
  · obtain ⟨n, p, nm, es, k, e, rfl, hn, ⟨us, hp, hus⟩, ok, he, q⟩ := h
    have r_do_clash := hr
    refine ⟨_, (pss_cons (ps_for PassesOwn.never rfl (pi_tup (pv 1)) (pg_name (i := 3) sc_first_clash.nd rfl (.inl rfl)) (pss_one (ps_if (pt_val (pe_call G_do_clash r_do_clash (by rfl) T.do_clash.g T.do_clash.F.kp T.do_clash.b .nil pass0 (pa_cons (pv 0) (pa_cons (pv 3) (pa_cons (pe_ix ix_tup (pv 1) (pv 2) (fun _ _ => rfl)) pa_nil))))) (pss_one (ps_ret (pe_tupF (pa_cons (pv 3) (pa_cons (pe_ix ix_tup (pv 1) (pv 2) (fun _ _ => rfl)) pa_nil))))) pss_nil)))
      (pss_one (ps_ret pe_non))), ?_⟩
    obtain ⟨ve, hve, hde⟩ := ev_nth hus he
    refine ⟨_, rfl, p, rfl, ⟨_, hp.sq⟩, ?_⟩
    refine for_tup (K := K) (a := p) (xs := us) (fun i σ H' => ∃ x3, σ = [some (.ref n), some (.ref p), some (.int (k : Nat)), x3] ∧ Same H H' ∧ ∀ f ∈ es.take i, clashB nm f e = false) ⟨none, rfl, Same.refl _, fun f h => by cases h⟩
      (fun i σ H' hi h => by obtain ⟨_, _, sm, _⟩ := h; exact (hp.same sm).sq) (fun i x σ H' hx h => ?_) (fun σ H' h => ?_)
    · obtain ⟨x3, rfl, sm, hno⟩ := h
      obtain ⟨f, hf, hdf⟩ := ev_at hus hx
      refine ⟨_, rfl, _, rfl, _, rfl, _, rfl, p, _, _, _, rfl, rfl, (hp.same sm).sq, atI_nat hve, n, x, ve, nm, f, e, rfl, sm _ _ hn, ok f (List.mem_of_getElem? hf), ok e (List.mem_of_getElem? he), hdf.same sm, hde.same sm, fun H1 s1 => ?_⟩
      have s01 := sm.trans s1
      refine ⟨_, rfl, ?_⟩
      cases c : clashB nm f e with
      | true =>
        refine iteT ⟨_, rfl, _, rfl, _, rfl, p, _, _, _, rfl, rfl, (hp.same s01).sq, atI_nat hve, (by show 2 ≤ 5000; omega), fun p2 H2 s2 np2 hp2 => ?_⟩
        have e0 : es.find? (fun f => clashB nm f e) = some f := find_take hf hno c
        rw [e0] at q
        exact q _ H2 (s01.trans s2) (.mk trivial hp2 (.two (hdf.same (s01.trans s2)) (hde.same (s01.trans s2))))
      | false => exact iteF ⟨_, rfl, s01, fun g hg => by
          rw [take_snoc hf, List.mem_append, List.mem_singleton] at hg
          rcases hg with hg | hg
          · exact hno g hg
          · rw [hg]; exact c⟩
    · obtain ⟨x3, rfl, sm, hno⟩ := h
      have e0 : es.find? (fun f => clashB nm f e) = none := by
        rw [List.find?_eq_none]
        intro f hf
        have hl := hus.len
        rw [List.length_map] at hl
        rw [hno f (by rw [List.take_of_length_le (by omega)]; exact hf)]
        exact Bool.false_ne_true
      rw [e0] at q
      exact q .non H' sm rfl
end
end LW

set_option Elab.async false
set_option linter.all false
set_option maxRecDepth 100000
set_option maxHeartbeats 4000000
/-! what is noted tells whether an event clashes with one ahead -/
namespace LW
open PySem PySem.Spec PyProof.Rows L2 KN
def whoK (e : Ev) : NestedKey := .tup [.num e.g, .num e.l]
def kG (P : NestedKey) (s : Str) : NestedKey := .tup [P, .text s]
def kL (P : NestedKey) (s : Str) (g i : Int) : NestedKey := .tup [kG P s, .num g, .num i]
theorem kG_inj {P P' : NestedKey} {s s' : Str} : kG P s = kG P' s' ↔ P = P' ∧ s = s' := by
  constructor
  · intro h
    injection h with h
    injection h with h1 h
    injection h with h2 _
    injection h2 with h2
    exact ⟨h1, h2⟩
  · rintro ⟨rfl, rfl⟩
    rfl
theorem kL_inj {P P' : NestedKey} {s s' : Str} {g g' i i' : Int} : kL P s g i = kL P' s' g' i' ↔ P = P' ∧ s = s' ∧ g = g' ∧ i = i' := by
  constructor
  · intro h
    injection h with h
    injection h with h1 h
    injection h with h2 h
    injection h with h3 _
    injection h2 with h2
    injection h3 with h3
    have := kG_inj.mp h1
    exact ⟨this.1, this.2, h2, h3⟩
  · rintro ⟨rfl, rfl, rfl, rfl⟩
    rfl
theorem whoK_eq (a b : Ev) : whoK a = whoK b ↔ a.g = b.g ∧ a.l = b.l := by
  constructor
  · intro h
    injection h with h
    injection h with h1 h
    injection h with h2 _
    injection h1 with h1
    injection h2 with h2
    exact ⟨h1, h2⟩
  · rintro ⟨h1, h2⟩
    unfold whoK
    rw [h1, h2]
def stepG (nm : List Str) (f : NestedKey → Option NestedKey) (e : Ev) : NestedKey → Option NestedKey := noteF (noteF f (kG (plK nm e) "any") (.num e.g)) (kG (plK nm e) e.kind) (.num e.g)
def stepL (nm : List Str) (f : NestedKey → Option NestedKey) (e : Ev) : NestedKey → Option NestedKey := noteF (noteF f (kL (plK nm e) "any" e.g e.i) (whoK e)) (kL (plK nm e) e.kind e.g e.i) (whoK e)
def gF (nm : List Str) (es : List Ev) : NestedKey → Option NestedKey := es.foldl (stepG nm) fun _ => none
def lF (nm : List Str) (es : List Ev) : NestedKey → Option NestedKey := es.foldl (stepL nm) fun _ => none
theorem note2 {f : NestedKey → Option NestedKey} {k1 k2 x j : NestedKey} (ne : k1 ≠ k2) : noteF (noteF f k1 x) k2 x j = if j = k1 ∨ j = k2 then nv (f j) x else f j := by
  unfold noteF
  by_cases c : j = k2
  · rw [if_pos c, if_neg (fun e : k2 = k1 => ne e.symm), if_pos (Or.inr c : j = k1 ∨ j = k2), c]
  · rw [if_neg c]
    by_cases d : j = k1
    · rw [if_pos d, if_pos (Or.inl d : j = k1 ∨ j = k2), d]
    · rw [if_neg d, if_neg (fun z : j = k1 ∨ j = k2 => z.elim d c)]
def mG (nm : List Str) (P : NestedKey) (s : Str) (e : Ev) : Bool := decide (plK nm e = P) && (decide (s = "any") || decide (e.kind = s))
theorem foldG (nm : List Str) (P : NestedKey) (s : Str) : ∀ (es : List Ev) (f : NestedKey → Option NestedKey), (∀ e ∈ es, e.kind ≠ "any") → es.foldl (stepG nm) f (kG P s) = ((es.filter (mG nm P s)).map fun e => NestedKey.num e.g).foldl nv (f (kG P s))
  | [], f, _ => rfl
  | e :: es, f, h => by
    rw [List.foldl_cons, foldG nm P s es _ fun x hx => h x (List.mem_cons_of_mem _ hx)]
    have hk := h e (List.mem_cons_self ..)
    have e1 : stepG nm f e (kG P s) = if mG nm P s e = true then nv (f (kG P s)) (.num e.g) else f (kG P s) := by
      unfold stepG
      rw [note2 (fun z => hk (kG_inj.mp z).2.symm)]
      have : (kG P s = kG (plK nm e) "any" ∨ kG P s = kG (plK nm e) e.kind) ↔ mG nm P s e = true := by
        rw [kG_inj, kG_inj]
        unfold mG
        rw [Bool.and_eq_true, Bool.or_eq_true, decide_eq_true_iff, decide_eq_true_iff, decide_eq_true_iff]
        constructor
        · rintro (⟨h1, h2⟩ | ⟨h1, h2⟩)
          · exact ⟨h1.symm, .inl h2⟩
          · exact ⟨h1.symm, .inr h2.symm⟩
        · rintro ⟨h1, h2 | h2⟩
          · exact .inl ⟨h1.symm, h2⟩
          · exact .inr ⟨h1.symm, h2.symm⟩
      by_cases c : mG nm P s e = true
      · rw [if_pos c, if_pos (this.mpr c)]
      · rw [if_neg c, if_neg (fun z => c (this.mp z))]
    rw [e1, List.filter_cons]
    by_cases c : mG nm P s e = true
    · rw [if_pos c, if_pos c, List.map_cons, List.foldl_cons]
    · rw [if_neg c, if_neg c]
def mL (nm : List Str) (P : NestedKey) (s : Str) (g i : Int) (e : Ev) : Bool := mG nm P s e && decide (e.g = g) && decide (e.i = i)
theorem foldL (nm : List Str) (P : NestedKey) (s : Str) (g i : Int) : ∀ (es : List Ev) (f : NestedKey → Option NestedKey), (∀ e ∈ es, e.kind ≠ "any") → es.foldl (stepL nm) f (kL P s g i) = ((es.filter (mL nm P s g i)).map whoK).foldl nv (f (kL P s g i))
  | [], f, _ => rfl
  | e :: es, f, h => by
    rw [List.foldl_cons, foldL nm P s g i es _ fun x hx => h x (List.mem_cons_of_mem _ hx)]
    have hk := h e (List.mem_cons_self ..)
    have e1 : stepL nm f e (kL P s g i) = if mL nm P s g i e = true then nv (f (kL P s g i)) (whoK e) else f (kL P s g i) := by
      unfold stepL
      rw [note2 (fun z => hk (kL_inj.mp z).2.1.symm)]
      have : (kL P s g i = kL (plK nm e) "any" e.g e.i ∨ kL P s g i = kL (plK nm e) e.kind e.g e.i) ↔ mL nm P s g i e = true := by
        rw [kL_inj, kL_inj]
        unfold mL mG
        simp only [Bool.and_eq_true, Bool.or_eq_true, decide_eq_true_iff]
        constructor
        · rintro (⟨h1, h2, h3, h4⟩ | ⟨h1, h2, h3, h4⟩)
          · exact ⟨⟨⟨h1.symm, .inl h2⟩, h3.symm⟩, h4.symm⟩
          · exact ⟨⟨⟨h1.symm, .inr h2.symm⟩, h3.symm⟩, h4.symm⟩
        · rintro ⟨⟨⟨h1, h2 | h2⟩, h3⟩, h4⟩
          · exact .inl ⟨h1.symm, h2, h3.symm, h4.symm⟩
          · exact .inr ⟨h1.symm, h2.symm, h3.symm, h4.symm⟩
      by_cases c : mL nm P s g i e = true
      · rw [if_pos c, if_pos (this.mpr c)]
      · rw [if_neg c, if_neg (fun z => c (this.mp z))]
    rw [e1, List.filter_cons]
    by_cases c : mL nm P s g i e = true
    · rw [if_pos c, if_pos c, List.map_cons, List.foldl_cons]
    · rw [if_neg c, if_neg c]
theorem nv_get {o : Option NestedKey} {x w : NestedKey} (hx : x ≠ manyK) (hw : w ≠ manyK) : (nv o x).getD w = w ↔ o.getD w = w ∧ x = w := by
  cases o with
  | none =>
    show x = w ↔ w = w ∧ x = w
    exact ⟨fun h => ⟨rfl, h⟩, fun h => h.2⟩
  | some d =>
    show (if d = x then some d else some manyK).getD w = w ↔ d = w ∧ x = w
    by_cases c : d = x
    · rw [if_pos c, ← c]
      exact ⟨fun h => ⟨h, h⟩, fun h => h.1⟩
    · rw [if_neg c]
      exact ⟨fun h => absurd h.symm hw, fun h => absurd (h.1.trans h.2.symm) c⟩
theorem fold_get {w : NestedKey} (hw : w ≠ manyK) : ∀ (ws : List NestedKey) (o : Option NestedKey), (∀ x ∈ ws, x ≠ manyK) → ((ws.foldl nv o).getD w = w ↔ o.getD w = w ∧ ∀ x ∈ ws, x = w)
  | [], o, _ => ⟨fun h => ⟨h, fun x hx => by cases hx⟩, fun h => h.1⟩
  | x :: ws, o, h => by
    rw [List.foldl_cons, fold_get hw ws _ fun y hy => h y (List.mem_cons_of_mem _ hy), nv_get (h x (List.mem_cons_self ..)) hw]
    constructor
    · rintro ⟨⟨h1, h2⟩, h3⟩
      exact ⟨h1, fun y hy => (List.mem_cons.mp hy).elim (fun e => e ▸ h2) (h3 y)⟩
    · rintro ⟨h1, h2⟩
      exact ⟨⟨h1, h2 x (List.mem_cons_self ..)⟩, fun y hy => h2 y (List.mem_cons_of_mem _ hy)⟩
def seenS (e : Ev) : Str := if isSt e = true then "any" else "store"
theorem mG_seen (nm : List Str) (e f : Ev) : mG nm (plK nm e) (seenS e) f = true ↔ plK nm f = plK nm e ∧ (isSt f || isSt e) = true := by
  unfold mG seenS
  rw [Bool.and_eq_true, decide_eq_true_iff]
  cases c : isSt e with
  | true => simp
  | false =>
    have e1 : decide (("store" : Str) = "any") = false := by decide +kernel
    rw [if_neg Bool.false_ne_true, e1, Bool.false_or, Bool.or_false]
    rfl
/-- no event of these clashes with it -/
theorem no_hit (nm : List Str) (es : List Ev) (e : Ev) (hk : ∀ f ∈ es, f.kind ≠ "any") :
    ((gF nm es (kG (plK nm e) (seenS e))).getD (.num e.g) = .num e.g ∧ (lF nm es (kL (plK nm e) (seenS e) e.g e.i)).getD (whoK e) = whoK e) ↔ ∀ f ∈ es, clashB nm f e = false := by
  have n1 : ∀ i : Int, NestedKey.num i ≠ manyK := fun i h => by cases h
  have n2 : ∀ f : Ev, whoK f ≠ manyK := fun f h => by cases h
  unfold gF lF
  rw [foldG nm _ _ es _ hk, foldL nm _ _ _ _ es _ hk, fold_get (n1 _) _ _ (fun x hx => by obtain ⟨f, _, rfl⟩ := List.mem_map.mp hx; exact n1 _), fold_get (n2 _) _ _ (fun x hx => by obtain ⟨f, _, rfl⟩ := List.mem_map.mp hx; exact n2 _)]
  have key : ∀ f ∈ es, (clashB nm f e = false ↔ (mG nm (plK nm e) (seenS e) f = true → f.g = e.g ∧ (f.i = e.i → f.l = e.l))) := fun f _ => by
    rw [mG_seen]
    unfold clashB
    by_cases a : plK nm f = plK nm e
    · cases b : (isSt f || isSt e) with
      | false => simp [a]
      | true =>
        by_cases c : f.g = e.g <;> by_cases d : f.l = e.l <;> by_cases z : f.i = e.i <;> simp [a, c, d, z]
    · simp [a]
  constructor
  · rintro ⟨⟨_, h1⟩, ⟨_, h2⟩⟩ f hf
    rw [key f hf]
    intro m
    have g1 : f.g = e.g := by
      have := h1 (.num f.g) (List.mem_map.mpr ⟨f, List.mem_filter.mpr ⟨hf, m⟩, rfl⟩)
      injection this
    refine ⟨g1, fun z => ?_⟩
    have := h2 (whoK f) (List.mem_map.mpr ⟨f, List.mem_filter.mpr ⟨hf, by unfold mL; rw [m, decide_eq_true g1, decide_eq_true z]; rfl⟩, rfl⟩)
    exact ((whoK_eq f e).mp this).2
  · intro h
    refine ⟨⟨rfl, fun x hx => ?_⟩, ⟨rfl, fun x hx => ?_⟩⟩
    · obtain ⟨f, hf, rfl⟩ := List.mem_map.mp hx
      obtain ⟨hf, m⟩ := List.mem_filter.mp hf
      rw [((key f hf).mp (h f hf) m).1]
    · obtain ⟨f, hf, rfl⟩ := List.mem_map.mp hx
      obtain ⟨hf, m⟩ := List.mem_filter.mp hf
      unfold mL at m
      rw [Bool.and_eq_true, Bool.and_eq_true, decide_eq_true_iff, decide_eq_true_iff] at m
      exact (whoK_eq f e).mpr ⟨m.1.2, ((key f hf).mp (h f hf) m.1.1).2 m.2⟩
/-- all that is noted is fine -/
def AllSh (f : NestedKey → Option NestedKey) : Prop := ∀ k d, f k = some d → shK d
theorem AllSh.note {f : NestedKey → Option NestedKey} {k x : NestedKey} (h : AllSh f) (hx : shK x) : AllSh (noteF f k x) := fun j d e => by
  unfold noteF at e
  by_cases c : j = k
  · rw [if_pos c] at e
    unfold nv at e
    cases g : f k with
    | none =>
      rw [g] at e
      cases e
      exact hx
    | some y =>
      rw [g] at e
      have e' : (if y = x then some y else some manyK) = some d := e
      by_cases b : y = x
      · rw [if_pos b] at e'
        cases e'
        exact h _ _ g
      · rw [if_neg b] at e'
        cases e'
        exact many_sh
  · rw [if_neg c] at e
    exact h _ _ e
theorem num_sh {e : Ev} (h : EvOk e) : shK (.num e.g) := ⟨fine_shaped h.parts.1 (by show PyData.depth (.int e.g) ≤ 64; simp only [PyData.depth]; omega), h.parts.1⟩
theorem whoK_sh {e : Ev} (h : EvOk e) : shK (whoK e) := ⟨who_sh h, h.who⟩
theorem gF_snoc (nm : List Str) (es : List Ev) (e : Ev) : gF nm (es ++ [e]) = stepG nm (gF nm es) e := by
  unfold gF
  rw [List.foldl_append]
  rfl
theorem lF_snoc (nm : List Str) (es : List Ev) (e : Ev) : lF nm (es ++ [e]) = stepL nm (lF nm es) e := by
  unfold lF
  rw [List.foldl_append]
  rfl
/-- the first two events that clash -/
def firstC (nm : List Str) : List Ev → List Ev → Option (Ev × Ev)
  | _, [] => none
  | done, e :: r => match done.find? (fun f => clashB nm f e) with
    | some f => some (f, e)
    | none => firstC nm (done ++ [e]) r
end LW

set_option Elab.async false
set_option linter.all false
set_option maxRecDepth 100000
set_option maxHeartbeats 4000000
/-! the program: the first two events that clash -/
namespace LW
open PySem PySem.Spec PyProof.Rows L2 KN
theorem find_app {g : Ev → Bool} {a b : List Ev} {f : Ev} (h : a.find? g = some f) : (a ++ b).find? g = some f := by
  rw [List.find?_append, h]
  rfl
theorem firstC_skip {nm : List Str} {es : List Ev} {i : Nat} {e : Ev} (he : es[i]? = some e) (h : ∀ f ∈ es.take i, clashB nm f e = false) : firstC nm (es.take i) (es.drop i) = firstC nm (es.take (i + 1)) (es.drop (i + 1)) := by
  rw [drop_at he]
  have : (es.take i).find? (fun f => clashB nm f e) = none := by
    rw [List.find?_eq_none]
    intro f hf
    rw [h f hf]
    exact Bool.false_ne_true
  show (match (es.take i).find? (fun f => clashB nm f e) with | some f => some (f, e) | none => firstC nm (es.take i ++ [e]) (es.drop (i + 1))) = _
  rw [this, take_snoc he]
theorem firstC_hit {nm : List Str} {es : List Ev} {i : Nat} {e : Ev} (he : es[i]? = some e) (h : ¬ ∀ f ∈ es.take i, clashB nm f e = false) : firstC nm (es.take i) (es.drop i) = (es.find? fun f => clashB nm f e).map fun f => (f, e) := by
  rw [drop_at he]
  show (match (es.take i).find? (fun f => clashB nm f e) with | some f => some (f, e) | none => firstC nm (es.take i ++ [e]) (es.drop (i + 1))) = _
  cases c : (es.take i).find? (fun f => clashB nm f e) with
  | none =>
    refine absurd (fun f hf => ?_) h
    have := List.find?_eq_none.mp c f hf
    exact Bool.eq_false_iff.mpr this
  | some f =>
    have e2 : es.find? (fun f => clashB nm f e) = some f := by
      have := find_app (b := es.drop i) c
      rwa [List.take_append_drop] at this
    rw [e2]
    rfl
section
variable {P : Program} {w : World} {K : PySem.W.Frag} {mg : Str → Option Value} {base : Heap}
theorem ndf_get {H : Hp} {f : NestedKey → Option NestedKey} {kvs : List (NestedKey × V)} {k x : NestedKey} {z : V} (h : (f k = none ∧ valV kvs k = none) ∨ ∃ d v, f k = some d ∧ valV kvs k = some v ∧ Dt H d.data v) (hx : Dt H x.data z) : Dt H ((f k).getD x).data ((valV kvs k).getD z) := by
  rcases h with ⟨g1, g2⟩ | ⟨d, v, g1, g2, g3⟩
  · rw [g1, g2]; exact hx
  · rw [g1, g2]; exact g3
theorem AllSh.get {f : NestedKey → Option NestedKey} (h : AllSh f) {k x : NestedKey} (hx : shK x) : shK ((f k).getD x) := by
  cases e : f k with
  | none => exact hx
  | some d => exact h k d e
theorem depthN_ints : ∀ ns : List Int, NestedKey.depthAll (ns.map NestedKey.num) = 0
  | [] => rfl
  | n :: ns => by
    show max 0 (NestedKey.depthAll (ns.map NestedKey.num)) = 0
    rw [depthN_ints ns]
    rfl
theorem plK_depth (nm : List Str) (e : Ev) : (plK nm e).depth ≤ 2 := by
  have : (grK nm e).depth = 0 := by
    unfold grK
    split <;> rfl
  show max 0 (max (grK nm e).depth (max (NestedKey.depthAll (e.cell.map NestedKey.num) + 1) 0)) + 1 ≤ 2
  rw [this, depthN_ints]
  decide
theorem kG_depth (nm : List Str) (e : Ev) (s : Str) : (kG (plK nm e) s).depth ≤ 8 := by
  have := plK_depth nm e
  show max (plK nm e).depth (max 0 0) + 1 ≤ 8
  omega
theorem kL_depth (nm : List Str) (e : Ev) (s : Str) (g i : Int) : (kL (plK nm e) s g i).depth ≤ 8 := by
  have := plK_depth nm e
  show max (max (plK nm e).depth (max 0 0) + 1) (max 0 (max 0 0)) + 1 ≤ 8
  omega
def spClash (P : Program) (w : World) : Sp := fun vs H Q _ => ∃ (v : V) (p : Addr) (x y z : PyData) (ns : List (Str × List PyData)) (es : List Ev), vs = [v, .ref p] ∧ Dt H (kernD x y ns z) v ∧ ns.length ≤ 100 ∧ EvsAt H p es ∧ es.length ≤ 5000 ∧ (∀ e ∈ es, EvOk e ∧ e.kind ≠ "any") ∧
  ∀ v' H', Same H H' → Dt H' (resD (firstC (nmsN ns) [] es)) v' → Q v' H'
theorem Tu.tk {H H' : Hp} {a : Addr} {xs : List V} (h : Tu H a xs) (t : TuK H H') : Tu H' a xs := by
  obtain ⟨o, h1, h2⟩ := h
  exact ⟨o, t _ _ _ h1, h2⟩
def fgJ (nm : List Str) (f : NestedKey → Option NestedKey) (e : Ev) : Nat → NestedKey → Option NestedKey
  | 0 => f
  | 1 => noteF f (kG (plK nm e) "any") (.num e.g)
  | _ + 2 => stepG nm f e
def flJ (nm : List Str) (f : NestedKey → Option NestedKey) (e : Ev) : Nat → NestedKey → Option NestedKey
  | 0 => f
  | 1 => noteF f (kL (plK nm e) "any" e.g e.i) (whoK e)
  | _ + 2 => stepL nm f e
theorem fJ_step (nm : List Str) (f g : NestedKey → Option NestedKey) (e : Ev) {j : Nat} {x : V} (hx : ([.str "any", .str e.kind] : List V)[j]? = some x) :
    ∃ s, x = .str s ∧ fgJ nm f e (j + 1) = noteF (fgJ nm f e j) (kG (plK nm e) s) (.num e.g) ∧ flJ nm g e (j + 1) = noteF (flJ nm g e j) (kL (plK nm e) s e.g e.i) (whoK e) := by
  match j, hx with
  | 0, hx => cases Option.some.inj hx; exact ⟨_, rfl, rfl, rfl⟩
  | 1, hx => cases Option.some.inj hx; exact ⟨_, rfl, rfl, rfl⟩
  | j + 2, hx => cases hx
theorem see_if {σ : L2.St} {H : Hp} {R : VK} {e : Ev} (h : R (.str (seenS e)) H) : if decide (V.str e.kind = V.str "store") = true then tC (V.str "any") σ H R else tC (V.str "store") σ H R := by
  rw [dec_str]
  unfold seenS isSt at h
  by_cases c : e.kind = "store"
  · rw [decide_eq_true c] at h ⊢
    exact iteT h
  · rw [decide_eq_false c] at h ⊢
    exact iteF h
theorem same_kpA {H H1 H2 : Hp} {a : Addr} (s : Same H H1) (k : KpA a H1 H2) (n : H a = none) : Same H H2 := fun b o e => k b o (ne_of_none e n) (s b o e)
theorem ok_clash (T : TxL K mg) : FnOk P w K mg base CX0 4 T.clash_of.f T.clash_of.d ["kernel", "events"] (spClash P w) := by
  have G_near_names : FnOk P w K mg base CX0 1 T.near_names.f T.near_names.d ["kernel"] spNear := ok_near T
  have G_place_of : FnOk P w K mg base CX0 1 T.place_of.f T.place_of.d ["near", "event"] spPlace := ok_place T
  have G_note_one : FnOk P w K mg base CX0 1 T.note_one.f T.note_one.d ["seen", "key", "who"] (spNote P w) := ok_note T
  have G_first_clash : FnOk P w K mg base CX0 3 T.first_clash.f T.first_clash.d ["near", "events", "number"] spFirst := ok_first T
  refine T.clash_of.F.ok sc_clash_of (fun vs H Q E h => ?_) (fun cdv A outer s0 H vs Q E hr h => ?_)
  · obtain ⟨v, p, x, y, z, ns, es, rfl, _⟩ := h
    rfl
  · obtain ⟨v, p, x, y, z, ns, es, rfl, hd, hl, ⟨us, hp, hus⟩, hel, hok, q⟩ := h
    have hu9 : (A.deeper (envOfC "clash_of" (defScope s_clash_of) s0.heap.objs.size T.clash_of.f cdv)).units + 9 < cLine := by have := hr.units; omega
    have r_near_names := hr.mono (show 1 ≤ 3 by decide)
    have r_place_of := r_near_names
    have r_note_one := r_near_names
    have r_first_clash := hr
    refine ⟨_, (pss_cons (ps_set (i := 2) sc_clash_of.nd rfl (.inl rfl) (pe_call G_near_names r_near_names (by rfl) T.near_names.g T.near_names.F.kp T.near_names.b .nil pass0 (pa_cons (pv 0) pa_nil)))
      (pss_cons (ps_set (i := 3) sc_clash_of.nd rfl (.inl rfl) KN.pe_nnew)
      (pss_cons (ps_set (i := 4) sc_clash_of.nd rfl (.inl rfl) KN.pe_nnew)
      (pss_cons (ps_for PassesOwn.never rfl (KEn.pi_num (by rfl) T.n_enumerate (pa_cons (pv 1) pa_nil)) (pg_tup rfl (pgs_cons (pg_name (i := 5) sc_clash_of.nd rfl (.inl rfl)) (pgs_cons (pg_name (i := 6) sc_clash_of.nd rfl (.inl rfl)) pgs_nil))) (pss_cons (ps_par3 (i := 7) (j := 8) (l := 9) (by rfl) sc_clash_of.nd rfl rfl rfl (by decide) (by decide) (by decide) rfl rfl rfl (pa_cons (pe_ix ix_tup (pv 6) pe_int (fun _ _ => rfl)) (pa_cons (pe_ix ix_tup (pv 6) pe_int (fun _ _ => rfl)) (pa_cons (pe_ix ix_tup (pv 6) pe_int (fun _ _ => rfl)) pa_nil))) (by rfl))
      (pss_cons (ps_set (i := 10) sc_clash_of.nd rfl (.inl rfl) (pe_call G_place_of r_place_of (by rfl) T.place_of.g T.place_of.F.kp T.place_of.b .nil pass0 (pa_cons (pv 2) (pa_cons (pv 6) pa_nil))))
      (pss_cons (ps_set (i := 11) sc_clash_of.nd rfl (.inl rfl) (pe_tupF (pa_cons (pv 10) (pa_cons (pe_ifExp (pt_cmpR op_eq (pv 9) pe_str (nomark _)) pe_str pe_str) pa_nil))))
      (pss_cons (ps_if (PW.pt (pw_or (pt_cmpR (op_neD hr.units) (KN.pe_nget2 hu9 (pv 3) (pv 11) (pe_ix ix_tup (pv 7) pe_int (fun _ _ => rfl)) ⟨rfl, rfl, rfl, rfl⟩) (pe_ix ix_tup (pv 7) pe_int (fun _ _ => rfl)) (nomark _)) (pw_or1 (pt_cmpR (op_neD hr.units) (KN.pe_nget2 hu9 (pv 4) (pe_tupF (pa_cons (pv 11) (pa_cons (pe_ix ix_tup (pv 7) pe_int (fun _ _ => rfl)) (pa_cons (pv 8) pa_nil)))) (pv 7) ⟨rfl, rfl, rfl, rfl⟩) (pv 7) (nomark _))))) (pss_one (ps_ret (pe_call G_first_clash r_first_clash (by rfl) T.first_clash.g T.first_clash.F.kp T.first_clash.b .nil pass0 (pa_cons (pv 2) (pa_cons (pv 1) (pa_cons (pv 5) pa_nil)))))) pss_nil)
      (pss_one (ps_for PassesOwn.never rfl (pi_tup (pe_tupF (pa_cons pe_str (pa_cons (pv 9) pa_nil)))) (pg_name (i := 12) sc_clash_of.nd rfl (.inl rfl)) (pss_cons (ps_expr (pe_call G_note_one r_note_one (by rfl) T.note_one.g T.note_one.F.kp T.note_one.b .nil pass0 (pa_cons (pv 3) (pa_cons (pe_tupF (pa_cons (pv 10) (pa_cons (pv 12) pa_nil))) (pa_cons (pe_ix ix_tup (pv 7) pe_int (fun _ _ => rfl)) pa_nil)))))
      (pss_one (ps_expr (pe_call G_note_one r_note_one (by rfl) T.note_one.g T.note_one.F.kp T.note_one.b .nil pass0 (pa_cons (pv 4) (pa_cons (pe_tupF (pa_cons (pe_tupF (pa_cons (pv 10) (pa_cons (pv 12) pa_nil))) (pa_cons (pe_ix ix_tup (pv 7) pe_int (fun _ _ => rfl)) (pa_cons (pv 8) pa_nil)))) (pa_cons (pv 7) pa_nil))))))))))))))
      (pss_one (ps_ret pe_non)))))), ?_⟩
    have hlen := hus.len
    rw [List.length_map] at hlen
    refine ⟨_, rfl, v, x, y, z, ns, rfl, hd, hl, fun n H1 s1 nn hn => ?_⟩
    refine fun g1 H2 s2 ng h2g => fun g2 H3 s3 nl h3l => ?_
    have s02 := s1.trans s2
    have s03 := s02.trans s3
    have n1 : H g1 = none := s1.free ng
    have n2 : H g2 = none := s02.free nl
    have h3g := h2g.same s3
    have ne12 : g1 ≠ g2 := by
      obtain ⟨o, ho⟩ := h2g.some
      exact ne_of_none ho nl
    have nen1 : n ≠ g1 := ne_of_none hn ng
    have nen2 : n ≠ g2 := ne_of_none (s2 _ _ hn) nl
    refine ⟨_, rfl, p, us, rfl, (hp.same s03).sq, ?_⟩
    refine KEn.for_num (K := K) (a := p) (xs := us) (fun i σ H' => ∃ x5 x6 x7 x8 x9 x10 x11 x12, σ = [some v, some (.ref p), some (.ref n), some (.ref g1), some (.ref g2), x5, x6, x7, x8, x9, x10, x11, x12] ∧ Same H H' ∧ H' n = some (.lst ((nmsN ns).map V.str)) ∧ NDF P w H' g1 (gF (nmsN ns) (es.take i)) (4 * i) ∧ NDF P w H' g2 (lF (nmsN ns) (es.take i)) (4 * i) ∧
        AllSh (gF (nmsN ns) (es.take i)) ∧ AllSh (lF (nmsN ns) (es.take i)) ∧ firstC (nmsN ns) [] es = firstC (nmsN ns) (es.take i) (es.drop i))
      ⟨none, none, none, none, none, none, none, none, rfl, s03, (s2.trans s3) _ _ hn, ⟨[], h3g, Nat.zero_le _, fun k => .inl ⟨rfl, rfl⟩⟩, ⟨[], h3l, Nat.zero_le _, fun k => .inl ⟨rfl, rfl⟩⟩, (fun k d h => by cases h), (fun k d h => by cases h), rfl⟩
      (fun i σ H' hi h => by obtain ⟨_, _, _, _, _, _, _, _, _, sm, _⟩ := h; exact (hp.same sm).sq) (fun i vx T1 σ H' hx nT h => ?_) (fun σ H' h => ?_)
    · obtain ⟨x5, x6, x7, x8, x9, x10, x11, x12, rfl, sm', hn', hg', hL', ag, al, hC⟩ := h
      obtain ⟨e, he, hde'⟩ := ev_at hus hx
      have hie : i < es.length := (List.getElem?_eq_some_iff.mp he).1
      have oe := hok e (List.mem_of_getElem? he)
      have ohd : ∀ f ∈ es.take i, f.kind ≠ "any" := fun f hf => (hok f (List.mem_of_mem_take hf)).2
      have sT : Same H' (upd H' T1 (.tup [.int (i : Nat), vx])) := same_upd nT
      refine ⟨T1, _, rfl, .inl (.inl upd_same), rfl, _, _, rfl, _, _, rfl, rfl, ?_⟩
      have hg1 := hg'.same sT
      have hL1 := hL'.same sT
      have hn1 := sT _ _ hn'
      have sm := sm'.trans sT
      revert sT hg1 hL1 hn1 sm
      generalize upd H' T1 (.tup [.int (i : Nat), vx]) = H4
      intro sT hg1 hL1 hn1 sm
      obtain ⟨a, wA, pA, cA, cs, rfl, _, ha, _, hw, _, hpA, _, hcA, hcs⟩ := ev_parts (hde'.same sm)
      refine ⟨_, rfl, a, _, _, _, rfl, rfl, ha.sq, rfl, _, rfl, a, _, _, _, rfl, rfl, ha.sq, rfl, _, rfl, a, _, _, _, rfl, rfl, ha.sq, rfl, _, _, _, rfl, ?_⟩
      refine ⟨_, rfl, _, rfl, n, .ref a, nmsN ns, e, rfl, hn1, hde'.same sm, fun pl H5 s5 npl hpl => ?_⟩
      refine ⟨_, rfl, _, rfl, rfl, _, rfl, ?_⟩
      refine see_if ?_
      refine ⟨by show 2 ≤ 5000; omega, fun pk H6 s6 npk hpk => ?_⟩
      have hkey : Dt H6 (kG (plK (nmsN ns) e) (seenS e)).data (.ref pk) := .mk trivial hpk (.two (hpl.same s6) rfl)
      have s46 := s5.trans s6
      have ha6 := ha.same s46
      have hw6 := hw.same s46
      have hg6 := hg1.same s46
      have hL6 := hL1.same s46
      have hn6 := s46 _ _ hn1
      have sm6 := sm.trans s46
      have hpl6 := hpl.same s6
      have he6 : Dt H6 e.d (.ref a) := (hde'.same sm).same s46
      have hww : Dt H6 (whoK e).data (.ref wA) := who_dt (e := e) trivial hw6
      -- whether it clashes with one ahead
      have nh := no_hit (nmsN ns) (es.take i) e ohd
      obtain ⟨kg, kg1, kg2, kg3⟩ := id hg6
      refine ⟨_, rfl, g1, rfl, kg1.isN, _, rfl, _, rfl, wA, _, _, _, rfl, rfl, hw6.sq, rfl, kg, kG (plK (nmsN ns) e) (seenS e), pk, kg1, rfl, hkey, kG_depth .., _, rfl, wA, _, _, _, rfl, rfl, hw6.sq, rfl, ?_⟩
      have dg := ndf_get (x := .num e.g) (z := .int e.g) (kg3 (kG (plK (nmsN ns) e) (seenS e))) rfl
      have sg := ag.get (k := kG (plK (nmsN ns) e) (seenS e)) (num_sh oe.1)
      have sn := num_sh oe.1
      have sw := whoK_sh oe.1
      refine ⟨_, _, fine_dp sg.2 dg, fine_dp sn.2 (show Dt H6 (NestedKey.num e.g).data (.int e.g) from rfl), sg.1, sn.1, _, rfl, ?_⟩
      rw [key_eqv, ← NestedKey.decide_eq]
      -- what follows where it clashes
      have hit : ¬ (∀ f ∈ es.take i, clashB (nmsN ns) f e = false) → ∀ H7 v', Same H6 H7 → Dt H7 (resD ((es.find? fun f => clashB (nmsN ns) f e).map fun f => (f, e))) v' → Q v' H7 := fun c H7 v' s7 d7 => by
        rw [← firstC_hit he c, ← hC] at d7
        exact q v' H7 (sm6.trans s7) d7
      by_cases cG : ((gF (nmsN ns) (es.take i)) (kG (plK (nmsN ns) e) (seenS e))).getD (.num e.g) = .num e.g
      · rw [decide_eq_true cG]
        refine iteF ?_
        obtain ⟨kl, kl1, kl2, kl3⟩ := id hL6
        refine ⟨_, rfl, g2, rfl, kl1.isN, _, rfl, _, rfl, wA, _, _, _, rfl, rfl, hw6.sq, rfl, _, rfl, (by show 3 ≤ 5000; omega), fun pt H7 s7 npt hpt => ?_⟩
        have hkL : Dt H7 (kL (plK (nmsN ns) e) (seenS e) e.g e.i).data (.ref pt) := .mk trivial hpt (.three (hkey.same s7) rfl rfl)
        refine ⟨_, rfl, kl, kL (plK (nmsN ns) e) (seenS e) e.g e.i, pt, kl1.same s7, rfl, hkL, kL_depth .., _, rfl, ?_⟩
        have dl := ndf_get (x := whoK e) (z := .ref wA) (kl3 (kL (plK (nmsN ns) e) (seenS e) e.g e.i)) hww
        have sl := al.get (k := kL (plK (nmsN ns) e) (seenS e) e.g e.i) sw
        refine ⟨_, _, fine_dp sl.2 (dl.same s7), fine_dp sw.2 (hww.same s7), sl.1, sw.1, _, rfl, ?_⟩
        rw [key_eqv, ← NestedKey.decide_eq]
        by_cases cL : ((lF (nmsN ns) (es.take i)) (kL (plK (nmsN ns) e) (seenS e) e.g e.i)).getD (whoK e) = whoK e
        · rw [decide_eq_true cL]
          refine iteF ?_
          have noh := nh.mp ⟨cG, cL⟩
          refine ⟨_, rfl, (by show 2 ≤ 5000; omega), fun pz H8 s8 npz hpz => ⟨pz, rfl, ⟨_, hpz.sq⟩, ?_⟩⟩
          have s68 := s7.trans s8
          have sm8 := sm6.trans s68
          have hw8 := hw6.same s68
          have hpl8 := hpl6.same s68
          refine for_tup (K := K) (a := pz) (xs := [.str "any", .str e.kind]) (fun j σ H' => ∃ x12, σ = [some v, some (.ref p), some (.ref n), some (.ref g1), some (.ref g2), some (.int (i : Nat)), some (.ref a), some (.ref wA), some (.int e.i), some (.str e.kind), some (.ref pl), some (.ref pk), x12] ∧ Same H H' ∧ TuK H8 H' ∧ H' n = some (.lst ((nmsN ns).map V.str)) ∧
              NDF P w H' g1 (fgJ (nmsN ns) (gF (nmsN ns) (es.take i)) e j) (4 * i + 2 * j) ∧ NDF P w H' g2 (flJ (nmsN ns) (lF (nmsN ns) (es.take i)) e j) (4 * i + 2 * j) ∧ AllSh (fgJ (nmsN ns) (gF (nmsN ns) (es.take i)) e j) ∧ AllSh (flJ (nmsN ns) (lF (nmsN ns) (es.take i)) e j))
            ⟨_, rfl, sm8, TuK.refl _, s68 _ _ hn6, hg6.same s68, hL6.same s68, ag, al⟩ (fun j σ H' hj h => by obtain ⟨_, _, _, tk, _⟩ := h; exact (hpz.tk tk).sq) (fun j x σ H' hx h => ?_) (fun σ H' h => ?_)
          · obtain ⟨x12, rfl, smj, tk, hnj, hgj, hlj, agj, alj⟩ := h
            obtain ⟨sj, rfl, eg, el⟩ := fJ_step (nmsN ns) (gF (nmsN ns) (es.take i)) (lF (nmsN ns) (es.take i)) e hx
            have hj2 : j < 2 := (List.getElem?_eq_some_iff.mp hx).1
            refine ⟨_, rfl, _, rfl, _, rfl, (by show 2 ≤ 5000; omega), fun p1 Ha sa np1 hp1 => ?_⟩
            have tka := tk.trans (.of_same sa)
            refine ⟨_, rfl, wA, _, _, _, rfl, rfl, (hw8.tk tka).sq, rfl, g1, p1, .int e.g, kG (plK (nmsN ns) e) sj, .num e.g, _, _, rfl, hgj.same sa, by omega, .mk trivial hp1 (.two (key_stays tka hpl8) rfl), kG_depth .., rfl, sn, agj _, fun Hb kb hb => ?_⟩
            rw [← eg] at hb
            have smb : Same H Hb := same_kpA (smj.trans sa) kb n1
            have tkb : TuK H8 Hb := tka.trans ((hgj.same sa).tuk kb)
            have hnb : Hb n = some (.lst ((nmsN ns).map V.str)) := kb _ _ nen1 (sa _ _ hnj)
            have hlb := (hlj.same sa).kp ((hgj.same sa).tuk kb) fun o ho => kb _ _ ne12.symm ho
            refine ⟨_, rfl, _, rfl, _, rfl, (by show 2 ≤ 5000; omega), fun p2 Hc sc np2 hp2 => ?_⟩
            have tkc := tkb.trans (.of_same sc)
            refine ⟨_, rfl, wA, _, _, _, rfl, rfl, (hw8.tk tkc).sq, rfl, _, rfl, (by show 3 ≤ 5000; omega), fun p3 Hd sd np3 hp3 => ?_⟩
            have tkd := tkc.trans (.of_same sd)
            have scd := sc.trans sd
            refine ⟨_, rfl, g2, p3, .ref wA, kL (plK (nmsN ns) e) sj e.g e.i, whoK e, _, _, rfl, hlb.same scd, by omega, .mk trivial hp3 (.three (.mk trivial (hp2.same sd) (.two (key_stays tkd hpl8) rfl)) rfl rfl), kL_depth .., who_dt (e := e) trivial (hw8.tk tkd), sw, alj _, fun He ke he' => ?_⟩
            rw [← el] at he'
            have tke : TuK H8 He := tkd.trans ((hlb.same scd).tuk ke)
            refine ⟨_, rfl, same_kpA (smb.trans scd) ke n2, tke, ke _ _ nen2 (scd _ _ hnb), ?_, ?_, ?_, ?_⟩
            · exact (hb.same scd).kp ((hlb.same scd).tuk ke) fun o ho => ke _ _ ne12 ho
            · exact he'
            · rw [eg]; exact agj.note sn
            · rw [el]; exact alj.note sw
          · obtain ⟨x12, rfl, smj, tk, hnj, hgj, hlj, agj, alj⟩ := h
            have e1 : gF (nmsN ns) (es.take (i + 1)) = stepG (nmsN ns) (gF (nmsN ns) (es.take i)) e := by rw [take_snoc he, gF_snoc]
            have e2 : lF (nmsN ns) (es.take (i + 1)) = stepL (nmsN ns) (lF (nmsN ns) (es.take i)) e := by rw [take_snoc he, lF_snoc]
            have e3 : 4 * (i + 1) = 4 * i + 2 * 2 := by omega
            refine ⟨_, _, _, _, _, _, _, _, rfl, smj, hnj, ?_, ?_, ?_, ?_, ?_⟩
            · rw [e1, e3]; exact hgj
            · rw [e2, e3]; exact hlj
            · rw [e1]; exact agj
            · rw [e2]; exact alj
            · rw [hC, firstC_skip he noh]
        · rw [decide_eq_false cL]
          refine iteT ⟨_, rfl, _, rfl, _, rfl, n, p, nmsN ns, es, i, e, rfl, s7 _ _ hn6, ⟨us, hp.same (sm6.trans s7), DqL.same hus (sm6.trans s7)⟩, (fun f hf => (hok f hf).1), he, fun v' H8 s8 d8 => ?_⟩
          exact hit (fun c => cL (nh.mpr c).2) H8 v' (s7.trans s8) d8
      · rw [decide_eq_false cG]
        refine iteT (iteT ⟨_, rfl, _, rfl, _, rfl, n, p, nmsN ns, es, i, e, rfl, hn6, ⟨us, hp.same sm6, DqL.same hus sm6⟩, (fun f hf => (hok f hf).1), he, fun v' H8 s8 d8 => ?_⟩)
        exact hit (fun c => cG (nh.mpr c).1) H8 v' s8 d8
    · obtain ⟨x5, x6, x7, x8, x9, x10, x11, x12, rfl, sm, hn', hg', hL', ag, al, hC⟩ := h
      rw [List.drop_of_length_le (by omega)] at hC
      rw [show firstC (nmsN ns) [] es = none by rw [hC]; rfl] at q
      exact q .non H' sm rfl
end
end LW

set_option Elab.async false
set_option linter.all false
set_option maxRecDepth 100000
set_option maxHeartbeats 4000000
/-! the program: clean, words moved -/
namespace LW
open PySem PySem.Spec PyProof.Rows L2 KN
def movedN (nm : List Str) (es : List Ev) : List Ev := es.filter fun e => !decide (e.name ∈ nm)
section
variable {P : Program} {w : World} {K : PySem.W.Frag} {mg : Str → Option Value} {base : Heap}
theorem isN_res {H : Hp} {o : Option (Ev × Ev)} {v : V} (h : Dt H (resD o) v) : decide (v = V.non) = o.isNone := by
  cases o with
  | none => rw [show v = V.non from h]; rfl
  | some p =>
    obtain ⟨a, xs, rfl, _⟩ := h
    rfl
def spClean (P : Program) (w : World) : Sp := fun vs H Q _ => ∃ (v : V) (p : Addr) (x y z : PyData) (ns : List (Str × List PyData)) (es : List Ev), vs = [v, .ref p] ∧ Dt H (kernD x y ns z) v ∧ ns.length ≤ 100 ∧ EvsAt H p es ∧ es.length ≤ 5000 ∧ (∀ e ∈ es, EvOk e ∧ e.kind ≠ "any") ∧
  ∀ H', Same H H' → Q (.bl (firstC (nmsN ns) [] es).isNone) H'
theorem ok_clean (T : TxL K mg) : FnOk P w K mg base CX0 5 T.is_clean.f T.is_clean.d ["kernel", "events"] (spClean P w) := by
  have G_clash_of : FnOk P w K mg base CX0 4 T.clash_of.f T.clash_of.d ["kernel", "events"] (spClash P w) := ok_clash T
  refine T.is_clean.F.ok sc_is_clean (fun vs H Q E h => ?_) (fun cdv A outer s0 H vs Q E hr h => ?_)
  · obtain ⟨v, p, x, y, z, ns, es, rfl, _⟩ := h
    rfl
  · obtain ⟨v, p, x, y, z, ns, es, rfl, hd, hl, he, hel, hok, q⟩ := h
    have r_clash_of := hr
    refine ⟨_, (pss_one (ps_ret (pe_cmpR op_isN (pe_call G_clash_of r_clash_of (by rfl) T.clash_of.g T.clash_of.F.kp T.clash_of.b .nil pass0 (pa_cons (pv 0) (pa_cons (pv 1) pa_nil))) pe_non (nomark _)))), ?_⟩
    refine ⟨_, rfl, _, rfl, v, p, x, y, z, ns, es, rfl, hd, hl, he, hel, hok, fun v' H1 s1 h1 => ?_⟩
    refine ⟨rfl, ?_⟩
    have e := isN_res h1
    show Q (.bl (decide (v' = V.non))) H1
    rw [e]
    exact q H1 s1
def spMoved : Sp := fun vs H Q _ => ∃ (v : V) (p : Addr) (x y z : PyData) (ns : List (Str × List PyData)) (es : List Ev), vs = [v, .ref p] ∧ Dt H (kernD x y ns z) v ∧ ns.length ≤ 100 ∧ EvsAt H p es ∧ es.length ≤ 5000 ∧
  ∀ H', Same H H' → Q (.int ((movedN (nmsN ns) es).length : Nat)) H'
theorem ok_moved (T : TxL K mg) : FnOk P w K mg base CX0 2 T.words_moved.f T.words_moved.d ["kernel", "events"] spMoved := by
  have G_near_names : FnOk P w K mg base CX0 1 T.near_names.f T.near_names.d ["kernel"] spNear := ok_near T
  refine T.words_moved.F.ok sc_words_moved (fun vs H Q E h => ?_) (fun cdv A outer s0 H vs Q E hr h => ?_)
  · obtain ⟨v, p, x, y, z, ns, es, rfl, _⟩ := h
    rfl
  · obtain ⟨v, p, x, y, z, ns, es, rfl, hd, hl, ⟨us, hp, hus⟩, hel, q⟩ := h
    have r_near_names := hr
    refine ⟨_, (pss_cons (ps_set (i := 2) sc_words_moved.nd rfl (.inr rfl) (pe_call G_near_names r_near_names (by rfl) T.near_names.g T.near_names.F.kp T.near_names.b .nil pass0 (pa_cons (pv 0) pa_nil)))
      (pss_one (ps_ret (pe_callB call_len_seq (by rfl) T.n_len (by decide +kernel) (pa_cons (pe_lc (own := [("event", 3)]) (g := gName 3) rfl sc_words_moved.nd (pi_tup (pv 1)) (blkOk_by (N := ["kernel", "events", "near", "event"]) (sc := (defScope s_words_moved)) (by decide +kernel)) (fun _ _ _ _ _ => (pg_name (i := 3) sc_words_moved.nd rfl (.inl rfl))) (fun _ _ _ _ _ => pts_one (pt_cmpR (r := rIn K true) op_notIn_seq (pe_ix (r := rIxT K) ix_tup (pv 3) pe_int (fun _ _ => rfl)) (pv 2) (by rfl))) (fun _ _ _ _ _ => (pv 3))) pa_nil))))), ?_⟩
    have hlen := hus.len
    rw [List.length_map] at hlen
    refine ⟨_, rfl, v, x, y, z, ns, rfl, hd, hl, fun n H1 s1 nn hn => ?_⟩
    refine ⟨_, rfl, p, rfl, ⟨_, (hp.same s1).sq⟩, fun D nD => ?_⟩
    refine lc_tup (K := K) (a := p) (xs := us) (fun i H' => Same H1 H' ∧ ∃ xs, H' D = some (.lst xs) ∧ xs.length = (movedN (nmsN ns) (es.take i)).length) ⟨same_upd nD, [], upd_same, rfl⟩ (fun i H' hi h => (hp.same (s1.trans h.1)).sq) (fun i x H' hx h => ?_) (fun H' h => ?_)
    · obtain ⟨sm, xs, hD, hxs⟩ := h
      obtain ⟨e, he, hde⟩ := ev_at hus hx
      have hie : i < es.length := (List.getElem?_eq_some_iff.mp he).1
      obtain ⟨a, wA, pA, c, cs, rfl, _, ha, _⟩ := ev_parts hde
      have sa := s1.trans sm
      have hxl : xs.length ≤ 5000 := by
        have : (movedN (nmsN ns) (es.take i)).length ≤ (es.take i).length := List.length_filter_le _ _
        rw [List.length_take] at this
        omega
      refine ⟨rfl, _, rfl, a, _, _, _, rfl, rfl, (ha.same sa).sq, rfl, _, rfl, n, _, rfl, .inl (.inl (.inl (sm _ _ hn))), rfl, flat_strs _, _, rfl, ?_⟩
      rw [inV_strs]
      have e1 : movedN (nmsN ns) (es.take (i + 1)) = movedN (nmsN ns) (es.take i) ++ (if decide (e.name ∈ nmsN ns) = true then [] else [e]) := by
        rw [take_snoc he]
        unfold movedN
        rw [List.filter_append, List.filter_cons]
        by_cases m : e.name ∈ nmsN ns
        · rw [decide_eq_true m]; rfl
        · rw [decide_eq_false m]; rfl
      by_cases m : e.name ∈ nmsN ns
      · rw [decide_eq_true m] at e1 ⊢
        refine iteF ⟨sm, xs, hD, ?_⟩
        rw [e1, hxs, List.length_append]
        rfl
      · rw [decide_eq_false m] at e1 ⊢
        refine iteT ⟨_, rfl, xs, hD, lt_size hxl, ⟨fun b o h => ?_, _, upd_same, ?_⟩⟩
        · rw [upd_ne (ne_of_none h nD)]
          exact sm _ _ h
        · rw [e1, List.length_append, List.length_append, hxs]
          rfl
    · obtain ⟨sm, xs, hD, hxs⟩ := h
      rw [List.take_of_length_le (by omega)] at hxs
      refine ⟨D, xs, rfl, .inl (.inl (.inl hD)), ?_⟩
      rw [hxs]
      exact q H' (s1.trans sm)
end
end LW

set_option Elab.async false
set_option linter.all false
set_option maxRecDepth 100000
set_option maxHeartbeats 4000000
/-! the program: events by their lanes -/
namespace LW
open PySem PySem.Spec PyProof.Rows L2 KN
/-- one more under its lane -/
def addP (rows : List (NestedKey × List Ev)) (e : Ev) : List (NestedKey × List Ev) :=
  if (rows.any fun r => decide (r.1 = whoK e)) = true then rows.map (fun r => if r.1 = whoK e then (r.1, r.2 ++ [e]) else r) else rows ++ [(whoK e, [e])]
def rowsF (es : List Ev) : List (NestedKey × List Ev) := es.foldl addP []
def rowsD (es : List Ev) : List (NestedKey × PyData) := (rowsF es).map fun r => (r.1, .list (r.2.map Ev.d))
abbrev Row3 := NestedKey × Addr × List Ev
structure LaneI (P : Program) (w : World) (H0 H : Hp) (d : Addr) (rows : List Row3) : Prop where
  nd : ND P w H d (rows.map fun r => (r.1, V.ref r.2.1))
  uk : (rows.map (·.1)).Nodup
  ua : (rows.map (·.2.1)).Nodup
  ats : ∀ r ∈ rows, H0 r.2.1 = none ∧ r.2.1 ≠ sysModules ∧ ∃ vs, H r.2.1 = some (.lst vs) ∧ vs.length ≤ 5000 ∧ DtL H0 (r.2.2.map Ev.d) vs
theorem val_row {rows : List Row3} {k : NestedKey} {v : V} (h : valV (rows.map fun r => (r.1, V.ref r.2.1)) k = some v) : ∃ r ∈ rows, r.1 = k ∧ v = .ref r.2.1 := by
  induction rows with
  | nil => cases h
  | cons r rs ih =>
    rw [List.map_cons] at h
    by_cases e : r.1 = k
    · rw [valV_pos (p := (r.1, V.ref r.2.1)) e] at h
      cases h
      exact ⟨r, List.mem_cons_self .., e, rfl⟩
    · rw [valV_neg (p := (r.1, V.ref r.2.1)) e] at h
      obtain ⟨r', h1, h2⟩ := ih h
      exact ⟨r', List.mem_cons_of_mem _ h1, h2⟩
theorem val_norow {rows : List Row3} {k : NestedKey} (h : valV (rows.map fun r => (r.1, V.ref r.2.1)) k = none) : ∀ r ∈ rows, r.1 ≠ k := by
  induction rows with
  | nil => intro r hr; cases hr
  | cons r rs ih =>
    rw [List.map_cons] at h
    by_cases e : r.1 = k
    · rw [valV_pos (p := (r.1, V.ref r.2.1)) e] at h
      cases h
    · rw [valV_neg (p := (r.1, V.ref r.2.1)) e] at h
      intro x hx
      rcases List.mem_cons.mp hx with g | g
      · rw [g]; exact e
      · exact ih h x g
def add3 (rows : List Row3) (k : NestedKey) (e : Ev) : List Row3 := rows.map fun r => if r.1 = k then (r.1, r.2.1, r.2.2 ++ [e]) else r
theorem add3_keys (rows : List Row3) (k : NestedKey) (e : Ev) : (add3 rows k e).map (·.1) = rows.map (·.1) ∧ (add3 rows k e).map (·.2.1) = rows.map (·.2.1) ∧ (add3 rows k e).map (fun r => (r.1, V.ref r.2.1)) = rows.map fun r => (r.1, V.ref r.2.1) := by
  unfold add3
  refine ⟨?_, ?_, ?_⟩ <;> (rw [List.map_map]; refine List.map_congr_left fun r _ => ?_; by_cases c : r.1 = k <;> simp [c])
theorem nodup_inj {α β : Type} {f : α → β} : ∀ {xs : List α} {x y : α}, (xs.map f).Nodup → x ∈ xs → y ∈ xs → f x = f y → x = y
  | [], _, _, _, h, _, _ => by cases h
  | a :: xs, x, y, n, hx, hy, e => by
    rw [List.map_cons, List.nodup_cons] at n
    rcases List.mem_cons.mp hx with h1 | h1
    · rcases List.mem_cons.mp hy with h2 | h2
      · rw [h1, h2]
      · exact absurd (List.mem_map.mpr ⟨y, h2, by rw [← e, h1]⟩) n.1
    · rcases List.mem_cons.mp hy with h2 | h2
      · exact absurd (List.mem_map.mpr ⟨x, h1, by rw [e, h2]⟩) n.1
      · exact nodup_inj n.2 h1 h2 e
section
variable {P : Program} {w : World} {K : PySem.W.Frag} {mg : Str → Option Value} {base : Heap}
def spLanes (P : Program) (w : World) : Sp := fun vs H Q _ => ∃ (p : Addr) (es : List Ev), vs = [.ref p] ∧ EvsAt H p es ∧ es.length ≤ 4000 ∧ ∀ d H', Same H H' → NDV P w H' d (rowsD es) → Q (.ref d) H'
theorem ok_lanes (T : TxL K mg) : FnOk P w K mg base CX0 1 T.events_by_lane.f T.events_by_lane.d ["events"] (spLanes P w) := by
  refine T.events_by_lane.F.ok sc_events_by_lane (fun vs H Q E h => ?_) (fun cdv A outer s0 H vs Q E hr h => ?_)
  · obtain ⟨p, es, rfl, _⟩ := h
    rfl
  · obtain ⟨p, es, rfl, ⟨us, hp, hus⟩, hel, q⟩ := h
    have hu9 : (A.deeper (envOfC "events_by_lane" (defScope s_events_by_lane) s0.heap.objs.size T.events_by_lane.f cdv)).units + 9 < cLine := by have := hr.units; omega
    refine ⟨_, (pss_cons (ps_set (i := 1) sc_events_by_lane.nd rfl (.inl rfl) KN.pe_nnew)
      (pss_cons (ps_for PassesOwn.never rfl (pi_tup (pv 0)) (pg_name (i := 2) sc_events_by_lane.nd rfl (.inl rfl)) (pss_one (ps_expr (pe_bm PySem.F.plainAttrs_list PySem.F.slot_list_append PySem.F.type_list_append mt_append (KN.pe_nsetd hu9 (pv 1) (pe_ix ix_tup (pv 2) pe_int (fun _ _ => rfl)) (pe_lstN pa_nil) ⟨rfl, rfl, rfl, rfl⟩) (pa_cons (pv 2) pa_nil)))))
      (pss_one (ps_ret (pv 1))))), ?_⟩
    have hlen := hus.len
    rw [List.length_map] at hlen
    refine fun d H1 s1 nd h1d => ?_
    refine ⟨_, rfl, p, rfl, ⟨_, (hp.same s1).sq⟩, ?_⟩
    refine for_tup (K := K) (a := p) (xs := us) (fun i σ H' => ∃ x2 rows, σ = [some (.ref p), some (.ref d), x2] ∧ Same H H' ∧ LaneI P w H H' d rows ∧ rows.length ≤ i ∧ rows.map (fun r => (r.1, r.2.2)) = rowsF (es.take i) ∧ ∀ r ∈ rows, r.2.2.length ≤ i)
      ⟨none, [], rfl, s1, ⟨h1d, List.nodup_nil, List.nodup_nil, fun r hr => by cases hr⟩, Nat.le_refl _, rfl, fun r hr => by cases hr⟩
      (fun i σ H' hi h => by obtain ⟨_, _, _, sm, _⟩ := h; exact (hp.same sm).sq) (fun i x σ H' hx h => ?_) (fun σ H' h => ?_)
    · obtain ⟨x2, rows, rfl, sm, L, hrl, hrF, hrl2⟩ := h
      obtain ⟨e, he, hde⟩ := ev_at hus hx
      have hie : i < es.length := (List.getElem?_eq_some_iff.mp he).1
      obtain ⟨a, wA, pA, cA, cs, rfl, _, ha, _, hw, _⟩ := ev_parts hde
      have eF : rowsF (es.take (i + 1)) = addP (rowsF (es.take i)) e := by
        rw [take_snoc he]
        unfold rowsF
        rw [List.foldl_append]
        rfl
      refine ⟨_, rfl, d, rfl, L.nd.isN, _, rfl, a, _, _, _, rfl, rfl, (ha.same sm).sq, rfl, Nat.zero_le _, fun l H2 s2 nl nsy hl2 => ?_⟩
      have hk : Dt H2 (whoK e).data (.ref wA) := who_dt (e := e) trivial (hw.same (sm.trans s2))
      refine ⟨_, whoK e, wA, L.nd.same s2, by rw [List.length_map]; omega, rfl, hk, (by show max 0 (max 0 0) + 1 ≤ 8; decide), fun v hv => ?_, fun hv H3 pt => ?_⟩
      · -- the lane is there
        obtain ⟨r, hr, ek, rfl⟩ := val_row hv
        obtain ⟨r1, r2, vs, r3, r5, r4⟩ := L.ats r hr
        have hl : H2 r.2.1 = some (.lst vs) := s2 _ _ r3
        have hvl := r4.len
        rw [List.length_map] at hvl
        have := hrl2 r hr
        refine ⟨.inl ⟨rfl, _, .inl (.inl hl)⟩, _, rfl, r.2.1, vs, _, rfl, rfl, hl, lt_size (by omega), ?_⟩
        have kp : KpA r.2.1 H2 (upd H2 r.2.1 (.lst (vs ++ [.ref a]))) := fun b o hb h => by rw [upd_ne hb]; exact h
        have tk : TuK H2 (upd H2 r.2.1 (.lst (vs ++ [.ref a]))) := .off hl (fun o xs z => by cases z) kp
        have hd : d ≠ r.2.1 := by
          obtain ⟨xs, g1, _⟩ := L.nd.same s2
          exact ne_of g1 hl (by intro z; cases z)
        obtain ⟨k1, k2, k3⟩ := add3_keys rows (whoK e) e
        refine ⟨_, add3 rows (whoK e) e, rfl, same_kpA (sm.trans s2) kp r1, ⟨?_, by rw [k1]; exact L.uk, by rw [k2]; exact L.ua, fun x hx => ?_⟩, ?_, ?_, fun x hx => ?_⟩
        · rw [k3]
          exact (L.nd.same s2).kp tk fun o ho => kp _ _ hd ho
        · unfold add3 at hx
          obtain ⟨y, hy, rfl⟩ := List.mem_map.mp hx
          obtain ⟨y1, y2, ws, y3, y5, y4⟩ := L.ats y hy
          by_cases c : y.1 = whoK e
          · rw [if_pos c]
            have : y = r := nodup_inj L.uk hy hr (c.trans ek.symm)
            subst this
            rw [r3] at y3
            cases y3
            refine ⟨y1, y2, _, upd_same, ?_, ?_⟩
            · rw [List.length_append]
              show vs.length + 1 ≤ 5000
              omega
            · rw [List.map_append]
              exact DqL.app r4 (.one hde)
          · rw [if_neg c]
            have ne : y.2.1 ≠ r.2.1 := fun z => c (by rw [nodup_inj L.ua hy hr z]; exact ek)
            exact ⟨y1, y2, ws, kp _ _ ne (s2 _ _ y3), y5, y4⟩
        · unfold add3
          rw [List.length_map]
          omega
        · rw [eF, ← hrF]
          unfold addP add3
          rw [if_pos (by rw [List.any_map]; exact List.any_eq_true.mpr ⟨r, hr, decide_eq_true ek⟩), List.map_map, List.map_map]
          refine List.map_congr_left fun y _ => ?_
          by_cases c : y.1 = whoK e <;> simp [c]
        · unfold add3 at hx
          obtain ⟨y, hy, rfl⟩ := List.mem_map.mp hx
          have := hrl2 y hy
          by_cases c : y.1 = whoK e
          · rw [if_pos c, List.length_append]
            show y.2.2.length + 1 ≤ i + 1
            omega
          · rw [if_neg c]
            omega
      · -- a new lane
        have no := val_norow hv
        have hdl : l ≠ d := by
          obtain ⟨o, g1⟩ := L.nd.some
          exact (ne_of_none g1 nl).symm
        have hl : H3 l = some (.lst []) := pt.2 _ _ hdl hl2
        refine ⟨.inl ⟨rfl, _, .inl (.inl hl)⟩, _, rfl, l, [], _, rfl, rfl, hl, lt_size (Nat.zero_le _), ?_⟩
        have kp : KpA l H3 (upd H3 l (.lst ([] ++ [.ref a]))) := fun b o hb h => by rw [upd_ne hb]; exact h
        have tk : TuK H3 (upd H3 l (.lst ([] ++ [.ref a]))) := .off hl (fun o xs z => by cases z) kp
        have l0 : H l = none := sm.free nl
        have d0 : H d = none := nd
        have s3 : Same H H3 := same_kpA (sm.trans s2) pt.2 d0
        have ek : putK (rows.map fun r => (r.1, V.ref r.2.1)) (whoK e) (.ref l) = (rows ++ [(whoK e, l, [e])]).map fun r => (r.1, V.ref r.2.1) := by
          rw [putK_new _ hv, List.map_append]
          rfl
        refine ⟨_, rows ++ [(whoK e, l, [e])], rfl, same_kpA s3 kp l0, ⟨?_, ?_, ?_, fun x hx => ?_⟩, ?_, ?_, fun x hx => ?_⟩
        · rw [← ek]
          exact pt.1.kp tk fun o ho => kp _ _ hdl.symm ho
        · rw [List.map_append]
          exact List.nodup_append.mpr ⟨L.uk, by simp, fun x hx y hy => by
            obtain ⟨r, hr, rfl⟩ := List.mem_map.mp hx
            rw [List.map_singleton, List.mem_singleton] at hy
            rw [hy]
            exact no r hr⟩
        · rw [List.map_append]
          exact List.nodup_append.mpr ⟨L.ua, by simp, fun x hx y hy => by
            obtain ⟨r, hr, rfl⟩ := List.mem_map.mp hx
            rw [List.map_singleton, List.mem_singleton] at hy
            rw [hy]
            obtain ⟨_, _, vs, r3, _⟩ := L.ats r hr
            exact ne_of_none r3 nl⟩
        · rcases List.mem_append.mp hx with hx | hx
          · obtain ⟨y1, y2, ws, y3, y5, y4⟩ := L.ats x hx
            have ne : x.2.1 ≠ l := ne_of_none y3 nl
            have nd' : x.2.1 ≠ d := by
              obtain ⟨xs, g1, _⟩ := L.nd
              exact ne_of y3 g1 (by intro z; cases z)
            exact ⟨y1, y2, ws, kp _ _ ne (pt.2 _ _ nd' (s2 _ _ y3)), y5, y4⟩
          · rw [List.mem_singleton] at hx
            subst hx
            exact ⟨l0, nsy, _, upd_same, by simp, .one hde⟩
        · rw [List.length_append]
          show rows.length + 1 ≤ i + 1
          omega
        · rw [eF, ← hrF]
          unfold addP
          rw [if_neg, List.map_append]
          · rfl
          · rw [List.any_map]
            intro z
            obtain ⟨r, hr, c⟩ := List.any_eq_true.mp z
            exact no r hr (of_decide_eq_true c)
        · rcases List.mem_append.mp hx with hx | hx
          · have := hrl2 x hx
            omega
          · rw [List.mem_singleton] at hx
            subst hx
            show 1 ≤ i + 1
            omega
    · obtain ⟨x2, rows, rfl, sm, L, hrl, hrF, hrl2⟩ := h
      rw [List.take_of_length_le (by omega)] at hrF
      refine ⟨_, rfl, q d H' sm ⟨_, L.nd, ?_⟩⟩
      unfold rowsD
      rw [← hrF, List.map_map]
      have all : ∀ l : List Row3, (∀ r ∈ l, H r.2.1 = none ∧ r.2.1 ≠ sysModules ∧ ∃ vs, H' r.2.1 = some (.lst vs) ∧ vs.length ≤ 5000 ∧ DtL H (r.2.2.map Ev.d) vs) →
          Paired (fun (p : NestedKey × V) (q : NestedKey × PyData) => p.1 = q.1 ∧ Dt H' q.2 p.2) (l.map fun r => (r.1, V.ref r.2.1)) (l.map ((fun r => (r.1, PyData.list (r.2.map Ev.d))) ∘ fun r => (r.1, r.2.2))) := by
        intro l
        induction l with
        | nil => intro _; exact .nil
        | cons r rs ih =>
          intro hl
          obtain ⟨_, r2, vs, r3, _, r4⟩ := hl r (List.mem_cons_self ..)
          exact .cons ⟨rfl, .mkL trivial r3 r2 (DqL.same r4 sm)⟩ (ih fun x hx => hl x (List.mem_cons_of_mem _ hx))
      exact all rows L.ats
end
end LW

set_option Elab.async false
set_option linter.all false
set_option maxRecDepth 100000
set_option maxHeartbeats 4000000
/-! lanes of events: when they are the same -/
namespace LW
open PySem PySem.Spec PyProof.Rows L2 KN
def lane (es : List Ev) (k : NestedKey) : List Ev := es.filter fun e => decide (whoK e = k)
structure RowsOk (done : List Ev) (rows : List (NestedKey × List Ev)) : Prop where
  nd : (rows.map (·.1)).Nodup
  at_ : ∀ r ∈ rows, r.2 = lane done r.1 ∧ r.2 ≠ []
  all : ∀ e ∈ done, whoK e ∈ rows.map (·.1)
theorem lane_snoc (done : List Ev) (e : Ev) (k : NestedKey) : lane (done ++ [e]) k = if whoK e = k then lane done k ++ [e] else lane done k := by
  unfold lane
  rw [List.filter_append, List.filter_cons]
  by_cases c : whoK e = k
  · rw [if_pos (decide_eq_true c), if_pos c]; rfl
  · rw [if_neg (by rw [decide_eq_false c]; exact Bool.false_ne_true), if_neg c, List.filter_nil, List.append_nil]
theorem lane_none {done : List Ev} {k : NestedKey} (h : ∀ e ∈ done, whoK e ≠ k) : lane done k = [] := by
  unfold lane
  rw [List.filter_eq_nil_iff]
  intro e he
  rw [decide_eq_false (h e he)]
  exact Bool.false_ne_true
theorem RowsOk.step {done : List Ev} {rows : List (NestedKey × List Ev)} (h : RowsOk done rows) (e : Ev) : RowsOk (done ++ [e]) (addP rows e) := by
  unfold addP
  by_cases c : (rows.any fun r => decide (r.1 = whoK e)) = true
  · rw [if_pos c]
    have ek : (rows.map fun r => if r.1 = whoK e then (r.1, r.2 ++ [e]) else r).map (·.1) = rows.map (·.1) := by
      rw [List.map_map]
      refine List.map_congr_left fun r _ => ?_
      by_cases d : r.1 = whoK e <;> simp [d]
    refine ⟨by rw [ek]; exact h.nd, fun r hr => ?_, fun f hf => ?_⟩
    · obtain ⟨y, hy, rfl⟩ := List.mem_map.mp hr
      obtain ⟨h1, h2⟩ := h.at_ y hy
      by_cases d : y.1 = whoK e
      · rw [if_pos d]
        refine ⟨?_, by simp⟩
        show y.2 ++ [e] = lane (done ++ [e]) y.1
        rw [lane_snoc, if_pos d.symm, ← h1]
      · rw [if_neg d]
        refine ⟨?_, h2⟩
        rw [lane_snoc, if_neg (fun z => d z.symm)]
        exact h1
    · rw [ek]
      rcases List.mem_append.mp hf with hf | hf
      · exact h.all f hf
      · rw [List.mem_singleton] at hf
        rw [hf]
        obtain ⟨r, hr, d⟩ := List.any_eq_true.mp c
        exact List.mem_map.mpr ⟨r, hr, of_decide_eq_true d⟩
  · rw [if_neg c]
    have no : ∀ r ∈ rows, r.1 ≠ whoK e := fun r hr z => c (List.any_eq_true.mpr ⟨r, hr, decide_eq_true z⟩)
    have l0 : lane done (whoK e) = [] := lane_none fun f hf z => by
      obtain ⟨r, hr, d⟩ := List.mem_map.mp (h.all f hf)
      exact no r hr (d.trans z)
    refine ⟨?_, fun r hr => ?_, fun f hf => ?_⟩
    · rw [List.map_append]
      exact List.nodup_append.mpr ⟨h.nd, by simp, fun x hx y hy => by
        obtain ⟨r, hr, rfl⟩ := List.mem_map.mp hx
        rw [List.map_singleton, List.mem_singleton] at hy
        rw [hy]
        exact no r hr⟩
    · rcases List.mem_append.mp hr with hr | hr
      · obtain ⟨h1, h2⟩ := h.at_ r hr
        refine ⟨?_, h2⟩
        rw [lane_snoc, if_neg (fun z => no r hr z.symm)]
        exact h1
      · rw [List.mem_singleton] at hr
        rw [hr]
        refine ⟨?_, by simp⟩
        rw [lane_snoc, if_pos rfl, l0]
        rfl
    · rw [List.map_append]
      rcases List.mem_append.mp hf with hf | hf
      · exact List.mem_append.mpr (.inl (h.all f hf))
      · rw [List.mem_singleton] at hf
        rw [hf]
        exact List.mem_append.mpr (.inr (by simp))
theorem rows_ok (es : List Ev) : RowsOk es (rowsF es) := by
  have all : ∀ (es done : List Ev) (rows : List (NestedKey × List Ev)), RowsOk done rows → RowsOk (done ++ es) (es.foldl addP rows) := by
    intro es
    induction es with
    | nil => intro done rows h; rw [List.append_nil]; exact h
    | cons e es ih =>
      intro done rows h
      have := ih _ _ (h.step e)
      rw [List.append_assoc] at this
      exact this
  exact all es [] [] ⟨List.nodup_nil, fun r hr => (by cases hr), fun e he => (by cases he)⟩
theorem mem_keys {es : List Ev} {k : NestedKey} : k ∈ (rowsF es).map (·.1) ↔ lane es k ≠ [] := by
  have h := rows_ok es
  constructor
  · intro m
    obtain ⟨r, hr, rfl⟩ := List.mem_map.mp m
    obtain ⟨h1, h2⟩ := h.at_ r hr
    rw [← h1]
    exact h2
  · intro ne
    obtain ⟨e, r, he⟩ := List.exists_cons_of_ne_nil ne
    have : e ∈ lane es k := by rw [he]; exact List.mem_cons_self ..
    unfold lane at this
    obtain ⟨h1, h2⟩ := List.mem_filter.mp this
    rw [← of_decide_eq_true h2]
    exact h.all e h1
theorem pigeon {α : Type} [DecidableEq α] : ∀ (xs ys : List α), xs.Nodup → (∀ x ∈ xs, x ∈ ys) → xs.length ≤ ys.length
  | [], _, _, _ => Nat.zero_le _
  | x :: xs, ys, n, s => by
    rw [List.nodup_cons] at n
    have hx := s x (List.mem_cons_self ..)
    have := pigeon xs (ys.erase x) n.2 fun y hy => (List.mem_erase_of_ne (show y ≠ x from fun z => n.1 (by rw [← z]; exact hy))).mpr (s y (List.mem_cons_of_mem _ hy))
    rw [List.length_erase_of_mem hx] at this
    have := List.length_pos_of_mem hx
    rw [List.length_cons]
    omega
theorem look_none {es : List Ev} {k : NestedKey} (h : k ∉ (rowsF es).map (·.1)) : lookD (rowsD es) k = none := by
  unfold lookD rowsD
  rw [List.find?_map, Option.map_map]
  have : (rowsF es).find? ((fun p : NestedKey × PyData => decide (p.1 = k)) ∘ fun r : NestedKey × List Ev => (r.1, PyData.list (r.2.map Ev.d))) = none := by
    rw [List.find?_eq_none]
    intro r hr c
    exact h (List.mem_map.mpr ⟨r, hr, of_decide_eq_true c⟩)
  rw [this]
  rfl
theorem look_some {es : List Ev} {k : NestedKey} (h : k ∈ (rowsF es).map (·.1)) : lookD (rowsD es) k = some (.list ((lane es k).map Ev.d)) := by
  unfold lookD rowsD
  rw [List.find?_map, Option.map_map]
  cases c : (rowsF es).find? ((fun p : NestedKey × PyData => decide (p.1 = k)) ∘ fun r : NestedKey × List Ev => (r.1, PyData.list (r.2.map Ev.d))) with
  | none =>
    obtain ⟨r, hr, e⟩ := List.mem_map.mp h
    exact absurd (decide_eq_true e) (List.find?_eq_none.mp c r hr)
  | some r =>
    have h1 := List.mem_of_find?_eq_some c
    have h2' := List.find?_some c
    have h2 : r.1 = k := of_decide_eq_true h2'
    obtain ⟨h3, _⟩ := (rows_ok es).at_ r h1
    show some (PyData.list (r.2.map Ev.d)) = _
    rw [h3, h2]
theorem d_inj {a b : Ev} (h : a.d = b.d) : a = b := by
  obtain ⟨g, l, i, p, kind, name, cell, w⟩ := a
  obtain ⟨g', l', i', p', kind', name', cell', w'⟩ := b
  unfold Ev.d whoD intsD at h
  simp only [PyData.tuple.injEq, List.cons.injEq, PyData.int.injEq, PyData.str.injEq, and_true] at h
  obtain ⟨⟨h1, h2⟩, h3, h4, h5, h6, h7, h8⟩ := h
  have e7 : cell = cell' := by
    have inj : ∀ {x y : List Int}, x.map PyData.int = y.map PyData.int → x = y := by
      intro x
      induction x with
      | nil => intro y e; cases y with
        | nil => rfl
        | cons _ _ => cases e
      | cons a x ih => intro y e; cases y with
        | nil => cases e
        | cons b y =>
          injection e with e1 e2
          injection e1 with e1
          rw [e1, ih e2]
    exact inj h7
  subst h1 h2 h3 h4 h5 h6 e7 h8
  rfl
theorem ds_inj : ∀ {x y : List Ev}, x.map Ev.d = y.map Ev.d → x = y
  | [], [], _ => rfl
  | [], _ :: _, h => by cases h
  | _ :: _, [], h => by cases h
  | a :: x, b :: y, h => by
    injection h with h1 h2
    rw [d_inj h1, ds_inj h2]
theorem fine_lane {es : List Ev} (h : ∀ e ∈ es, EvOk e) (k : NestedKey) : fine (.list ((lane es k).map Ev.d)) = true := by
  show fineL _ = true
  rw [fineL_mem]
  intro d hd
  obtain ⟨e, he, rfl⟩ := List.mem_map.mp hd
  exact h e (List.mem_filter.mp he).1
theorem eqN_lanes {es fs : List Ev} (h : ∀ e ∈ es, EvOk e) (g : ∀ e ∈ fs, EvOk e) : eqN (rowsD es) (rowsD fs) = true ↔ ∀ k, lane es k = lane fs k := by
  unfold eqN
  rw [Bool.and_eq_true, beq_iff_eq, List.all_eq_true]
  have le : (rowsD es).length = ((rowsF es).map (·.1)).length := by unfold rowsD; rw [List.length_map, List.length_map]
  have lf : (rowsD fs).length = ((rowsF fs).map (·.1)).length := by unfold rowsD; rw [List.length_map, List.length_map]
  have ne := (rows_ok es).nd
  have nf := (rows_ok fs).nd
  constructor
  · rintro ⟨hl, ha⟩ k
    have sub : ∀ k ∈ (rowsF es).map (·.1), k ∈ (rowsF fs).map (·.1) ∧ lane es k = lane fs k := by
      intro k hk
      have hk' := hk
      obtain ⟨r, hr, rfl⟩ := List.mem_map.mp hk
      have := ha (r.1, .list (r.2.map Ev.d)) (List.mem_map.mpr ⟨r, hr, rfl⟩)
      by_cases m : r.1 ∈ (rowsF fs).map (·.1)
      · refine ⟨m, ?_⟩
        have this' : (match lookD (rowsD fs) r.1 with | none => false | some d => PyData.eqv (.list (r.2.map Ev.d)) d) = true := this
        rw [look_some m, ((rows_ok es).at_ r hr).1] at this'
        have e2 := (eqv_dec (fine_lane h r.1) (fine_lane g r.1)).mp this'
        injection e2 with e2
        exact ds_inj e2
      · have this' : (match lookD (rowsD fs) r.1 with | none => false | some d => PyData.eqv (.list (r.2.map Ev.d)) d) = true := this
        rw [look_none m] at this'
        cases this'
    by_cases m : k ∈ (rowsF es).map (·.1)
    · exact (sub k m).2
    · have mf : k ∉ (rowsF fs).map (·.1) := fun z => by
        have := pigeon (k :: (rowsF es).map (·.1)) ((rowsF fs).map (·.1)) (List.nodup_cons.mpr ⟨m, ne⟩) fun x hx => by
          rcases List.mem_cons.mp hx with hx | hx
          · rw [hx]; exact z
          · exact (sub x hx).1
        rw [List.length_cons] at this
        omega
      have e1 : lane es k = [] := Classical.byContradiction fun z => m (mem_keys.mpr z)
      have e2 : lane fs k = [] := Classical.byContradiction fun z => mf (mem_keys.mpr z)
      rw [e1, e2]
  · intro hk
    have same : ∀ k, k ∈ (rowsF es).map (·.1) ↔ k ∈ (rowsF fs).map (·.1) := fun k => by rw [mem_keys, mem_keys, hk]
    refine ⟨?_, fun p hp => ?_⟩
    · have a := pigeon _ _ ne fun x hx => (same x).mp hx
      have b := pigeon _ _ nf fun x hx => (same x).mpr hx
      omega
    · obtain ⟨r, hr, rfl⟩ := List.mem_map.mp hp
      have m : r.1 ∈ (rowsF fs).map (·.1) := (same r.1).mp (List.mem_map.mpr ⟨r, hr, rfl⟩)
      show (match lookD (rowsD fs) r.1 with | none => false | some d => PyData.eqv (.list (r.2.map Ev.d)) d) = true
      rw [look_some m, ((rows_ok es).at_ r hr).1, hk]
      exact SeqAt.eqv_refl _ (fine_lay (fine_lane g r.1)).1
end LW

set_option Elab.async false
set_option linter.all false
set_option maxRecDepth 100000
set_option maxHeartbeats 4000000
/-! the program: events in one order, lane by lane -/
namespace LW
open PySem PySem.Spec PyProof.Rows L2 KN
theorem depthA_le {n : Nat} : ∀ {ds : List PyData}, (∀ d ∈ ds, d.depth ≤ n) → PyData.depthAll ds ≤ n
  | [], _ => by simp only [PyData.depthAll]; omega
  | d :: r, h => by
    have := h d (List.mem_cons_self ..)
    have := depthA_le (ds := r) fun x hx => h x (List.mem_cons_of_mem _ hx)
    simp only [PyData.depthAll]
    omega
theorem depth_ev (e : Ev) : e.d.depth ≤ 2 := by
  unfold Ev.d
  simp only [PyData.depth, PyData.depthAll, depth_who, depth_intsD]
  omega
theorem rowsD_sh {es : List Ev} (h : ∀ e ∈ es, EvOk e) : ∀ p ∈ rowsD es, SeqAt.shaped p.2 = true := by
  intro p hp
  unfold rowsD at hp
  obtain ⟨r, hr, rfl⟩ := List.mem_map.mp hp
  show SeqAt.shaped (.list (r.2.map Ev.d)) = true
  rw [((rows_ok es).at_ r hr).1]
  refine fine_shaped (fine_lane h r.1) ?_
  simp only [PyData.depth]
  have := depthA_le (n := 2) (ds := (lane es r.1).map Ev.d) fun d hd => by
    obtain ⟨e, _, rfl⟩ := List.mem_map.mp hd
    exact depth_ev e
  omega
theorem NDV.same {P : Program} {w : World} {H H' : Hp} {a : Addr} {ks : List (NestedKey × PyData)} (h : NDV P w H a ks) (e : Same H H') : NDV P w H' a ks := by
  obtain ⟨kvs, h1, h2⟩ := h
  refine ⟨kvs, h1.same e, ?_⟩
  clear h1
  induction h2 with
  | nil => exact .nil
  | cons g t ih => exact .cons ⟨g.1, g.2.same e⟩ ih
section
variable {P : Program} {w : World} {K : PySem.W.Frag} {mg : Str → Option Value} {base : Heap}
def spOrder : Sp := fun vs H Q _ => ∃ (p q : Addr) (es fs : List Ev), vs = [.ref p, .ref q] ∧ EvsAt H p es ∧ EvsAt H q fs ∧ es.length ≤ 4000 ∧ fs.length ≤ 4000 ∧ (∀ e ∈ es, EvOk e) ∧ (∀ e ∈ fs, EvOk e) ∧ ∀ H', Same H H' → Q (.bl (eqN (rowsD es) (rowsD fs))) H'
theorem ok_order (T : TxL K mg) : FnOk P w K mg base CX0 2 T.one_order.f T.one_order.d ["events", "others"] spOrder := by
  have G_events_by_lane : FnOk P w K mg base CX0 1 T.events_by_lane.f T.events_by_lane.d ["events"] (spLanes P w) := ok_lanes T
  refine T.one_order.F.ok sc_one_order (fun vs H Q E h => ?_) (fun cdv A outer s0 H vs Q E hr h => ?_)
  · obtain ⟨p, q, es, fs, rfl, _⟩ := h
    rfl
  · obtain ⟨p, q', es, fs, rfl, hp, hq, le, lf, oe, of', q⟩ := h
    have r_events_by_lane := hr
    have hu66 : (A.deeper (envOfC "one_order" (defScope s_one_order) s0.heap.objs.size T.one_order.f cdv)).units + 66 < cLine := by have := hr.un; omega
    refine ⟨_, (pss_one (ps_ret (pe_cmpR (KN.op_eqN hu66) (pe_call G_events_by_lane r_events_by_lane (by rfl) T.events_by_lane.g T.events_by_lane.F.kp T.events_by_lane.b .nil pass0 (pa_cons (pv 0) pa_nil)) (pe_call G_events_by_lane r_events_by_lane (by rfl) T.events_by_lane.g T.events_by_lane.F.kp T.events_by_lane.b .nil pass0 (pa_cons (pv 1) pa_nil)) (nomark _)))), ?_⟩
    refine ⟨_, rfl, p, es, rfl, hp, le, fun d H1 s1 h1 => ?_⟩
    refine ⟨_, rfl, q', fs, rfl, hq.same s1, lf, fun d2 H2 s2 h2 => ?_⟩
    exact ⟨d, d2, _, _, rfl, rfl, NDV.same h1 s2, h2, rowsD_sh oe, rowsD_sh of', q H2 (s1.trans s2)⟩
end
end LW

set_option Elab.async false
set_option linter.all false
set_option maxRecDepth 100000
set_option maxHeartbeats 4000000
/-! the law's drawing: numbers -/
namespace LW
open PySem PySem.Spec PyProof.Rows L2
/-- all but the objects at s and c is as it was -/
def Kp (s c : Addr) (H H' : Hp) : Prop := ∀ b o, b ≠ s → b ≠ c → H b = some o → H' b = some o
theorem Kp.refl {s c : Addr} (H : Hp) : Kp s c H H := fun _ _ _ _ h => h
theorem Kp.trans {s c : Addr} {H H1 H2 : Hp} (a : Kp s c H H1) (b : Kp s c H1 H2) : Kp s c H H2 := fun d o h1 h2 h => b d o h1 h2 (a d o h1 h2 h)
theorem Kp.of_same {s c : Addr} {H H' : Hp} (a : Same H H') : Kp s c H H' := fun b o _ _ h => a b o h
theorem Kp.atS {s c : Addr} {H : Hp} {o : HO} : Kp s c H (upd H s o) := fun b _ h1 _ h => by rw [upd_ne h1]; exact h
theorem Kp.atC {s c : Addr} {H : Hp} {o : HO} : Kp s c H (upd H c o) := fun b _ _ h2 h => by rw [upd_ne h2]; exact h
theorem Kp.free {s c D : Addr} {H H' : Hp} (k : Kp s c H H') (h1 : D ≠ s) (h2 : D ≠ c) (e : H' D = none) : H D = none := by
  cases h : H D with
  | none => rfl
  | some o => rw [k _ _ h1 h2 h] at e; cases e
/-- the script: where it stands, nothing is stored -/
def SqF (K : PySem.W.Frag) (H : Hp) (a : Addr) (xs : List V) : Prop :=
  (∃ o : Obj, H a = some (.frz o (.lst xs))) ∨ ∃ (o : Obj) (its : Array Value) (n : Nat), K.lookup a = some o ∧ o.cls = .type "list" ∧ o.dict = none ∧ o.data = .seq its n ∧ its.size ≤ sizeLine ∧ Vals xs its.toList
theorem SqF.sq {K : PySem.W.Frag} {H : Hp} {a : Addr} {xs : List V} (h : SqF K H a xs) : SqL K H a xs := by
  rcases h with ⟨o, h⟩ | h
  · exact .inl (.inr ⟨o, h⟩)
  · exact .inr h
/-- what is booked stays -/
def FrK (H H' : Hp) : Prop := ∀ b (o : Obj) u, H b = some (.frz o u) → H' b = some (.frz o u)
theorem SqF.fr {K : PySem.W.Frag} {H H' : Hp} {a : Addr} {xs : List V} (h : SqF K H a xs) (k : FrK H H') : SqF K H' a xs := by
  rcases h with ⟨o, h⟩ | h
  · exact .inl ⟨o, k _ _ _ h⟩
  · exact .inr h
def kyS : Key := .inr "script"
def kyA : Key := .inr "at"
def kyL : Key := .inr "left"
theorem ne_SA : ¬ kyS = kyA := by decide +kernel
theorem ne_SL : ¬ kyS = kyL := by decide +kernel
theorem ne_AL : ¬ kyA = kyL := by decide +kernel
def stM (a : Addr) (k : Int) (L : Addr) : List (Key × V) := [(kyS, .ref a), (kyA, .int k), (kyL, .ref L)]
theorem st_s (a : Addr) (k : Int) (L : Addr) : valV (stM a k L) kyS = some (.ref a) := valV_pos (p := (kyS, V.ref a)) rfl
theorem st_a (a : Addr) (k : Int) (L : Addr) : valV (stM a k L) kyA = some (.int k) := by
  unfold stM
  rw [valV_neg (p := (kyS, V.ref a)) ne_SA, valV_pos (p := (kyA, V.int k)) rfl]
theorem st_l (a : Addr) (k : Int) (L : Addr) : valV (stM a k L) kyL = some (.ref L) := by
  unfold stM
  rw [valV_neg (p := (kyS, V.ref a)) ne_SL, valV_neg (p := (kyA, V.int k)) ne_AL, valV_pos (p := (kyL, V.ref L)) rfl]
theorem st_put (a : Addr) (k j : Int) (L : Addr) : putK (stM a k L) kyA (.int j) = stM a j L := by
  unfold putK
  rw [if_pos (by rw [valV_any, st_a]; rfl)]
  unfold stM
  rw [List.map_cons, List.map_cons, List.map_cons, List.map_nil, if_neg ne_SA, if_pos rfl, if_neg (fun z => ne_AL z.symm)]
theorem st_merge (a L : Addr) (k : Int) : mergeK [] [(kyS, V.ref a), (kyA, V.int k), (kyL, V.ref L)] = stM a k L := by
  show putK (putK (putK [] kyS (.ref a)) kyA (.int k)) kyL (.ref L) = _
  have e1 : putK ([] : List (Key × V)) kyS (.ref a) = [(kyS, .ref a)] := rfl
  rw [e1, putK_new (kvs := [(kyS, V.ref a)]) (k := kyA) (.int k) (by rw [valV_neg (p := (kyS, V.ref a)) ne_SA]; rfl)]
  rw [putK_new (.ref L) (by show valV [(kyS, V.ref a), (kyA, V.int k)] kyL = none; rw [valV_neg (p := (kyS, V.ref a)) ne_SL, valV_neg (p := (kyA, V.int k)) ne_AL]; rfl)]
  rfl
/-- what draws: its dict at m, what is left at L; at most n were drawn -/
def Sd (K : PySem.W.Frag) (m L : Addr) (n : Int) (H : Hp) : Prop := ∃ (a : Addr) (ns ls : List Int) (k : Int), H m = some (.dK (stM a k L)) ∧ SqF K H a (ns.map V.int) ∧ H L = some (.lst (ls.map V.int)) ∧ ls.length = ns.length ∧ ns.length ≤ 63 ∧ 0 ≤ k ∧ k ≤ n
section
variable {K : PySem.W.Frag} {m L : Addr} {n : Int} {H H' : Hp}
theorem Sd.ne (h : Sd K m L n H) : m ≠ L := by
  obtain ⟨a, ns, ls, k, h1, h2, h3, _⟩ := h
  exact ne_of h1 h3 (by intro z; cases z)
theorem Sd.fr (h : Sd K m L n H) (k : Kp m L H H') : FrK H H' := fun b o u e => by
  obtain ⟨a, ns, ls, _, h1, h2, h3, _⟩ := h
  exact k _ _ (ne_of e h1 (by intro z; cases z)) (ne_of e h3 (by intro z; cases z)) e
theorem Sd.same (h : Sd K m L n H) (e : Same H H') : Sd K m L n H' := by
  obtain ⟨a, ns, ls, k, h1, h2, h3, h4⟩ := h
  exact ⟨a, ns, ls, k, e _ _ h1, h2.fr fun b o u q => e _ _ q, e _ _ h3, h4⟩
theorem Sd.le {j : Int} (h : Sd K m L n H) (e : n ≤ j) : Sd K m L j H := by
  obtain ⟨a, ns, ls, k, h1, h2, h3, h4, h5, h6, h7⟩ := h
  exact ⟨a, ns, ls, k, h1, h2, h3, h4, h5, h6, Int.le_trans h7 e⟩
theorem Sd.ns (h : Sd K m L n H) {p : Addr} (e : H p = none) : p ≠ m ∧ p ≠ L := by
  obtain ⟨a, ns, ls, k, h1, h2, h3, _⟩ := h
  exact ⟨(ne_of_none h1 e).symm, (ne_of_none h3 e).symm⟩
/-- all else stays, and it too -/
theorem Sd.off (h : Sd K m L n H) {p : Addr} {u : HO} (hp : H p = some u) (hu : ∀ o v, u ≠ .frz o v) (n1 : p ≠ m) (n2 : p ≠ L) (k : ∀ b o, b ≠ p → H b = some o → H' b = some o) : Sd K m L n H' := by
  obtain ⟨a, ns, ls, j, h1, h2, h3, h4⟩ := h
  exact ⟨a, ns, ls, j, k _ _ n1.symm h1, h2.fr fun b o v q => k _ _ (fun z => by rw [z, hp] at q; exact hu _ _ (Option.some.inj q)) q, k _ _ n2.symm h3, h4⟩
end
section
variable {P : Program} {w : World} {K : PySem.W.Frag} {mg : Str → Option Value} {base : Heap}
def spBegun (K : PySem.W.Frag) : Sp := fun vs H Q _ => ∃ (a : Addr) (ns : List Int), vs = [.ref a] ∧ SqF K H a (ns.map V.int) ∧ ns.length ≤ 63 ∧ ∀ m L H', Same H H' → H m = none → H L = none → Sd K m L 0 H' → Q (.ref m) H'
theorem ok_begun (T : TxL K mg) : FnOk P w K mg base CX0 1 T._law_begun.f T._law_begun.d ["script"] (spBegun K) := by
  refine T._law_begun.F.ok sc__law_begun (fun vs H Q E h => ?_) (fun cdv A outer s0 H vs Q E hr h => ?_)
  · obtain ⟨a, ns, rfl, _⟩ := h
    rfl
  · obtain ⟨a, ns, rfl, ha, hl, q⟩ := h
    refine ⟨_, (pss_one (ps_ret (pe_disp (pps_cons pe_str (pv 0) (pps_cons pe_str pe_int (pps_cons pe_str (pe_lc (own := [("cell", 1)]) (g := gName 1) (tt := tYes) rfl sc__law_begun.nd (pi_list (pv 0)) (blkOk_by (N := ["script", "cell"]) (sc := (defScope s__law_begun)) (by decide +kernel)) (fun _ _ _ _ _ => (pg_name (i := 1) sc__law_begun.nd rfl (.inl rfl))) (fun _ _ _ _ _ => pts_nil) (fun _ _ _ _ _ => (pe_ifExp (pt_cmpR op_ge (pv 1) (pe_op op_pow pe_int pe_int) (nomark _)) (pv 1) pe_int))) pps_nil))) (by rfl) (by rfl) (fun z => by cases z) (by decide)))), ?_⟩
    refine fun m nm => ?_
    have hH : Same H (upd H m (.dK [])) := same_upd nm
    have hm : (upd H m (.dK [])) m = some (.dK []) := upd_same
    revert hH hm
    generalize upd H m (.dK []) = H1
    intro s1 hm
    have ha1 := ha.fr fun b o u q => s1 _ _ q
    refine ⟨_, rfl, _, rfl, a, rfl, ⟨_, ha1.sq⟩, fun D nD => ?_⟩
    refine lc_list (K := K) (a := a) (xs := ns.map V.int) (fun i H' => Same H1 H' ∧ ∃ ls : List Int, H' D = some (.lst (ls.map V.int)) ∧ ls.length = i) ⟨same_upd nD, [], upd_same, rfl⟩ (fun i H' hi h => (ha1.fr fun b o u q => h.1 _ _ q).sq) (fun i x H' hx h => ?_) (fun H' h => ?_)
    · obtain ⟨sm, ls, hD, hls⟩ := h
      rw [List.getElem?_map] at hx
      cases hi : ns[i]? with
      | none => rw [hi] at hx; cases hx
      | some c =>
        rw [hi] at hx
        cases Option.some.inj hx
        have hil : i < ns.length := (List.getElem?_eq_some_iff.mp hi).1
        have fin : ∀ z : Int, Same H1 (upd H' D (.lst (ls.map V.int ++ [.int z]))) ∧ ∃ ls' : List Int, (upd H' D (.lst (ls.map V.int ++ [.int z]))) D = some (.lst (ls'.map V.int)) ∧ ls'.length = i + 1 := fun z => by
          refine ⟨fun b o e => ?_, ls ++ [z], ?_, ?_⟩
          · rw [upd_ne (ne_of_none e nD)]; exact sm _ _ e
          · rw [upd_same, List.map_append]; rfl
          · rw [List.length_append, hls]; rfl
        have hz : (ls.map V.int).length < sizeLine := lt_size (by rw [List.length_map]; omega)
        refine ⟨rfl, _, rfl, _, _, rfl, rfl, ⟨by decide, by decide, by decide⟩, _, _, rfl, rfl, _, rfl, ite2 (fun hc => ?_) (fun hc => ?_)⟩
        · exact ⟨_, rfl, _, hD, hz, fin c⟩
        · exact ⟨_, hD, hz, fin 0⟩
    · obtain ⟨sm, ls, hD, hls⟩ := h
      rw [List.length_map] at hls
      refine ⟨sm _ _ hm, [(kyS, .ref a), (kyA, .int 0), (kyL, .ref D)], rfl, (by show 3 ≤ 15; omega), ?_⟩
      rw [st_merge]
      have mD : m ≠ D := ne_of_none hm nD
      have nm' : ∀ b o, b ≠ m → H' b = some o → (upd H' m (.dK (stM a 0 D))) b = some o := fun b o hb e => by rw [upd_ne hb]; exact e
      refine q m D _ (fun b o e => nm' b o (ne_of_none e nm) (sm _ _ (s1 _ _ e))) nm (s1.free nD) ⟨a, ns, ls, 0, upd_same, ?_, nm' _ _ mD.symm hD, hls, hl, by omega, by omega⟩
      exact ha.fr fun b o u e => nm' b _ (ne_of_none e nm) (sm _ _ (s1 _ _ e))
end
end LW

set_option Elab.async false
set_option linter.all false
set_option maxRecDepth 100000
set_option maxHeartbeats 4000000
/-! the law's drawing: a number below a count -/
namespace LW
open PySem PySem.Spec PyProof.Rows L2
theorem dg_s {H : Hp} {m a L : Addr} {k : Int} (h : H m = some (.dK (stM a k L))) : DGet H m (.str "script") (some (.ref a)) := by
  have := DGet.k (k := kyS) h
  rwa [st_s] at this
theorem dg_a {H : Hp} {m a L : Addr} {k : Int} (h : H m = some (.dK (stM a k L))) : DGet H m (.str "at") (some (.int k)) := by
  have := DGet.k (k := kyA) h
  rwa [st_a] at this
theorem dg_l {H : Hp} {m a L : Addr} {k : Int} (h : H m = some (.dK (stM a k L))) : DGet H m (.str "left") (some (.ref L)) := by
  have := DGet.k (k := kyL) h
  rwa [st_l] at this
theorem ints_at {ns : List Int} {j : Nat} (h : j < ns.length) : ∃ c : Int, (ns.map V.int)[j]? = some (.int c) := by
  refine ⟨ns[j], ?_⟩
  rw [List.getElem?_map, List.getElem?_eq_getElem h]
  rfl
theorem ixN_j {n j : Nat} (h : j < n) : ixN n (j : Int) = some j := by
  unfold ixN
  simp [h]
section
variable {P : Program} {w : World} {K : PySem.W.Frag} {mg : Str → Option Value} {base : Heap}
def spDraw (K : PySem.W.Frag) : Sp := fun vs H Q _ => ∃ (m L : Addr) (c n : Int), vs = [.ref m, .int c] ∧ 1 ≤ c ∧ c ≤ 1000000 ∧ n ≤ 900000 ∧ Sd K m L n H ∧ ∀ (r : Int) (H' : Hp), 0 ≤ r → r < c → Kp m L H H' → Sd K m L (n + 1) H' → Q (.int r) H'
theorem ok_draw (T : TxL K mg) : FnOk P w K mg base CX0 1 T._law_draw.f T._law_draw.d ["m", "count"] (spDraw K) := by
  refine T._law_draw.F.ok sc__law_draw (fun vs H Q E h => ?_) (fun cdv A outer s0 H vs Q E hr h => ?_)
  · obtain ⟨m, L, c, n, rfl, _⟩ := h
    rfl
  · obtain ⟨m, L, c, n, rfl, c1, c2, hn, hS, q⟩ := h
    have hu := hu_of hr
    have hu0 := hr.units0
    refine ⟨_, (pss_cons (ps_set (i := 2) sc__law_draw.nd rfl (.inl rfl) (pe_dget hu (pv 0) pe_str (fun _ _ => rfl)))
      (pss_cons (ps_dput hu (pv 0) pe_str (pe_op op_add (pv 2) pe_int) rfl)
      (pss_cons (ps_set (i := 3) sc__law_draw.nd rfl (.inl rfl) (pe_op op_modN (pv 2) (pe_callB (call_max2 rfl) (by rfl) T.n_max (by decide +kernel) (pa_cons pe_int (pa_cons (pe_callB call_len_seq (by rfl) T.n_len (by decide +kernel) (pa_cons (pe_dget hu (pv 0) pe_str (fun _ _ => rfl)) pa_nil)) pa_nil)))))
      (Evl.pss_cut (ps_if (PW.pt (pw_and (pt_cmpR (KT4.op_ne_nil hu0) (pe_dget hu (pv 0) pe_str (fun _ _ => rfl)) (KW.pe_lstS pa_nil) (nomark _)) (pw_and1 (pt_cmpR op_gt (pe_ix ix_list (pe_dget hu (pv 0) pe_str (fun _ _ => rfl)) (pv 3) (fun _ _ => rfl)) pe_int (nomark _))))) (pss_cons (ps_set (i := 4) sc__law_draw.nd rfl (.inl rfl) (pe_ix ix_list (pe_dget hu (pv 0) pe_str (fun _ _ => rfl)) (pv 3) (fun _ _ => rfl)))
      (pss_cons (ps_asg (pe_op op_fdiv (pv 4) (pv 1)) (pg_sub (pe_dget hu (pv 0) pe_str (fun _ _ => rfl)) (pv 3) set_list))
      (pss_one (ps_ret (pe_op op_mod (pv 4) (pv 1)))))) pss_nil)
      (Evl.pss_cut (ps_set (i := 4) sc__law_draw.nd rfl (.inl rfl) (pe_ifExp (pt_cmpR (KT4.op_ne_nil hu0) (pe_dget hu (pv 0) pe_str (fun _ _ => rfl)) (KW.pe_lstS pa_nil) (nomark _)) (pe_op op_mod (pe_ix ix_list (pe_dget hu (pv 0) pe_str (fun _ _ => rfl)) (pv 3) (fun _ _ => rfl)) pe_int) pe_int))
      (pss_cons (ps_set (i := 5) sc__law_draw.nd rfl (.inl rfl) (pe_op op_mod (pe_op op_add (pe_op op_add (pe_op op_add (pe_op op_mul (pv 4) pe_int) (pe_op op_mul (pe_op op_mul pe_int (pv 2)) (pv 2))) (pe_op op_mul pe_int (pv 2))) pe_int) pe_int))
      (pss_cons (ps_set (i := 5) sc__law_draw.nd rfl (.inl rfl) (pe_op op_mod (pe_op op_add (pe_op op_add (pe_op op_mul (pv 5) pe_int) (pe_op op_mul pe_int (pv 2))) pe_int) pe_int))
      (pss_one (ps_ret (pe_op op_mod (pe_op op_fdiv (pe_op op_mod (pe_op op_mul (pv 5) (pv 5)) pe_int) pe_int) (pv 1))))))))))), ?_⟩
    have ne := hS.ne
    obtain ⟨a, ns, ls, k, hm, ha, hL, hls, hns, k0, k1⟩ := hS
    refine ⟨_, rfl, m, .int k, rfl, dg_a hm, ?_⟩
    refine ⟨_, rfl, _, _, rfl, rfl, _, rfl, m, _, rfl, DPut.k (k := kyA) hm (lt_size (by show 3 ≤ 5000; omega)), ?_⟩
    rw [st_put]
    have kp1 : Kp m L H (upd H m (.dK (stM a (k + 1) L))) := Kp.atS
    have hm1 : (upd H m (.dK (stM a (k + 1) L))) m = some (.dK (stM a (k + 1) L)) := upd_same
    have ha1 : SqF K (upd H m (.dK (stM a (k + 1) L))) a (ns.map V.int) := ha.fr fun b o u e => by rw [upd_ne (ne_of e hm (by intro z; cases z))]; exact e
    have hL1 : (upd H m (.dK (stM a (k + 1) L))) L = some (.lst (ls.map V.int)) := by rw [upd_ne ne.symm]; exact hL
    revert kp1 hm1 ha1 hL1
    generalize upd H m (.dK (stM a (k + 1) L)) = H1
    intro kp1 hm1 ha1 hL1
    -- the spot
    obtain ⟨j, hj, hjl⟩ : ∃ j : Nat, k.fmod (if ((ns.map V.int).length : Int) > 1 then ((ns.map V.int).length : Int) else 1) = (j : Int) ∧ (ns ≠ [] → j < ns.length) := by
      have hp : 0 < (if ((ns.map V.int).length : Int) > 1 then ((ns.map V.int).length : Int) else 1) := by split <;> omega
      obtain ⟨j, hj⟩ := Int.eq_ofNat_of_zero_le (Int.fmod_nonneg k0 (Int.le_of_lt hp))
      refine ⟨j, hj, fun z => ?_⟩
      have h2 := Int.fmod_lt_of_pos k hp
      have h3 := List.length_pos_iff.mpr z
      rw [hj] at h2
      rw [List.length_map] at h2
      split at h2 <;> omega
    have hnz : (if ((ns.map V.int).length : Int) > 1 then ((ns.map V.int).length : Int) else 1) ≠ 0 := by split <;> omega
    refine ⟨_, rfl, _, rfl, m, .ref a, rfl, dg_s hm1, a, _, rfl, .inl ha1.sq, _, _, rfl, _, _, rfl, rfl, hnz, ?_⟩
    dsimp only
    rw [hj]
    refine ⟨fun σ' H2 => σ' = [some (.ref m), some (.int c), some (.int k), some (.int (j : Nat)), none, none] ∧ Kp m L H H2 ∧ H2 m = some (.dK (stM a (k + 1) L)) ∧ SqF K H2 a (ns.map V.int) ∧ H2 L = some (.lst (ls.map V.int)), ?_, ?_⟩
    · refine ⟨_, rfl, m, .ref L, rfl, dg_l hm1, Nat.zero_le _, fun p H2 s2 np hp => ?_⟩
      have hm2 := s2 _ _ hm1
      have hL2 := s2 _ _ hL1
      have ha2 : SqF K H2 a (ns.map V.int) := ha1.fr fun b o u e => s2 _ _ e
      have kp2 : Kp m L H H2 := kp1.trans (.of_same s2)
      refine ⟨L, p, _, rfl, rfl, .inl (.inl hL2), .inl (.inl hp), _, rfl, ?_⟩
      cases hz : (ls.map V.int).isEmpty with
      | true => exact iteF ⟨rfl, kp2, hm2, ha2, hL2⟩
      | false =>
        have hjl' : j < ls.length := by
          have : ns ≠ [] := fun z => by
            rw [z] at hls
            have : ls = [] := List.eq_nil_of_length_eq_zero hls
            rw [this] at hz
            cases hz
          have := hjl this
          omega
        obtain ⟨x, hx⟩ := ints_at hjl'
        refine iteT ⟨_, rfl, m, .ref L, rfl, dg_l hm2, _, rfl, L, _, _, _, rfl, rfl, .inl (.inl hL2), atI_nat hx, _, _, rfl, rfl, _, rfl, ite2 (fun hc => ?_) (fun hc => ⟨rfl, kp2, hm2, ha2, hL2⟩)⟩
        have hjm : j < (ls.map V.int).length := by rw [List.length_map]; exact hjl'
        refine ⟨_, rfl, m, .ref L, rfl, dg_l hm2, _, rfl, L, _, _, _, rfl, rfl, .inl (.inl hL2), atI_nat hx, ?_⟩
        refine ⟨_, rfl, _, rfl, _, _, rfl, rfl, ⟨by show (0 : Int) < c; omega, by show c < 1073741824; omega⟩, _, rfl, m, .ref L, rfl, dg_l hm2, _, rfl, L, _, _, j, rfl, rfl, hL2, ixN_j hjm, ?_⟩
        refine ⟨_, rfl, _, rfl, _, _, rfl, rfl, (by show (0 : Int) < c; omega), ?_⟩
        refine q _ _ (Int.emod_nonneg _ (by omega)) (Int.emod_lt_of_pos _ (by omega)) (kp2.trans Kp.atC) ⟨a, ns, ls.set j (x / c), k + 1, by rw [upd_ne ne]; exact hm2, ha2.fr fun b o u e => by rw [upd_ne (ne_of e hL2 (by intro z; cases z))]; exact e, by rw [upd_same, List.map_set], by rw [List.length_set]; exact hls, hns, by omega, by omega⟩
    · rintro σ' H2 ⟨rfl, kp2, hm2, ha2, hL2⟩
      refine ⟨fun σ' H3 => ∃ x : Int, 0 ≤ x ∧ x < 1000000007 ∧ σ' = [some (.ref m), some (.int c), some (.int k), some (.int (j : Nat)), some (.int x), none] ∧ Kp m L H H3 ∧ H3 m = some (.dK (stM a (k + 1) L)) ∧ SqF K H3 a (ns.map V.int) ∧ H3 L = some (.lst (ls.map V.int)), ?_, ?_⟩
      · refine ⟨_, rfl, m, .ref a, rfl, dg_s hm2, Nat.zero_le _, fun p H3 s3 np hp => ?_⟩
        have hm3 := s3 _ _ hm2
        have hL3 := s3 _ _ hL2
        have ha3 : SqF K H3 a (ns.map V.int) := ha2.fr fun b o u e => s3 _ _ e
        have kp3 : Kp m L H H3 := kp2.trans (.of_same s3)
        refine ⟨a, p, _, rfl, rfl, ha3.sq, .inl (.inl hp), _, rfl, ?_⟩
        cases hz : (ns.map V.int).isEmpty with
        | true => exact iteF ⟨0, by decide, by decide, rfl, kp3, hm3, ha3, hL3⟩
        | false =>
          have hjl' : j < ns.length := hjl fun z => by
            rw [z] at hz
            cases hz
          obtain ⟨x, hx⟩ := ints_at hjl'
          exact iteT ⟨_, rfl, m, .ref a, rfl, dg_s hm3, _, rfl, a, _, _, _, rfl, rfl, ha3.sq, atI_nat hx, _, _, rfl, rfl, (by show (0 : Int) < 1000000007; decide), x % 1000000007, Int.emod_nonneg _ (by decide), Int.emod_lt_of_pos _ (by decide), rfl, kp3, hm3, ha3, hL3⟩
      · rintro σ' H3 ⟨x, x0, x1, rfl, kp3, hm3, ha3, hL3⟩
        have hk1 : 7919 * k * k ≤ 7919 * 1000000 * 1000000 := by
          have e1 : 7919 * k ≤ 7919 * 1000000 := by omega
          exact Int.le_trans (Int.mul_le_mul_of_nonneg_right e1 k0) (Int.mul_le_mul_of_nonneg_left (by omega) (by decide))
        have hk0 : 0 ≤ 7919 * k * k := Int.mul_nonneg (by omega) k0
        refine ⟨_, rfl, _, _, rfl, rfl, .inl ⟨by omega, by omega⟩, _, rfl, _, _, rfl, rfl, .inl ⟨by decide, by decide⟩, _, rfl, _, _, rfl, rfl, .inl ⟨by omega, by omega⟩, _, _, rfl, rfl, _, rfl, _, _, rfl, rfl, .inl ⟨by decide, by decide⟩, _, _, rfl, rfl, _, _, rfl, rfl, _, _, rfl, rfl, (by show (0 : Int) < 2147483647; decide), ?_⟩
        dsimp only
        generalize (x * 48271 + 7919 * k * k + 31 * k + 17) = y
        have hy0 : 0 ≤ y % 2147483647 := Int.emod_nonneg _ (by decide)
        have hy1 : y % 2147483647 < 2147483647 := Int.emod_lt_of_pos _ (by decide)
        revert hy0 hy1
        generalize y % 2147483647 = y
        intro hy0 hy1
        refine ⟨_, rfl, _, _, rfl, rfl, .inl ⟨by omega, by omega⟩, _, rfl, _, _, rfl, rfl, .inl ⟨by decide, by decide⟩, _, _, rfl, rfl, _, _, rfl, rfl, _, _, rfl, rfl, (by show (0 : Int) < 2147483629; decide), ?_⟩
        dsimp only
        generalize (y * 69619 + 104729 * k + 5) = z
        have hz0 : 0 ≤ z % 2147483629 := Int.emod_nonneg _ (by decide)
        have hz1 : z % 2147483629 < 2147483629 := Int.emod_lt_of_pos _ (by decide)
        revert hz0 hz1
        generalize z % 2147483629 = z
        intro hz0 hz1
        refine ⟨_, rfl, _, rfl, _, _, rfl, rfl, .inl ⟨by omega, by omega⟩, _, _, rfl, rfl, (by show (0 : Int) < 1000000007; decide), _, _, rfl, rfl, ⟨by decide, by decide⟩, _, rfl, _, _, rfl, rfl, (by show (0 : Int) < c; omega), ?_⟩
        exact q _ _ (Int.emod_nonneg _ (by omega)) (Int.emod_lt_of_pos _ (by omega)) kp3 ⟨a, ns, ls, k + 1, hm3, ha3, hL3, hls, hns, by omega, by omega⟩
end
end LW

set_option Elab.async false
set_option linter.all false
set_option maxRecDepth 100000
set_option maxHeartbeats 4000000
/-! the law's drawing: names -/
namespace LW
open PySem PySem.Spec PyProof.Rows L2
def okS (z : Str) : Bool := decide (z.length ≤ 12) && z.cps.toList.all fun c => decide (c < 128)
def ownT : Str := "all lane group far near store load over a b n"
def ownW : List Str := ["all", "lane", "group", "far", "near", "store", "load", "over", "a", "b", "n"]
def abc : Str := "abcdefghijklmnopqrstuvwxyz"
theorem own_split : Txt.split ownT " " = ownW := by decide +kernel
theorem own_ok : ∀ z ∈ ownW, okS z = true := by decide +kernel
theorem abc_ok : ∀ f : Fin 11, ∀ k : Fin 4, okS (cutS abc (some (f.val : Int)) (some ((f.val : Int) + 1 + (k.val : Int)))) = true := by decide +kernel
/-- where data may stand that drawing leaves alone -/
def Fs (s c : Addr) (a : Addr) : Prop := a ≠ s ∧ a ≠ c
/-- new since H -/
def Fn (s c : Addr) (H : Hp) (a : Addr) : Prop := Fs s c a ∧ H a = none
section
variable {P : Program} {w : World} {K : PySem.W.Frag} {mg : Str → Option Value} {base : Heap}
theorem Kp.new {s c : Addr} {H : Hp} {p : Addr} {o : HO} (h : H p = none) : Kp s c H (upd H p o) := .of_same (same_upd h)
theorem Kp.put {s c D : Addr} {H H' : Hp} {o : HO} (k : Kp s c H H') (e : H D = none) : Kp s c H (upd H' D o) := fun b x b1 b2 h => by
  rw [upd_ne (ne_of_none h e)]
  exact k b x b1 b2 h
theorem Fn.of {m L : Addr} {n : Int} {H H1 : Hp} {a : Addr} (k : Kp m L H H1) (s : Sd K m L n H1) (e : H1 a = none) : Fn m L H a := ⟨s.ns e, k.free (s.ns e).1 (s.ns e).2 e⟩
theorem Dq.older {s c : Addr} {H H1 H2 : Hp} {d : PyData} {v : V} (h : Dq (Fn s c H1) H2 d v) (k : Kp s c H H1) : Dq (Fn s c H) H2 d v := h.kp fun b o f e => ⟨⟨f.1, k.free f.1.1 f.1.2 f.2⟩, e⟩
theorem Dq.fnk {s c : Addr} {H H1 H2 : Hp} {d : PyData} {v : V} (h : Dq (Fn s c H) H1 d v) (k : Kp s c H1 H2) : Dq (Fn s c H) H2 d v := h.kp fun b o f e => ⟨f, k b o f.1.1 f.1.2 e⟩
theorem Tu.kp {s c a : Addr} {xs : List V} {H H' : Hp} (h : Tu H a xs) (f : Fs s c a) (k : Kp s c H H') : Tu H' a xs := by
  obtain ⟨o, e, r⟩ := h
  exact ⟨o, k _ _ f.1 f.2 e, r⟩
/-- a new list of texts -/
def NmAt (m L : Addr) (H H' : Hp) (p : Addr) (zs : List Str) : Prop := Fn m L H p ∧ H' p = some (.lst (zs.map V.str)) ∧ zs.length = 4 ∧ ∀ z ∈ zs, okS z = true
def spNames (K : PySem.W.Frag) : Sp := fun vs H Q _ => ∃ (m L : Addr) (n : Int), vs = [.ref m] ∧ n ≤ 890000 ∧ Sd K m L n H ∧ ∀ (p : Addr) (zs : List Str) (H' : Hp), Kp m L H H' → Sd K m L (n + 2) H' → NmAt m L H H' p zs → Q (.ref p) H'
theorem ok_names (T : TxL K mg) : FnOk P w K mg base CX0 2 T._law_names.f T._law_names.d ["m"] (spNames K) := by
  have G_law_draw : FnOk P w K mg base CX0 1 T._law_draw.f T._law_draw.d ["m", "count"] (spDraw K) := ok_draw T
  refine T._law_names.F.ok sc__law_names (fun vs H Q E h => ?_) (fun cdv A outer s0 H vs Q E hr h => ?_)
  · obtain ⟨m, L, n, rfl, _⟩ := h
    rfl
  · obtain ⟨m, L, n, rfl, hn, hS, q⟩ := h
    have r_law_draw := hr
    refine ⟨_, (pss_cons (ps_set (i := 1) sc__law_names.nd rfl (.inr rfl) (pe_split pe_str pe_str))
      (pss_cons (ps_asg (pe_tupF (pa_cons (pe_call G_law_draw r_law_draw (by rfl) T._law_draw.g T._law_draw.F.kp T._law_draw.b .nil pass0 (pa_cons (pv 0) (pa_cons pe_int pa_nil))) (pa_cons pe_str pa_nil))) (pg_tup rfl (pgs_cons (pg_name (i := 2) sc__law_names.nd rfl (.inr rfl)) (pgs_cons (pg_name (i := 3) sc__law_names.nd rfl (.inr rfl)) pgs_nil))))
      (pss_cons (ps_if (pt_cmpR op_eq (pe_call G_law_draw r_law_draw (by rfl) T._law_draw.g T._law_draw.F.kp T._law_draw.b .nil pass0 (pa_cons (pv 0) (pa_cons pe_int pa_nil))) pe_int (nomark _)) (pss_one (ps_ret (pe_lc (own := [("k", 4)]) (g := gName 4) (tt := tYes) rfl sc__law_names.nd (pi_range1 (by rfl) T.n_range (pa_cons pe_int pa_nil)) (blkOk_by (N := ["m", "own", "first", "small", "k"]) (sc := (defScope s__law_names)) (by decide +kernel)) (fun _ _ _ _ _ => (pg_name (i := 4) sc__law_names.nd rfl (.inl rfl))) (fun _ _ _ _ _ => pts_nil) (fun _ _ _ _ _ => (pe_ix (r := rIxL K) ix_list (pv 1) (pe_op op_mod (pe_op op_add (pv 2) (pe_op op_mul pe_int (pv 4))) pe_int) (fun _ _ => rfl)))))) pss_nil)
      (pss_one (ps_ret (pe_lc (own := [("k", 4)]) (g := gName 4) (tt := tYes) rfl sc__law_names.nd (pi_range1 (by rfl) T.n_range (pa_cons pe_int pa_nil)) (blkOk_by (N := ["m", "own", "first", "small", "k"]) (sc := (defScope s__law_names)) (by decide +kernel)) (fun _ _ _ _ _ => (pg_name (i := 4) sc__law_names.nd rfl (.inl rfl))) (fun _ _ _ _ _ => pts_nil) (fun _ _ _ _ _ => (pe_slice sl_str (pv 3) (po_some (pv 2)) (po_some (pe_op op_add (pe_op op_add (pv 2) pe_int) (pv 4))))))))))), ?_⟩
    refine ⟨⟨_, rfl⟩, ownT, " ", rfl, rfl, by decide +kernel, le_size (by decide +kernel), fun o no => ?_⟩
    rw [own_split]
    have s1 : Same H (upd H o (.lst (ownW.map V.str))) := same_upd no
    have ho1 : (upd H o (.lst (ownW.map V.str))) o = some (.lst (ownW.map V.str)) := upd_same
    revert s1 ho1
    generalize upd H o (.lst (ownW.map V.str)) = H1
    intro s1 ho1
    have fo := hS.ns no
    refine ⟨_, rfl, m, L, 11, n, rfl, by decide, by decide, by omega, hS.same s1, fun f H2 f0 f1 k2 m2 => ?_⟩
    have kk2 : Kp m L H H2 := (Kp.of_same s1).trans k2
    refine ⟨by show 2 ≤ 5000; omega, fun pt H2' s2' npt hpt => ⟨pt, _, rfl, hpt.sq, rfl, _, _, rfl, _, _, rfl, rfl, ?_⟩⟩
    have m2' := m2.same s2'
    refine ⟨_, rfl, m, L, 2, n + 1, rfl, by decide, by decide, by omega, m2', fun r H3 r0 r1 k3 m3 => ?_⟩
    have kk3 := (kk2.trans (.of_same s2')).trans k3
    have ho3 : H3 o = some (.lst (ownW.map V.str)) := k3 _ _ fo.1 fo.2 (s2' _ _ (k2 _ _ fo.1 fo.2 ho1))
    obtain ⟨f, rfl⟩ := Int.eq_ofNat_of_zero_le f0
    have m3' : Sd K m L (n + 2) H3 := m3.le (by omega)
    have turn : ∀ (D : Addr) (H4 : Hp) (z : Str) (zs : List Str) (i : Nat), H3 D = none → okS z = true → (Same H3 H4 ∧ H4 D = some (.lst (zs.map V.str)) ∧ zs.length = i ∧ ∀ z ∈ zs, okS z = true) → (i < 4) →
        (zs.map V.str).length < sizeLine ∧ ∃ zs' : List Str, Same H3 (upd H4 D (.lst (zs.map V.str ++ [.str z]))) ∧ (upd H4 D (.lst (zs.map V.str ++ [.str z]))) D = some (.lst (zs'.map V.str)) ∧ zs'.length = i + 1 ∧ ∀ z ∈ zs', okS z = true := fun D H4 z zs i nD hz h hi => by
      obtain ⟨h1, h2, h3, h4⟩ := h
      refine ⟨lt_size (by rw [List.length_map]; omega), zs ++ [z], fun b o e => ?_, ?_, by rw [List.length_append, h3]; rfl, fun x hx => ?_⟩
      · rw [upd_ne (ne_of_none e nD)]; exact h1 _ _ e
      · rw [upd_same, List.map_append]; rfl
      · rcases List.mem_append.mp hx with hx | hx
        · exact h4 x hx
        · rw [List.mem_singleton] at hx
          rw [hx]; exact hz
    have fin : ∀ (D : Addr) (H4 : Hp), H3 D = none → (∃ zs : List Str, Same H3 H4 ∧ H4 D = some (.lst (zs.map V.str)) ∧ zs.length = 4 ∧ ∀ z ∈ zs, okS z = true) → Q (.ref D) H4 := fun D H4 nD h => by
      obtain ⟨zs, h1, h2, h3, h4⟩ := h
      exact q D zs H4 (kk3.trans (.of_same h1)) (m3'.same h1) ⟨Fn.of kk3 m3' nD, h2, h3, h4⟩
    refine ⟨rfl, _, rfl, ite2 (fun hx => ?_) (fun hx => ?_)⟩
    · refine ⟨_, rfl, by decide, by decide, fun D nD => ?_⟩
      refine lc_range (n := (4 : Int).toNat) (fun i H' => ∃ zs : List Str, Same H3 H' ∧ H' D = some (.lst (zs.map V.str)) ∧ zs.length = i ∧ ∀ z ∈ zs, okS z = true) ⟨[], same_upd nD, upd_same, rfl, fun z hz => by cases hz⟩ (fun i H' hi h => ?_) (fun H' h => fin D H' nD h)
      obtain ⟨zs, h⟩ := h
      have hi4 : i < 4 := hi
      refine ⟨rfl, ?_⟩
      obtain ⟨j, hj, hj11⟩ : ∃ j : Nat, ((f : Int) + 3 * ((0 : Int) + (i : Nat))) % 11 = (j : Int) ∧ j < 11 := ⟨(f + 3 * i) % 11, by omega, by omega⟩
      obtain ⟨z, hz⟩ : ∃ z, ownW[j]? = some z := ⟨_, List.getElem?_eq_getElem (show j < ownW.length from hj11)⟩
      have hz' : (ownW.map V.str)[j]? = some (.str z) := by rw [List.getElem?_map, hz]; rfl
      obtain ⟨t1, zs', t2⟩ := turn D H' z zs i nD (own_ok z (List.mem_of_getElem? hz)) h hi4
      have at_ : atI (ownW.map V.str) (((f : Int) + 3 * ((0 : Int) + (i : Nat))) % 11) = some (.str z) := by rw [hj]; exact atI_nat hz'
      exact ⟨_, rfl, _, rfl, _, rfl, _, _, rfl, rfl, .inl ⟨by decide, by decide⟩, _, _, rfl, rfl, _, _, rfl, rfl, (by show (0 : Int) < 11; decide), o, _, _, _, rfl, rfl, .inl (.inl (h.1 _ _ ho3)), at_, _, h.2.1, t1, zs', t2⟩
    · refine ⟨_, rfl, by decide, by decide, fun D nD => ?_⟩
      refine lc_range (n := (4 : Int).toNat) (fun i H' => ∃ zs : List Str, Same H3 H' ∧ H' D = some (.lst (zs.map V.str)) ∧ zs.length = i ∧ ∀ z ∈ zs, okS z = true) ⟨[], same_upd nD, upd_same, rfl, fun z hz => by cases hz⟩ (fun i H' hi h => ?_) (fun H' h => fin D H' nD h)
      obtain ⟨zs, h⟩ := h
      have hi4 : i < 4 := hi
      refine ⟨rfl, ?_⟩
      have hz : okS (cutS abc (some (f : Int)) (some ((f : Int) + 1 + ((0 : Int) + (i : Nat))))) = true := by
        have e0 : ((f : Int) + 1 + ((0 : Int) + (i : Nat))) = (f : Int) + 1 + (i : Nat) := by omega
        rw [e0]
        exact abc_ok ⟨f, by omega⟩ ⟨i, hi4⟩
      obtain ⟨t1, zs', t2⟩ := turn D H' _ zs i nD hz h hi4
      exact ⟨_, rfl, _, rfl, _, rfl, _, rfl, _, _, rfl, rfl, _, rfl, _, _, rfl, rfl, _, rfl, abc, rfl, le_size (by decide +kernel), _, h.2.1, t1, zs', t2⟩
end
end LW

set_option Elab.async false
set_option linter.all false
set_option maxRecDepth 100000
set_option maxHeartbeats 4000000
namespace LW
open PySem PySem.Spec PyProof.Rows L2
/-! displays of data -/
def NewV (d : PyData) : VK → Hp → Prop := fun Q H => ∀ v H', Same H H' → Dq (fun a => H a = none) H' d v → Q v H'
def tD (d : PyData) : TE := fun σ H Q => NewV d Q H
def tDs (ds : List PyData) : TA := fun σ H Q => ∀ vs H', Same H H' → DqL (fun a => H a = none) H' ds vs → Q vs H'
section
variable {X : Cx} {e : Expr} {es : List Expr} {t : TE} {pos : Pos}
theorem PE.weak {t t' : TE} (h : PE X e t) (w : ∀ σ H Q, t' σ H Q → t σ H Q) : PE X e t' := ⟨fun pins s σ H Q I q => h.run pins s σ H Q I (w σ H Q q)⟩
theorem PA.weak {t t' : TA} (h : PA X es t) (w : ∀ σ H Q, t' σ H Q → t σ H Q) : PA X es t' := ⟨fun pos pins s σ H Q I q => h.run pos pins s σ H Q I (w σ H Q q)⟩
theorem pe_dc {d : PyData} {v : V} (h : PE X e (tC v)) (hd : ∀ {F : Addr → Prop} {H : Hp}, Dq F H d v) : PE X e (tD d) := PE.weak h fun σ H Q q => q v H (Same.refl _) hd
theorem dq_dead {H H1 H2 : Hp} {d : PyData} {v : V} (h : Dq (fun a => H1 a = none) H2 d v) (s : Same H H1) : Dq (fun a => H a = none) H2 d v := h.kp fun b o f e => ⟨s.free f, e⟩
theorem pa_dnil : PA X [] (tDs []) := PA.weak pa_nil fun σ H Q q => q [] H (Same.refl _) rfl
theorem pa_dcons {d : PyData} {ds : List PyData} (h : PE X e (tD d)) (g : PA X es (tDs ds)) (hs : starEach (e :: es) X.env = (false, eval e X.env) :: starEach es X.env := by rfl) : PA X (e :: es) (tDs (d :: ds)) := PA.weak (pa_cons h g hs) fun σ H Q q v H1 s1 hd vs H2 s2 hds => q _ H2 (s1.trans s2) ⟨v, vs, rfl, hd.same s2, hds.kp fun b o f e => ⟨s1.free f, e⟩⟩
theorem pe_dtup {ds : List PyData} {x1} (hl : ds.length ≤ 5000) (g : PA X es (tDs ds)) : PE X (.Tuple es x1 pos) (tD (.tuple ds)) := PE.weak (pe_tupF g) fun σ H Q q vs H1 s1 hds => ⟨by rw [hds.len]; exact hl, fun p H2 s2 np tp => q _ H2 (s1.trans s2) (.mk (s1.free np) tp (hds.same s2))⟩
theorem pe_dlst {ds : List PyData} (hl : ds.length ≤ 5000) (g : PA X es (tDs ds)) : PE X (.List es pos) (tD (.list ds)) := PE.weak (pe_lstN g) fun σ H Q q vs H1 s1 hds => ⟨by rw [hds.len]; exact hl, fun p H2 s2 np ns tp => q _ H2 (s1.trans s2) (.mkL (s1.free np) tp ns (hds.same s2))⟩
theorem pe_ddict (g : PE X e tDNewK) : PE X e (tD (.dict [])) := PE.weak g fun σ H Q q p np => q _ _ (same_upd np) ⟨rfl, p, rfl, np, upd_same⟩
theorem pe_dneg {k : Int} (g : PE X e (tUn (rU fun i => .int (-i)) (tC (.int k)))) : PE X e (tD (.int (-k))) := PE.weak g fun σ H Q q => ⟨k, rfl, q _ H (Same.refl _) rfl⟩
theorem pe_dpow (g : PE X e (tOp (rI CPow fun i j => .int (i ^ j.toNat)) (tC (.int 10)) (tC (.int 30)))) : PE X e (tD (.int (10 ^ 30))) := PE.weak g fun σ H Q q => ⟨10, 30, rfl, rfl, ⟨by decide, by decide, by decide⟩, q _ H (Same.refl _) rfl⟩
end
end LW

set_option Elab.async false
set_option linter.all false
set_option maxRecDepth 100000
set_option maxHeartbeats 4000000
/-! (x,) * 0, (x,) * 1: the new tuple's own object told -/
namespace LW
open PySem PySem.Spec PyProof.Rows L2
theorem tuple_none (l : Addr) (i1 : Value) (n : Nat) (dd : Option Addr) (sl : Array (Option Value)) (u : Tok) :
    Meets (Builtin.«tuple.__mul__» ⟨[.ref l, .int 0 u], []⟩) (fun _ R s => s.heap.get? l = some { cls := .type "tuple", dict := dd, data := .seq #[i1] n, slots := sl } ∧ R (.ok (.ret (Value.ref s.heap.objs.size))) { s with heap := s.heap.push { cls := .type "tuple", data := .seq ([] : List Value).toArray } }) :=
  .of_wp fun prog w A R s h => by
    obtain ⟨hp, g, d, tk, os⟩ := s
    obtain ⟨hl, h⟩ := h
    have f1 := AutoSeq1.idx_int
    have c1 : ((#[i1] : Array Value).isEmpty || (0 : Int) == 1) = false := rfl
    wp_walk using wpAny_loadPart' hl
    exact ⟨_, rfl, h⟩
/-- one thing, k times, k nought or one -/
def rRep01 : R2 := fun x y H Q => ∃ (l : Addr) (k : Nat) (z : V), x = .ref l ∧ y = .int (k : Nat) ∧ k ≤ 1 ∧ Tu H l [z] ∧ ∀ p H', Same H H' → (p = l ∨ H p = none) → Tu H' p (List.replicate k z) → Q (.ref p) H'
theorem op_rep01 {X : Cx} : OpR X (binaryOp .Mult) rRep01 := by
  intro pins s σ H x y v u Q I rx ry h
  obtain ⟨l, k, z, rfl, rfl, h1, hT, q⟩ := h
  by_cases hk : k = 1
  · subst hk
    exact op_rep12 pins s σ H _ _ v u Q I rx ry ⟨l, 1, z, rfl, rfl, Nat.le_refl _, by omega, hT, q⟩
  · have hk0 : k = 0 := by omega
    subst hk0
    cases rx
    obtain ⟨t, rfl⟩ := ry
    obtain ⟨its, r, ⟨⟨cls, dd, data, sl⟩, ho, hc, n, hd⟩, hs⟩ := I.tuple (hT.sq (K := X.K))
    simp only at hc hd
    subst hc hd
    obtain ⟨i1, rfl, r1⟩ := vals1 r
    refine wpAny_binaryOp_repeat_ref (T := "tuple") (U := "int") (by decide) ⟨_, ho, rfl⟩ (fun s' => typeIs_int s' _ t) noFill_tuple_mul F.fills_int_mul F.slot_int_rmul repeat_tuple F.slot_int_index.lookup
      (call_meets F.slot_int_rmul (typeIs_int s _ t) F.entry_int_rmul (F.args_int_rmul_2 _ _) (int_rmul_tuple _ t l #[i1] n dd sl)
        ⟨ho, rfl, ⟨_, ho, rfl⟩, call_meets F.slot_tuple_mul ⟨_, ho, rfl⟩ F.entry_tuple_mul (F.args_tuple_mul_2 _ _) (tuple_none l i1 n dd sl t) ⟨ho, ?_⟩⟩)
    obtain ⟨H', I2, e, nn, tu⟩ := tu_laid (n := 0) I (xs := ([] : List V)) (its := []) (Nat.zero_le _) .nil
    exact ⟨.ref s.heap.objs.size, H', I2, rfl, q _ _ e (.inr nn) tu⟩
end LW

set_option Elab.async false
set_option linter.all false
set_option maxRecDepth 100000
set_option maxHeartbeats 4000000
/-! the law's drawing: a kernel -/
namespace LW
open PySem PySem.Spec PyProof.Rows L2
def dm4 : PyData := .tuple [.tuple [.int 4, .tuple []]]
def dm32 : PyData := .tuple [.tuple [.int 3, .tuple []], .tuple [.int 2, .tuple []]]
def c5 : PyData := .tuple [.int 5, .tuple []]
def nears3 (y z : Str) : List (Str × List PyData) := [(y, [dm4]), (z, [dm32]), (y, [dm4])]
def fences (r : Nat) : PyData := .tuple (List.replicate r (.tuple [.str "fence"]))
section
variable {P : Program} {w : World} {K : PySem.W.Frag} {mg : Str → Option Value} {base : Heap}
theorem dead_fn {m L : Addr} {H H1 H2 : Hp} {n : Int} {d : PyData} {v : V} (h : Dq (fun a => H1 a = none) H2 d v) (k : Kp m L H H1) (s : Sd K m L n H1) : Dq (Fn m L H) H2 d v := h.kp fun b o f e => ⟨Fn.of k s f, e⟩
def spKernel (K : PySem.W.Frag) : Sp := fun vs H Q _ => ∃ (m L p : Addr) (n : Int) (x0 x1 y z : Str), vs = [.ref m, .ref p] ∧ n ≤ 890000 ∧ Sd K m L n H ∧ Fs m L p ∧ H p = some (.lst ([x0, x1, y, z].map V.str)) ∧
  ∀ (v : V) (a : Int) (k r : Nat) (H' : Hp), Kp m L H H' → Sd K m L (n + 3) H' → 1 ≤ a → a ≤ 8 → k ≤ 2 → r ≤ 1 → Dq (Fn m L H) H' (kernD (.int a) c5 ((nears3 y z).take k) (fences r)) v → Q v H'
theorem ok_kernel (T : TxL K mg) : FnOk P w K mg base CX0 2 T._law_kernel.f T._law_kernel.d ["m", "names"] (spKernel K) := by
  have G_law_draw : FnOk P w K mg base CX0 1 T._law_draw.f T._law_draw.d ["m", "count"] (spDraw K) := ok_draw T
  refine T._law_kernel.F.ok sc__law_kernel (fun vs H Q E h => ?_) (fun cdv A outer s0 H vs Q E hr h => ?_)
  · obtain ⟨m, L, p, n, x0, x1, y, z, rfl, _⟩ := h
    rfl
  · obtain ⟨m, L, p, n, x0, x1, y, z, rfl, hn, hS, fp, hp, q⟩ := h
    have r_law_draw := hr
    refine ⟨_, (pss_cons (ps_set (i := 2) sc__law_kernel.nd rfl (.inl rfl) (KW.pe_lstS (pa_cons (pe_tupF (pa_cons (pe_ix ix_list (pv 1) pe_int (fun _ _ => rfl)) (pa_cons (pe_dtup (by decide) (pa_dcons (pe_dtup (by decide) (pa_dcons (pe_dc (d := .int 4) pe_int rfl) (pa_dcons (pe_dtup (by decide) pa_dnil) pa_dnil))) pa_dnil)) pa_nil))) (pa_cons (pe_tupF (pa_cons (pe_ix ix_list (pv 1) pe_int (fun _ _ => rfl)) (pa_cons (pe_dtup (by decide) (pa_dcons (pe_dtup (by decide) (pa_dcons (pe_dc (d := .int 3) pe_int rfl) (pa_dcons (pe_dtup (by decide) pa_dnil) pa_dnil))) (pa_dcons (pe_dtup (by decide) (pa_dcons (pe_dc (d := .int 2) pe_int rfl) (pa_dcons (pe_dtup (by decide) pa_dnil) pa_dnil))) pa_dnil))) pa_nil))) (pa_cons (pe_tupF (pa_cons (pe_ix ix_list (pv 1) pe_int (fun _ _ => rfl)) (pa_cons (pe_dtup (by decide) (pa_dcons (pe_dtup (by decide) (pa_dcons (pe_dc (d := .int 4) pe_int rfl) (pa_dcons (pe_dtup (by decide) pa_dnil) pa_dnil))) pa_dnil)) pa_nil))) pa_nil)))))
      (pss_one (ps_ret (pe_tupF (pa_cons (pe_op op_add pe_int (pe_call G_law_draw r_law_draw (by rfl) T._law_draw.g T._law_draw.F.kp T._law_draw.b .nil pass0 (pa_cons (pv 0) (pa_cons pe_int pa_nil)))) (pa_cons (pe_dtup (by decide) (pa_dcons (pe_dc (d := .int 5) pe_int rfl) (pa_dcons (pe_dtup (by decide) pa_dnil) pa_dnil))) (pa_cons (pe_callTy call_tupleF (by rfl) T.n_tuple (by decide +kernel) (pa_cons (pe_slice sl_list (pv 2) po_none (po_some (pe_call G_law_draw r_law_draw (by rfl) T._law_draw.g T._law_draw.F.kp T._law_draw.b .nil pass0 (pa_cons (pv 0) (pa_cons pe_int pa_nil))))) pa_nil)) (pa_cons (pe_op op_rep01 (pe_tupF (pa_cons (pe_dtup (by decide) (pa_dcons (pe_dc (d := .str "fence") pe_str rfl) pa_dnil)) pa_nil)) (pe_call G_law_draw r_law_draw (by rfl) T._law_draw.g T._law_draw.F.kp T._law_draw.b .nil pass0 (pa_cons (pv 0) (pa_cons pe_int pa_nil)))) pa_nil)))))))), ?_⟩
    have hat : ∀ {H' : Hp} (i : Nat) (t : Str), [x0, x1, y, z][i]? = some t → Same H H' → SqL K H' p ([x0, x1, y, z].map V.str) ∧ atI ([x0, x1, y, z].map V.str) ((i : Nat) : Int) = some (.str t) := fun i t e s => ⟨.inl (.inl (s _ _ hp)), atI_nat (by rw [List.getElem?_map, e]; rfl)⟩
    refine ⟨_, rfl, p, _, _, _, rfl, rfl, (hat 2 y rfl (Same.refl _)).1, (hat 2 y rfl (Same.refl _)).2, fun va Ha sa ha => ⟨by show 2 ≤ 5000; omega, fun n1 H1 s1 nn1 t1 => ?_⟩⟩
    have m1 := hS.same (sa.trans s1)
    have k1 : Kp m L H H1 := .of_same (sa.trans s1)
    have d1 : Dq (Fn m L H) H1 (nearD (y, [dm4])) (.ref n1) := .mk (Fn.of (.of_same sa) (hS.same sa) nn1) t1 (.two rfl (dead_fn (ha.same s1) (Kp.refl H) hS))
    refine ⟨_, rfl, p, _, _, _, rfl, rfl, (hat 3 z rfl (sa.trans s1)).1, (hat 3 z rfl (sa.trans s1)).2, fun vb Hb sb hb => ⟨by show 2 ≤ 5000; omega, fun n2 H2 s2 nn2 t2 => ?_⟩⟩
    have m2 := m1.same (sb.trans s2)
    have k2 : Kp m L H H2 := k1.trans (.of_same (sb.trans s2))
    have d2 : Dq (Fn m L H) H2 (nearD (z, [dm32])) (.ref n2) := .mk (Fn.of (k1.trans (.of_same sb)) (m1.same sb) nn2) t2 (.two rfl (dead_fn (hb.same s2) k1 m1))
    have sH2 : Same H H2 := (sa.trans s1).trans (sb.trans s2)
    refine ⟨_, rfl, p, _, _, _, rfl, rfl, (hat 2 y rfl sH2).1, (hat 2 y rfl sH2).2, fun vc Hc sc hc => ⟨by show 2 ≤ 5000; omega, fun n3 H3 s3 nn3 t3 => ?_⟩⟩
    have m3 := m2.same (sc.trans s3)
    have k3 : Kp m L H H3 := k2.trans (.of_same (sc.trans s3))
    have d3 : Dq (Fn m L H) H3 (nearD (y, [dm4])) (.ref n3) := .mk (Fn.of (k2.trans (.of_same sc)) (m2.same sc) nn3) t3 (.two rfl (dead_fn (hc.same s3) k2 m2))
    refine ⟨by show 3 ≤ 5000; omega, fun ln H4 s4 nln hln => ?_⟩
    have m4 := m3.same s4
    have k4 : Kp m L H H4 := k3.trans (.of_same s4)
    have fln := m3.ns nln
    have dN : DqL (Fn m L H) H4 ((nears3 y z).map nearD) [.ref n1, .ref n2, .ref n3] := .three ((d1.same (sb.trans s2)).same ((sc.trans s3).trans s4)) (d2.same ((sc.trans s3).trans s4)) (d3.same s4)
    -- the parts of the kernel
    refine ⟨_, rfl, m, L, 8, n, rfl, by decide, by decide, by omega, m4, fun a H5 a0 a1 k5 m5 => ?_⟩
    have kk5 := k4.trans k5
    refine ⟨_, _, rfl, rfl, fun v5 H6 s6 h6 => ?_⟩
    have m6 := m5.same s6
    have kk6 := kk5.trans (.of_same s6)
    have d6 : Dq (Fn m L H) H6 c5 v5 := dead_fn h6 kk5 m5
    refine ⟨_, rfl, _, rfl, m, L, 3, n + 1, rfl, by decide, by decide, by omega, m6, fun k H7 k0 k1' k7 m7 => ?_⟩
    have kk7 := kk6.trans k7
    obtain ⟨k, rfl⟩ := Int.eq_ofNat_of_zero_le k0
    have hln7 : H7 ln = some (.lst [.ref n1, .ref n2, .ref n3]) := k7 _ _ fln.1 fln.2 (s6 _ _ (k5 _ _ fln.1 fln.2 hln))
    refine ⟨_, rfl, ln, _, rfl, .inl (.inl hln7), fun lc nlc => ?_⟩
    have e7 : cutV [V.ref n1, V.ref n2, V.ref n3] none (some ((k : Nat) : Int)) = [V.ref n1, V.ref n2, V.ref n3].take k := by
      have : k < 3 := by omega
      match k, this with
      | 0, _ => rfl
      | 1, _ => rfl
      | 2, _ => rfl
    rw [e7]
    have s8 : Same H7 (upd H7 lc (.lst ([V.ref n1, V.ref n2, V.ref n3].take k))) := same_upd nlc
    have h8 : (upd H7 lc (.lst ([V.ref n1, V.ref n2, V.ref n3].take k))) lc = some (.lst ([V.ref n1, V.ref n2, V.ref n3].take k)) := upd_same
    revert s8 h8
    generalize upd H7 lc (.lst ([V.ref n1, V.ref n2, V.ref n3].take k)) = H8
    intro s8 h8
    have m8 := m7.same s8
    have kk8 := kk7.trans (.of_same s8)
    refine ⟨lc, _, rfl, .inl (.inl h8), fun pt H9 s9 npt tpt => ?_⟩
    have m9 := m8.same s9
    have kk9 := kk8.trans (.of_same s9)
    have k49 : Kp m L H4 H9 := ((k5.trans (.of_same s6)).trans k7).trans ((Kp.of_same s8).trans (.of_same s9))
    have d9 : Dq (Fn m L H) H9 (.tuple (((nears3 y z).take k).map nearD)) (.ref pt) := by
      rw [List.map_take]
      exact .mk (Fn.of kk8 m8 npt) tpt (DqL.take (dN.kp fun b o f e => ⟨f, k49 b o f.1.1 f.1.2 e⟩))
    refine fun vf Hf sf hf => ⟨by show 1 ≤ 5000; omega, fun pf H10 s10 npf tpf => ?_⟩
    have m10 := m9.same (sf.trans s10)
    have kk10 := kk9.trans (.of_same (sf.trans s10))
    have ff := (m9.same sf).ns npf
    have dF : Dq (Fn m L H) H10 (.tuple [.str "fence"]) vf := dead_fn (hf.same s10) kk9 m9
    refine ⟨_, rfl, m, L, 2, n + 1 + 1, rfl, by decide, by decide, by omega, m10, fun r H11 r0 r1 k11 m11 => ?_⟩
    have kk11 := kk10.trans k11
    obtain ⟨r, rfl⟩ := Int.eq_ofNat_of_zero_le r0
    refine ⟨pf, r, vf, rfl, rfl, by omega, tpf.kp ff k11, fun pr H12 s12 npr tpr => ?_⟩
    have m12 := m11.same s12
    have kk12 := kk11.trans (.of_same s12)
    have fpr : Fn m L H pr := by
      rcases npr with rfl | npr
      · exact ⟨ff, (kk9.trans (.of_same sf)).free ff.1 ff.2 npf⟩
      · exact Fn.of kk11 m11 npr
    have d12 : Dq (Fn m L H) H12 (fences r) (.ref pr) := by
      refine .mk fpr tpr ?_
      have all : ∀ j : Nat, DqL (Fn m L H) H12 (List.replicate j (.tuple [.str "fence"])) (List.replicate j vf) := by
        intro j
        induction j with
        | zero => exact rfl
        | succ j ih => exact ⟨vf, _, rfl, (dF.fnk k11).same s12, ih⟩
      exact all r
    refine ⟨by show 4 ≤ 5000; omega, fun pk H13 s13 npk tpk => ?_⟩
    have k913 : Kp m L H9 H13 := ((Kp.of_same (sf.trans s10)).trans k11).trans (.of_same (s12.trans s13))
    have k613 : Kp m L H6 H13 := (k7.trans ((Kp.of_same s8).trans (.of_same s9))).trans k913
    refine q _ (1 + a) k r H13 (kk12.trans (.of_same s13)) ((m12.same s13).le (by omega)) (by omega) (by omega) (by omega) (by omega) ?_
    exact .mk (Fn.of kk12 m12 npk) tpk (.four rfl (d6.fnk k613) (d9.fnk k913) (d12.same s13))
end
end LW

set_option Elab.async false
set_option linter.all false
set_option maxRecDepth 100000
set_option maxHeartbeats 4000000
/-! the law's drawing: events -/
namespace LW
open PySem PySem.Spec PyProof.Rows L2
/-- small numbers, short texts -/
structure EvS (e : Ev) : Prop where
  n : e.g.natAbs ≤ 100000 ∧ e.l.natAbs ≤ 100000 ∧ e.i.natAbs ≤ 100000 ∧ e.p.natAbs ≤ 100000 ∧ e.w.natAbs ≤ 100000
  k : okS e.kind = true
  m : okS e.name = true
  c : e.cell.length ≤ 2 ∧ ∀ x ∈ e.cell, x.natAbs ≤ 100000
  z : 0 ≤ e.g ∧ 0 ≤ e.l
/-- drawn -/
structure EvG (e : Ev) : Prop where
  s : EvS e
  k : e.kind = "store" ∨ e.kind = "load"
  b : e.i.natAbs ≤ 10 ∧ e.w.natAbs ≤ 70000
theorem okS_fine {z : Str} (h : okS z = true) : fine (.str z) = true ∧ z.length ≤ 12 := by
  unfold okS at h
  rw [Bool.and_eq_true, decide_eq_true_iff] at h
  refine ⟨?_, h.1⟩
  show (decide (z.length ≤ 100) && z.cps.toList.all fun c => decide (c < 128)) = true
  rw [decide_eq_true (by omega), h.2]
  rfl
theorem fine_int {i : Int} (h : i.natAbs ≤ 100000) : fine (.int i) = true := decide_eq_true (Nat.lt_of_le_of_lt h (by decide))
theorem EvS.ok {e : Ev} (h : EvS e) : EvOk e := by
  have fc : fine (intsD e.cell) = true := by
    show fineL (e.cell.map PyData.int) = true
    rw [fineL_mem]
    intro d hd
    obtain ⟨x, hx, rfl⟩ := List.mem_map.mp hd
    exact fine_int (h.c.2 x hx)
  show ((fine (.int e.g) && (fine (.int e.l) && true)) && (fine (.int e.i) && ((fine (.int e.p) && true) && (fine (.str e.kind) && (fine (.str e.name) && (fine (intsD e.cell) && (fine (.int e.w) && true))))))) = true
  rw [fine_int h.n.1, fine_int h.n.2.1, fine_int h.n.2.2.1, fine_int h.n.2.2.2.1, fine_int h.n.2.2.2.2, (okS_fine h.k).1, (okS_fine h.m).1, fc]
  rfl
theorem EvG.ok {e : Ev} (h : EvG e) : EvOk e ∧ e.kind ≠ "any" := by
  refine ⟨h.s.ok, fun z => ?_⟩
  rcases h.k with k | k <;> (rw [k] at z; exact absurd z (by decide +kernel))
section
variable {P : Program} {w : World} {K : PySem.W.Frag} {mg : Str → Option Value} {base : Heap}
/-- new events: a tuple -/
def spEvents (K : PySem.W.Frag) : Sp := fun vs H Q _ => ∃ (m L p : Addr) (n : Int) (x0 x1 y z : Str) (c : Nat), vs = [.ref m, .ref p, .int (c : Nat)] ∧ c ≤ 30 ∧ n ≤ 800000 ∧ Sd K m L n H ∧ Fs m L p ∧ H p = some (.lst ([x0, x1, y, z].map V.str)) ∧ (∀ t ∈ [x0, x1, y, z], okS t = true) ∧
  ∀ (v : V) (es : List Ev) (H' : Hp), Kp m L H H' → Sd K m L (n + 400) H' → es.length ≤ 30 → (∀ e ∈ es, EvG e) → Dq (Fn m L H) H' (.tuple (es.map Ev.d)) v → Q v H'
theorem ints_dq {F : Addr → Prop} {H : Hp} : ∀ xs : List Int, DqL F H (xs.map PyData.int) (xs.map V.int)
  | [] => rfl
  | x :: xs => ⟨_, _, rfl, rfl, ints_dq xs⟩
theorem two_at {x y : Int} {r : Int} (r0 : 0 ≤ r) (r1 : r < 2) : ∃ z, (z = x ∨ z = y) ∧ atI [V.int x, V.int y] r = some (.int z) := by
  have : r = 0 ∨ r = 1 := by omega
  rcases this with rfl | rfl
  · exact ⟨x, .inl rfl, rfl⟩
  · exact ⟨y, .inr rfl, rfl⟩
theorem three_at {x y z : Int} {r : Int} (r0 : 0 ≤ r) (r1 : r < 3) : ∃ t, (t = x ∨ t = y ∨ t = z) ∧ atI [V.int x, V.int y, V.int z] r = some (.int t) := by
  have : r = 0 ∨ r = 1 ∨ r = 2 := by omega
  rcases this with rfl | rfl | rfl
  · exact ⟨x, .inl rfl, rfl⟩
  · exact ⟨y, .inr (.inl rfl), rfl⟩
  · exact ⟨z, .inr (.inr rfl), rfl⟩
theorem four_at {x y z u : Int} {r : Int} (r0 : 0 ≤ r) (r1 : r < 4) : ∃ t, (t = x ∨ t = y ∨ t = z ∨ t = u) ∧ atI [V.int x, V.int y, V.int z, V.int u] r = some (.int t) := by
  have : r = 0 ∨ r = 1 ∨ r = 2 ∨ r = 3 := by omega
  rcases this with rfl | rfl | rfl | rfl
  · exact ⟨x, .inl rfl, rfl⟩
  · exact ⟨y, .inr (.inl rfl), rfl⟩
  · exact ⟨z, .inr (.inr (.inl rfl)), rfl⟩
  · exact ⟨u, .inr (.inr (.inr rfl)), rfl⟩
theorem ok_events (T : TxL K mg) : FnOk P w K mg base CX0 2 T._law_events.f T._law_events.d ["m", "names", "many"] (spEvents K) := by
  have G_law_draw : FnOk P w K mg base CX0 1 T._law_draw.f T._law_draw.d ["m", "count"] (spDraw K) := ok_draw T
  refine T._law_events.F.ok sc__law_events (fun vs H Q E h => ?_) (fun cdv A outer s0 H vs Q E hr h => ?_)
  · obtain ⟨m, L, p, n, x0, x1, y, z, c, rfl, _⟩ := h
    rfl
  · obtain ⟨m, L, p, n, x0, x1, y, z, c, rfl, hc, hn, hS, fp, hp, hz, q⟩ := h
    have r_law_draw := hr
    refine ⟨_, (pss_cons (ps_par3 (i := 3) (j := 4) (l := 5) (by rfl) sc__law_events.nd rfl rfl rfl (by decide) (by decide) (by decide) rfl rfl rfl (pa_cons (KW.pe_lstS pa_nil) (pa_cons (pe_call G_law_draw r_law_draw (by rfl) T._law_draw.g T._law_draw.F.kp T._law_draw.b .nil pass0 (pa_cons (pv 0) (pa_cons pe_int pa_nil))) (pa_cons (pe_op op_add pe_int (pe_call G_law_draw r_law_draw (by rfl) T._law_draw.g T._law_draw.F.kp T._law_draw.b .nil pass0 (pa_cons (pv 0) (pa_cons pe_int pa_nil)))) pa_nil))) (by rfl))
      (pss_cons (ps_for PassesOwn.never rfl (pi_range1 (by rfl) T.n_range (pa_cons (pv 2) pa_nil)) (pg_name (i := 6) sc__law_events.nd rfl (.inl rfl)) (pss_cons (ps_par (i := 7) (j := 8) (by rfl) sc__law_events.nd rfl rfl (by decide) rfl rfl (pa_cons (pe_tupF (pa_cons (pe_call G_law_draw r_law_draw (by rfl) T._law_draw.g T._law_draw.F.kp T._law_draw.b .nil pass0 (pa_cons (pv 0) (pa_cons (pv 5) pa_nil))) (pa_cons (pe_call G_law_draw r_law_draw (by rfl) T._law_draw.g T._law_draw.F.kp T._law_draw.b .nil pass0 (pa_cons (pv 0) (pa_cons pe_int pa_nil))) pa_nil))) (pa_cons (pe_call G_law_draw r_law_draw (by rfl) T._law_draw.g T._law_draw.F.kp T._law_draw.b .nil pass0 (pa_cons (pv 0) (pa_cons pe_int pa_nil))) pa_nil)) (by rfl))
      (pss_cons (ps_par (i := 9) (j := 10) (by rfl) sc__law_events.nd rfl rfl (by decide) rfl rfl (pa_cons (pe_ix ix_list (pv 1) (pe_call G_law_draw r_law_draw (by rfl) T._law_draw.g T._law_draw.F.kp T._law_draw.b .nil pass0 (pa_cons (pv 0) (pa_cons pe_int pa_nil))) (fun _ _ => rfl)) (pa_cons (pe_call G_law_draw r_law_draw (by rfl) T._law_draw.g T._law_draw.F.kp T._law_draw.b .nil pass0 (pa_cons (pv 0) (pa_cons (pe_ix ix_list (KW.pe_lstS (pa_cons pe_int (pa_cons pe_int pa_nil))) (pe_call G_law_draw r_law_draw (by rfl) T._law_draw.g T._law_draw.F.kp T._law_draw.b .nil pass0 (pa_cons (pv 0) (pa_cons pe_int pa_nil))) (fun _ _ => rfl)) pa_nil))) pa_nil)) (by rfl))
      (Evl.pss_cut (ps_if (PW.pt (pw_and (pt_cmpR op_eq (pv 4) pe_int (nomark _)) (pw_and1 (pt_cmpR op_gt (pe_call G_law_draw r_law_draw (by rfl) T._law_draw.g T._law_draw.F.kp T._law_draw.b .nil pass0 (pa_cons (pv 0) (pa_cons pe_int pa_nil))) pe_int (nomark _))))) (pss_one (ps_set (i := 10) sc__law_events.nd rfl (.inl rfl) (pe_op op_add (pe_op op_mul pe_int (pe_ix ix_tup (pv 7) pe_int (fun _ _ => rfl))) (pe_ix ix_tup (pv 7) pe_int (fun _ _ => rfl))))) pss_nil)
      (Evl.pss_cut (ps_set (i := 11) sc__law_events.nd rfl (.inl rfl) (pe_ifExp (pt_cmpR op_eq (pe_call G_law_draw r_law_draw (by rfl) T._law_draw.g T._law_draw.F.kp T._law_draw.b .nil pass0 (pa_cons (pv 0) (pa_cons (pe_ix ix_list (KW.pe_lstS (pa_cons pe_int (pa_cons pe_int (pa_cons pe_int (pa_cons pe_int pa_nil))))) (pv 4) (fun _ _ => rfl)) pa_nil))) pe_int (nomark _)) pe_str pe_str))
      (Evl.pss_cut (ps_set (i := 12) sc__law_events.nd rfl (.inl rfl) (pe_ifExp (pt_cmpR op_eq (pv 9) (pe_ix ix_list (pv 1) pe_int (fun _ _ => rfl)) (nomark _)) (pe_tupF (pa_cons (pv 10) (pa_cons (pe_op op_mod (pv 10) pe_int) pa_nil))) (pe_tupF (pa_cons (pv 10) pa_nil))))
      (pss_one (ps_expr (pe_bm PySem.F.plainAttrs_list PySem.F.slot_list_append PySem.F.type_list_append mt_append (pv 3) (pa_cons (pe_tupF (pa_cons (pv 7) (pa_cons (pv 8) (pa_cons (pe_tupF (pa_cons (pe_op op_mod (pv 6) pe_int) pa_nil)) (pa_cons (pv 11) (pa_cons (pv 9) (pa_cons (pv 12) (pa_cons (pe_ix ix_list (KW.pe_lstS (pa_cons pe_int (pa_cons (pv 6) (pa_cons pe_int pa_nil)))) (pe_call G_law_draw r_law_draw (by rfl) T._law_draw.g T._law_draw.F.kp T._law_draw.b .nil pass0 (pa_cons (pv 0) (pa_cons pe_int pa_nil))) (fun _ _ => rfl)) pa_nil)))))))) pa_nil))))))))))
      (pss_one (ps_ret (pe_callTy call_tupleF (by rfl) T.n_tuple (by decide +kernel) (pa_cons (pv 3) pa_nil)))))), ?_⟩
    refine ⟨by show 0 ≤ 5000; omega, fun D H1 s1 nD hD => ?_⟩
    have fD : Fs m L D := hS.ns nD
    have D0 : H D = none := nD
    have m1 := hS.same s1
    refine ⟨_, rfl, m, L, 4, n, rfl, by decide, by decide, by omega, m1, fun way H2 w0 w1 k2 m2 => ?_⟩
    refine ⟨_, rfl, m, L, 3, n + 1, rfl, by decide, by decide, by omega, m2, fun gr H3 g0 g1 k3 m3 => ?_⟩
    refine ⟨_, _, rfl, rfl, _, _, _, rfl, ?_⟩
    have kk3 : Kp m L H H3 := ((Kp.of_same s1).trans k2).trans k3
    have hD3 : H3 D = some (.lst []) := k3 _ _ fD.1 fD.2 (k2 _ _ fD.1 fD.2 hD)
    refine ⟨_, rfl, _, rfl, by omega, by omega, ?_⟩
    have hcn : ((c : Nat) : Int).toNat = c := by omega
    rw [hcn]
    refine for_range (n := c) (fun i σ H' => ∃ x6 x7 x8 x9 x10 x11 x12 us es, σ = [some (.ref m), some (.ref p), some (.int (c : Nat)), some (.ref D), some (.int way), some (.int (1 + gr)), x6, x7, x8, x9, x10, x11, x12] ∧ Kp m L H H' ∧ Sd K m L (n + 2 + 10 * (i : Nat)) H' ∧
        H' D = some (.lst us) ∧ es.length = i ∧ (∀ e ∈ es, EvG e) ∧ DqL (fun a => Fn m L H a ∧ a ≠ D) H' (es.map Ev.d) us)
      ⟨none, none, none, none, none, none, none, [], [], rfl, kk3, m3.le (by omega), hD3, rfl, (fun e he => nomatch he), (show DqL _ H3 [] [] from rfl)⟩ (fun i σ H' hi h => ?_) (fun σ H' h => ?_)
    · obtain ⟨x6, x7, x8, x9, x10, x11, x12, us, es, rfl, kk, mm, hDi, hel, hes, dE⟩ := h
      have hi30 : i < 30 := by omega
      obtain ⟨N, hN⟩ : ∃ N : Int, N = n + 2 + 10 * (i : Nat) := ⟨_, rfl⟩
      rw [← hN] at mm
      have hNb : N ≤ 810000 := by omega
      have hat : ∀ {Hx : Hp} {r : Int}, Kp m L H Hx → 0 ≤ r → r < 4 → ∃ t, okS t = true ∧ SqL K Hx p ([x0, x1, y, z].map V.str) ∧ atI ([x0, x1, y, z].map V.str) r = some (.str t) := fun k r0 r1 => by
        obtain ⟨j, rfl⟩ := Int.eq_ofNat_of_zero_le r0
        have hj : j < [x0, x1, y, z].length := by show j < 4; omega
        exact ⟨[x0, x1, y, z][j], hz _ (List.getElem_mem hj), .inl (.inl (k _ _ fp.1 fp.2 hp)), atI_nat (by rw [List.getElem?_map, List.getElem?_eq_getElem hj]; rfl)⟩
      -- who, interval
      refine ⟨_, rfl, _, rfl, m, L, 1 + gr, N, rfl, by omega, by omega, by omega, mm, fun g H4 g0' g1' k4 m4 => ?_⟩
      refine ⟨_, rfl, m, L, 3, N + 1, rfl, by decide, by decide, by omega, m4, fun l H5 l0 l1 k5 m5 => ⟨by show 2 ≤ 5000; omega, fun wA H6 s6 nw tw => ?_⟩⟩
      have fw := m5.ns nw
      have c5 : Kp m L H' H5 := k4.trans k5
      have hD5 := c5 _ _ fD.1 fD.2 hDi
      have fnw : Fn m L H wA ∧ wA ≠ D := ⟨Fn.of (kk.trans c5) m5 nw, (ne_of_none hD5 nw).symm⟩
      have m6 := m5.same s6
      refine ⟨_, rfl, m, L, 3, N + 1 + 1, rfl, by decide, by decide, by omega, m6, fun it H7 t0 t1 k7 m7 => ⟨_, _, rfl, ?_⟩⟩
      have c7 : Kp m L H' H7 := (c5.trans (.of_same s6)).trans k7
      have tw7 := tw.kp fw k7
      -- name, spot
      refine ⟨_, rfl, _, rfl, m, L, 4, N + 1 + 1 + 1, rfl, by decide, by decide, by omega, m7, fun j H8 j0 j1 k8 m8 => ?_⟩
      have c8 : Kp m L H' H8 := c7.trans k8
      obtain ⟨nm, hnm, sq8, at8⟩ := hat (kk.trans c8) j0 j1
      refine ⟨p, _, _, _, rfl, rfl, sq8, at8, _, rfl, by show 2 ≤ 5000; omega, fun q9 H9 s9 nq9 hq9 => ?_⟩
      have m9 := m8.same s9
      have fq9 := m8.ns nq9
      refine ⟨_, rfl, m, L, 2, N + 1 + 1 + 1 + 1, rfl, by decide, by decide, by omega, m9, fun r2 Ha r20 r21 ka ma => ?_⟩
      obtain ⟨lim, hlim, atl⟩ := two_at (x := 2) (y := 9) r20 r21
      have hlim1 : 1 ≤ lim ∧ lim ≤ 9 := by rcases hlim with e | e <;> omega
      refine ⟨q9, _, _, _, rfl, rfl, .inl (.inl (ka _ _ fq9.1 fq9.2 hq9)), atl, m, L, lim, N + 1 + 1 + 1 + 1 + 1, rfl, by omega, by omega, by omega, ma, fun sp Hb sp0 sp1 kb mb => ⟨_, _, rfl, ?_⟩⟩
      have cb : Kp m L H' Hb := ((c8.trans (.of_same s9)).trans ka).trans kb
      have k7b : Kp m L H7 Hb := ((k8.trans (.of_same s9)).trans ka).trans kb
      have twb := tw7.kp fw k7b
      -- the spot, otherwise
      refine ⟨fun σ' Hc => ∃ sp : Int, 0 ≤ sp ∧ sp ≤ 20 ∧ σ' = [some (.ref m), some (.ref p), some (.int (c : Nat)), some (.ref D), some (.int way), some (.int (1 + gr)), some (.int (0 + (i : Nat))), some (.ref wA), some (.int it), some (.str nm), some (.int sp), x11, x12] ∧ Kp m L Hb Hc ∧ Sd K m L (N + 7) Hc, ?_, ?_⟩
      · refine ⟨_, rfl, rfl, _, rfl, ite2 (fun hw => ?_) (fun hw => ⟨sp, sp0, by omega, rfl, Kp.refl _, mb.le (by omega)⟩)⟩
        refine ⟨_, rfl, m, L, 9, N + 1 + 1 + 1 + 1 + 1 + 1, rfl, by decide, by decide, by omega, mb, fun r9 Hc r90 r91 kc mc => ⟨_, _, rfl, rfl, _, rfl, ite2 (fun hr9 => ?_) (fun hr9 => ⟨sp, sp0, by omega, rfl, kc, mc.le (by omega)⟩)⟩⟩
        have twc := twb.kp fw kc
        exact ⟨_, rfl, wA, _, _, _, rfl, rfl, twc.sq, rfl, _, _, rfl, rfl, .inl ⟨by decide, by decide⟩, _, rfl, wA, _, _, _, rfl, rfl, twc.sq, rfl, _, _, rfl, rfl, 3 * g + l, by omega, by omega, rfl, kc, mc.le (by omega)⟩
      · rintro σ' Hc ⟨sp, sp0, sp1, rfl, kc, mc⟩
        have cc : Kp m L H' Hc := cb.trans kc
        have twc := twb.kp fw kc
        -- the kind
        refine ⟨fun σ' Hd => ∃ kd : Str, (kd = "store" ∨ kd = "load") ∧ σ' = [some (.ref m), some (.ref p), some (.int (c : Nat)), some (.ref D), some (.int way), some (.int (1 + gr)), some (.int (0 + (i : Nat))), some (.ref wA), some (.int it), some (.str nm), some (.int sp), some (.str kd), x12] ∧ Kp m L Hc Hd ∧ Sd K m L (N + 8) Hd, ?_, ?_⟩
        · refine ⟨_, rfl, by show 4 ≤ 5000; omega, fun q4 Hd sd nq4 hq4 => ⟨_, rfl, ?_⟩⟩
          obtain ⟨lm, hlm, atm⟩ := four_at (x := 9) (y := 2) (z := 3) (u := 1) w0 w1
          have hlm1 : 1 ≤ lm ∧ lm ≤ 9 := by rcases hlm with e | e | e | e <;> omega
          refine ⟨q4, _, _, _, rfl, rfl, .inl (.inl hq4), atm, m, L, lm, N + 7, rfl, by omega, by omega, by omega, mc.same sd, fun rk He rk0 rk1 ke me => ?_⟩
          have kce : Kp m L Hc He := (Kp.of_same sd).trans ke
          exact ⟨rfl, _, rfl, ite2 (fun hx => ⟨"store", .inl rfl, rfl, kce, me.le (by omega)⟩) (fun hx => ⟨"load", .inr rfl, rfl, kce, me.le (by omega)⟩)⟩
        · rintro σ' Hd ⟨kd, hkd, rfl, kd1, md⟩
          have cd : Kp m L H' Hd := cc.trans kd1
          have twd := twc.kp fw kd1
          -- the cell
          refine ⟨fun σ' He => ∃ (cA : Addr) (xs : List Int), σ' = [some (.ref m), some (.ref p), some (.int (c : Nat)), some (.ref D), some (.int way), some (.int (1 + gr)), some (.int (0 + (i : Nat))), some (.ref wA), some (.int it), some (.str nm), some (.int sp), some (.str kd), some (.ref cA)] ∧ Same Hd He ∧ Hd cA = none ∧ Tu He cA (xs.map V.int) ∧ xs.length ≤ 2 ∧ (∀ x ∈ xs, x.natAbs ≤ 100000), ?_, ?_⟩
          · obtain ⟨j3, e3⟩ : ∃ j3 : Int, j3 = 3 := ⟨3, rfl⟩
            obtain ⟨t3, ht3, sq3, at3⟩ := hat (r := 3) (kk.trans cd) (by decide) (by decide)
            refine ⟨_, rfl, _, rfl, p, _, _, _, rfl, rfl, sq3, at3, rfl, _, rfl, ite2 (fun hx => ?_) (fun hx => ?_)⟩
            · refine ⟨_, rfl, _, rfl, _, _, rfl, rfl, (by show (0 : Int) < 2; decide), by show 2 ≤ 5000; omega, fun cA He se nc tc => ⟨cA, [sp, sp % 2], rfl, se, nc, tc, by show 2 ≤ 2; omega, fun x hx => ?_⟩⟩
              rcases List.mem_cons.mp hx with e | hx
              · omega
              · rw [List.mem_singleton] at hx; omega
            · refine ⟨_, rfl, by show 1 ≤ 5000; omega, fun cA He se nc tc => ⟨cA, [sp], rfl, se, nc, tc, by show 1 ≤ 2; omega, fun x hx => ?_⟩⟩
              rw [List.mem_singleton] at hx
              omega
          · rintro σ' He ⟨cA, xs, rfl, se, nc, tc, hx2, hxb⟩
            have hDd := cd _ _ fD.1 fD.2 hDi
            have fnc : Fn m L H cA ∧ cA ≠ D := ⟨Fn.of (kk.trans cd) md nc, (ne_of_none hDd nc).symm⟩
            have me := md.same se
            have ce : Kp m L H' He := cd.trans (.of_same se)
            have hDe := ce _ _ fD.1 fD.2 hDi
            refine ⟨_, rfl, .inl ⟨rfl, _, .inl (.inl hDe)⟩, _, rfl, _, rfl, _, rfl, _, _, rfl, rfl, (by show (0 : Int) < 5; decide), by show 1 ≤ 5000; omega, fun pA Hf sf npA tpA => ⟨_, rfl, _, rfl, _, rfl, _, rfl, by show 3 ≤ 5000; omega, fun q3 Hg sg nq3 hq3 => ?_⟩⟩
            have mg' := me.same (sf.trans sg)
            have fq3 := (me.same sf).ns nq3
            refine ⟨_, rfl, m, L, 3, N + 8, rfl, by decide, by decide, by omega, mg', fun r3 Hh r30 r31 kh mh => ?_⟩
            obtain ⟨wd, hwd, at3⟩ := three_at (x := 7) (y := (0 : Int) + (i : Nat)) (z := 65535) r30 r31
            refine ⟨q3, _, _, _, rfl, rfl, .inl (.inl (kh _ _ fq3.1 fq3.2 hq3)), at3, by show 7 ≤ 5000; omega, fun ev Hi si nev tev => ?_⟩
            have ch : Kp m L H' Hh := (ce.trans (.of_same (sf.trans sg))).trans kh
            have ci : Kp m L H' Hi := ch.trans (.of_same si)
            have hDh := ch _ _ fD.1 fD.2 hDi
            have hDii := ci _ _ fD.1 fD.2 hDi
            have fpA : Fn m L H pA ∧ pA ≠ D := ⟨Fn.of (kk.trans ce) me npA, (ne_of_none hDe npA).symm⟩
            have fev : Fn m L H ev ∧ ev ≠ D := ⟨Fn.of (kk.trans ch) mh nev, (ne_of_none hDh nev).symm⟩
            have kei : Kp m L He Hi := ((Kp.of_same (sf.trans sg)).trans kh).trans (.of_same si)
            have kfi : Kp m L Hf Hi := ((Kp.of_same sg).trans kh).trans (.of_same si)
            have kdi : Kp m L Hd Hi := (Kp.of_same se).trans kei
            have dEv : Dq (fun a => Fn m L H a ∧ a ≠ D) Hi (Ev.d ⟨g, l, it, ((0 : Int) + (i : Nat)) % 5, kd, nm, xs, wd⟩) (.ref ev) := by
              refine .mk fev tev ⟨_, _, rfl, .mk fnw (twd.kp fw kdi) (.two rfl rfl), _, _, rfl, rfl, _, _, rfl, .mk fpA (tpA.kp fpA.1.1 kfi) (.one rfl), _, _, rfl, rfl, _, _, rfl, rfl, _, _, rfl, .mk fnc (tc.kp fnc.1.1 kei) (ints_dq xs), _, _, rfl, rfl, rfl⟩
            have hul := dE.len
            rw [List.length_map] at hul
            have gEv : EvG ⟨g, l, it, ((0 : Int) + (i : Nat)) % 5, kd, nm, xs, wd⟩ := by
              have hw7 : wd.natAbs ≤ 70000 := by rcases hwd with e | e | e <;> omega
              refine ⟨⟨⟨by show g.natAbs ≤ 100000; omega, by show l.natAbs ≤ 100000; omega, by show it.natAbs ≤ 100000; omega, by show (((0 : Int) + (i : Nat)) % 5).natAbs ≤ 100000; omega, by show wd.natAbs ≤ 100000; omega⟩, ?_, hnm, ⟨hx2, hxb⟩, ⟨g0', l0⟩⟩, hkd, by show it.natAbs ≤ 10; omega, hw7⟩
              show okS kd = true
              rcases hkd with e | e <;> (rw [e]; decide +kernel)
            refine ⟨D, us, _, rfl, rfl, hDii, lt_size (by omega), ?_⟩
            refine ⟨_, _, _, _, _, _, _, us ++ [.ref ev], es ++ [⟨g, l, it, ((0 : Int) + (i : Nat)) % 5, kd, nm, xs, wd⟩], rfl, fun b o h1 h2 h => ?_, ?_, upd_same, by rw [List.length_append, hel]; rfl, fun e he => ?_, ?_⟩
            · rw [upd_ne (ne_of_none h D0)]
              exact (kk.trans ci) b o h1 h2 h
            · refine Sd.le ?_ (show N + 8 + 1 ≤ n + 2 + 10 * ((i + 1 : Nat) : Int) by omega)
              exact (mh.same si).off hDii (fun o v z => by cases z) fD.1 fD.2 fun b o hb e => by rw [upd_ne hb]; exact e
            · rcases List.mem_append.mp he with he | he
              · exact hes e he
              · rw [List.mem_singleton] at he
                rw [he]
                exact gEv
            · rw [List.map_append]
              have off : ∀ b o, (Fn m L H b ∧ b ≠ D) → Hi b = some o → (Fn m L H b ∧ b ≠ D) ∧ (upd Hi D (.lst (us ++ [.ref ev]))) b = some o := fun b o f e => ⟨f, by rw [upd_ne f.2]; exact e⟩
              exact ((dE.kp fun b o f e => ⟨f, ci b o f.1.1.1 f.1.1.2 e⟩).kp off).app (.one (dEv.kp off))
    · obtain ⟨x6, x7, x8, x9, x10, x11, x12, us, es, rfl, kk, mm, hDi, hel, hes, dE⟩ := h
      refine ⟨_, rfl, D, us, rfl, .inl (.inl hDi), fun pt H5 s5 npt tpt => ?_⟩
      refine q _ es H5 (kk.trans (.of_same s5)) ((mm.same s5).le (by omega)) (by omega) hes ?_
      exact .mk (Fn.of kk mm npt) tpt ((dE.kp fun b o f e => ⟨f.1, e⟩).same s5)
end
end LW

set_option Elab.async false
set_option linter.all false
set_option maxRecDepth 100000
set_option maxHeartbeats 4000000
/-! the law's own look: the first two that clash -/
namespace LW
open PySem PySem.Spec PyProof.Rows L2
def ncD (e : Ev) : PyData := .tuple [.str e.name, intsD e.cell]
theorem ncD_eq (a b : Ev) : ncD a = ncD b ↔ a.name = b.name ∧ a.cell = b.cell := by
  unfold ncD intsD
  constructor
  · intro h
    injection h with h
    injection h with h1 h
    injection h with h2 _
    injection h1 with h1
    injection h2 with h2
    refine ⟨h1, ?_⟩
    have inj : ∀ {x y : List Int}, x.map PyData.int = y.map PyData.int → x = y := by
      intro x
      induction x with
      | nil => intro y e; cases y with
        | nil => rfl
        | cons _ _ => cases e
      | cons a x ih => intro y e; cases y with
        | nil => cases e
        | cons b y =>
          injection e with e1 e2
          injection e1 with e1
          rw [e1, ih e2]
    exact inj h2
  · rintro ⟨h1, h2⟩
    rw [h1, h2]
theorem nc_fine {e : Ev} (h : EvOk e) : fine (ncD e) = true := by
  obtain ⟨h1, h2, h3, h4, _⟩ := h.parts
  show (fine (.str e.name) && (fine (intsD e.cell) && true)) = true
  rw [h3, h4]
  rfl
theorem nc_sh {e : Ev} (h : EvOk e) : SeqAt.shaped (ncD e) = true := fine_shaped (nc_fine h) (by
  unfold ncD
  simp only [PyData.depth, PyData.depthAll, depth_intsD]
  omega)
section
variable {P : Program} {w : World} {K : PySem.W.Frag} {mg : Str → Option Value} {base : Heap}
def spIsNear : Sp := fun vs H Q _ => ∃ (v : V) (x y z : PyData) (ns : List (Str × List PyData)) (t : Str), vs = [v, .str t] ∧ Dt H (kernD x y ns z) v ∧ ns.length ≤ 100 ∧ ∀ H', Same H H' → Q (.bl (decide (t ∈ nmsN ns))) H'
theorem ok_is_near (T : TxL K mg) : FnOk P w K mg base CX0 1 T._law_is_near.f T._law_is_near.d ["kern", "name"] spIsNear := by
  refine T._law_is_near.F.ok sc__law_is_near (fun vs H Q E h => ?_) (fun cdv A outer s0 H vs Q E hr h => ?_)
  · obtain ⟨v, x, y, z, ns, t, rfl, _⟩ := h
    rfl
  · obtain ⟨v, x, y, z, ns, t, rfl, hd, hl, q⟩ := h
    refine ⟨_, (pss_one (ps_ret (pe_cmpR op_in_seq (pv 1) (pe_lc (own := [("pair", 2)]) (g := gName 2) (tt := tYes) rfl sc__law_is_near.nd (pi_tup (pe_ix ix_tup (pv 0) pe_int (fun _ _ => rfl))) (blkOk_by (N := ["kern", "name", "pair"]) (sc := (defScope s__law_is_near)) (by decide +kernel)) (fun _ _ _ _ _ => (pg_name (i := 2) sc__law_is_near.nd rfl (.inl rfl))) (fun _ _ _ _ _ => pts_nil) (fun _ _ _ _ _ => (pe_ix (r := rIxT K) ix_tup (pv 2) pe_int (fun _ _ => rfl)))) (by rfl)))), ?_⟩
    obtain ⟨a, vx, vy, vn, vz, rfl, _, ha, _, _, ⟨n, us, rfl, _, hn, hus⟩, _⟩ := Dq.t4 hd
    have hlen := hus.len
    rw [List.length_map] at hlen
    refine ⟨_, rfl, _, rfl, a, _, _, _, rfl, rfl, ha.sq, rfl, n, rfl, ⟨_, hn.sq⟩, fun D nD => ?_⟩
    refine lc_tup (K := K) (a := n) (xs := us) (fun i H' => Same H H' ∧ H' D = some (.lst (((nmsN ns).take i).map V.str))) ⟨same_upd nD, upd_same⟩ (fun i H' hi h => (hn.same h.1).sq) (fun i x H' hx h => ?_) (fun H' h => ?_)
    · obtain ⟨sm, hD⟩ := h
      obtain ⟨p, b, xs, hp, rfl, hb, _⟩ := near_at hus hx
      have hi : i < ns.length := (List.getElem?_eq_some_iff.mp hp).1
      have hp' : (nmsN ns)[i]? = some p.1 := by show (ns.map (·.1))[i]? = _; rw [List.getElem?_map, hp]; rfl
      refine ⟨rfl, _, rfl, b, _, _, _, rfl, rfl, (hb.same sm).sq, atI_nat (j := 0) rfl, _, hD, ?_, fun c o e => ?_, ?_⟩
      · rw [List.length_map, List.length_take]
        exact lt_size (by omega)
      · rw [upd_ne (ne_of_none e nD)]; exact sm _ _ e
      · rw [upd_same, take_snoc hp', List.map_append]; rfl
    · obtain ⟨sm, hD⟩ := h
      rw [show (nmsN ns).take us.length = nmsN ns from List.take_of_length_le (by show (ns.map (·.1)).length ≤ _; rw [List.length_map]; omega)] at hD
      refine ⟨D, _, rfl, .inl (.inl (.inl hD)), rfl, flat_strs _, ?_⟩
      show Q (.bl (inV (.str t) ((nmsN ns).map V.str))) H'
      rw [inV_strs]
      exact q H' sm
def spLClash : Sp := fun vs H Q _ => ∃ (v u1 u2 : V) (x y z : PyData) (ns : List (Str × List PyData)) (a b : Ev), vs = [v, u1, u2] ∧ Dt H (kernD x y ns z) v ∧ ns.length ≤ 100 ∧ EvOk a ∧ EvOk b ∧ Dt H a.d u1 ∧ Dt H b.d u2 ∧ ∀ H', Same H H' → Q (.bl (clashB (nmsN ns) a b)) H'
theorem ok_lclash (T : TxL K mg) : FnOk P w K mg base CX0 2 T._law_clashing.f T._law_clashing.d ["kern", "one", "two"] spLClash := by
  have G_law_is_near : FnOk P w K mg base CX0 1 T._law_is_near.f T._law_is_near.d ["kern", "name"] spIsNear := ok_is_near T
  refine T._law_clashing.F.ok sc__law_clashing (fun vs H Q E h => ?_) (fun cdv A outer s0 H vs Q E hr h => ?_)
  · obtain ⟨v, u1, u2, x, y, z, ns, a, b, rfl, _⟩ := h
    rfl
  · obtain ⟨v, u1, u2, kx, ky, kz, ns, a, b, rfl, hv, hl, oa, ob, ha, hb, q⟩ := h
    have r_law_is_near := hr
    refine ⟨_, (pss_cons (ps_if (PW.pt (pw_or (pt_cmpR (op_eqD hr.units) (pe_ix ix_tup (pv 1) pe_int (fun _ _ => rfl)) (pe_ix ix_tup (pv 2) pe_int (fun _ _ => rfl)) (nomark _)) (pw_or (pt_cmpR (op_neD hr.units) (pe_slice sl_tupF (pv 1) (po_some pe_int) (po_some pe_int)) (pe_slice sl_tupF (pv 2) (po_some pe_int) (po_some pe_int)) (nomark _)) (pw_or1 (pt_cmpR op_notIn_seq pe_str (pe_tupF (pa_cons (pe_ix ix_tup (pv 1) pe_int (fun _ _ => rfl)) (pa_cons (pe_ix ix_tup (pv 2) pe_int (fun _ _ => rfl)) pa_nil))) (by rfl)))))) (pss_one (ps_ret pe_bl)) pss_nil)
      (pss_cons (ps_if (pt_cmpR op_eq (pe_ix ix_tup (pe_ix ix_tup (pv 1) pe_int (fun _ _ => rfl)) pe_int (fun _ _ => rfl)) (pe_ix ix_tup (pe_ix ix_tup (pv 2) pe_int (fun _ _ => rfl)) pe_int (fun _ _ => rfl)) (nomark _)) (pss_one (ps_ret (pe_cmpR op_eq (pe_ix ix_tup (pv 1) pe_int (fun _ _ => rfl)) (pe_ix ix_tup (pv 2) pe_int (fun _ _ => rfl)) (nomark _)))) pss_nil)
      (pss_one (ps_ret (pe_not (pe_call G_law_is_near r_law_is_near (by rfl) T._law_is_near.g T._law_is_near.F.kp T._law_is_near.b .nil pass0 (pa_cons (pv 0) (pa_cons (pe_ix ix_tup (pv 1) pe_int (fun _ _ => rfl)) pa_nil)))))))), ?_⟩
    obtain ⟨x, xw, xp, xc, xcs, rfl, _, tx, _, txw, _, txp, _, txc, hxc⟩ := ev_parts ha
    obtain ⟨y, yw, yp, yc, ycs, rfl, _, ty, _, tyw, _, typ, _, tyc, hyc⟩ := ev_parts hb
    refine ⟨_, rfl, x, _, _, _, rfl, rfl, tx.sq, rfl, _, rfl, y, _, _, _, rfl, rfl, ty.sq, rfl, whoD a, whoD b, who_dp oa txw, who_dp ob tyw, who_sh oa, who_sh ob, _, rfl, ?_⟩
    rw [eqv_who]
    by_cases c1 : a.g = b.g ∧ a.l = b.l
    · rw [decide_eq_true c1]
      have e : clashB (nmsN ns) a b = false := by
        unfold clashB
        rw [decide_eq_true c1]
        rfl
      rw [e] at q
      exact iteT (iteT (q H (Same.refl _)))
    · rw [decide_eq_false c1]
      refine iteF ?_
      refine ⟨_, rfl, _, rfl, _, rfl, x, _, rfl, tx, fun p1 H1 s1 n1 t1 => ?_⟩
      refine ⟨_, rfl, _, rfl, _, rfl, y, _, rfl, ty.same s1, fun p2 H2 s2 n2 t2 => ?_⟩
      have s12 := s1.trans s2
      have d1 : Dt H2 (ncD a) (.ref p1) := .mk trivial (t1.same s2) (.two rfl (cell_dt trivial (txc.same s12) (DqL.same hxc s12)))
      have d2 : Dt H2 (ncD b) (.ref p2) := .mk trivial t2 (.two rfl (cell_dt trivial (tyc.same s12) (DqL.same hyc s12)))
      refine ⟨_, _, fine_dp (nc_fine oa) d1, fine_dp (nc_fine ob) d2, nc_sh oa, nc_sh ob, _, rfl, ?_⟩
      by_cases c2 : ncD a = ncD b
      · rw [(eqv_dec (nc_fine oa) (nc_fine ob)).mpr c2]
        refine iteF ?_
        refine ⟨_, rfl, x, _, _, _, rfl, rfl, (tx.same s12).sq, rfl, _, rfl, y, _, _, _, rfl, rfl, (ty.same s12).sq, rfl, (by show 2 ≤ 5000; omega), fun p3 H3 s3 np3 hp3 => ?_⟩
        refine ⟨p3, _, rfl, .inr hp3.sq, rfl, rfl, _, rfl, ?_⟩
        have s13 := s12.trans s3
        obtain ⟨c2n, c2c⟩ := (ncD_eq a b).mp c2
        rw [inV_st]
        cases c3 : isSt a || isSt b with
        | false =>
          have e : clashB (nmsN ns) a b = false := by
            unfold clashB
            rw [c3, Bool.and_false, Bool.false_and]
          rw [e] at q
          exact iteT (q H3 s13)
        | true =>
          refine iteF ?_
          refine ⟨_, rfl, x, _, _, _, rfl, rfl, (tx.same s13).sq, rfl, xw, _, _, _, rfl, rfl, (txw.same s13).sq, rfl, _, rfl, y, _, _, _, rfl, rfl, (ty.same s13).sq, rfl, yw, _, _, _, rfl, rfl, (tyw.same s13).sq, rfl, rfl, _, rfl, ?_⟩
          rw [dec_int]
          by_cases c4 : a.g = b.g
          · rw [decide_eq_true c4]
            refine iteT ⟨_, rfl, x, _, _, _, rfl, rfl, (tx.same s13).sq, rfl, _, rfl, y, _, _, _, rfl, rfl, (ty.same s13).sq, rfl, rfl, ?_⟩
            rw [dec_int]
            have e : clashB (nmsN ns) a b = decide (a.i = b.i) := by
              unfold clashB
              rw [c3, decide_eq_false c1, decide_eq_true c4, decide_eq_true ((plK_eq _ a b).mpr ⟨c2n, c2c, fun _ => c4⟩)]
              rfl
            rw [e] at q
            exact q H3 s13
          · rw [decide_eq_false c4]
            refine iteF ⟨_, rfl, _, rfl, x, _, _, _, rfl, rfl, (tx.same s13).sq, rfl, _, kx, ky, kz, ns, a.name, rfl, hv.same s13, hl, fun H4 s4 => ⟨_, rfl, ?_⟩⟩
            have e : clashB (nmsN ns) a b = !decide (a.name ∈ nmsN ns) := by
              unfold clashB
              rw [c3, decide_eq_false c1, decide_eq_false c4]
              have : decide (plK (nmsN ns) a = plK (nmsN ns) b) = !decide (a.name ∈ nmsN ns) := by
                by_cases m : a.name ∈ nmsN ns
                · rw [decide_eq_true m, decide_eq_false (fun z => c4 (((plK_eq _ a b).mp z).2.2 m))]; rfl
                · rw [decide_eq_false m, decide_eq_true ((plK_eq _ a b).mpr ⟨c2n, c2c, fun z => absurd z m⟩)]; rfl
              rw [this]
              simp
            rw [e] at q
            exact q H4 (s13.trans s4)
      · rw [show PyData.eqv (ncD a) (ncD b) = false from Bool.eq_false_iff.mpr fun z => c2 ((eqv_dec (nc_fine oa) (nc_fine ob)).mp z)]
        have e : clashB (nmsN ns) a b = false := by
          unfold clashB
          rw [decide_eq_false (fun z => c2 ((ncD_eq a b).mpr ⟨((plK_eq _ a b).mp z).1, ((plK_eq _ a b).mp z).2.1⟩)), Bool.and_false, Bool.false_and, Bool.false_and]
        rw [e] at q
        exact iteT (iteT (q H2 s12))
end
end LW

set_option Elab.async false
set_option linter.all false
set_option maxRecDepth 100000
set_option maxHeartbeats 4000000
/-! the law's own look: the first two that clash -/
namespace LW
open PySem PySem.Spec PyProof.Rows L2
theorem cut_take {us : List V} {i : Nat} (h : i ≤ us.length) : cutV us none (some ((i : Nat) : Int)) = us.take i := by
  unfold cutV
  have e1 : HT.sIx us.length 0 none = 0 := rfl
  have e2 : HT.sIx us.length us.length (some ((i : Nat) : Int)) = i := by
    unfold HT.sIx
    simp
    rw [if_neg (by omega)]
    omega
  rw [e1, e2, List.drop_zero, Nat.sub_zero]
section
variable {P : Program} {w : World} {K : PySem.W.Frag} {mg : Str → Option Value} {base : Heap}
def spLFirst : Sp := fun vs H Q _ => ∃ (v : V) (p : Addr) (x y z : PyData) (ns : List (Str × List PyData)) (es : List Ev), vs = [v, .ref p] ∧ Dt H (kernD x y ns z) v ∧ ns.length ≤ 100 ∧ EvsAt H p es ∧ (∀ e ∈ es, EvOk e) ∧
  ∀ v' H', Same H H' → Dt H' (resD (firstC (nmsN ns) [] es)) v' → Q v' H'
theorem ok_lfirst (T : TxL K mg) : FnOk P w K mg base CX0 3 T._law_first_clash.f T._law_first_clash.d ["kern", "some"] spLFirst := by
  have G_law_clashing : FnOk P w K mg base CX0 2 T._law_clashing.f T._law_clashing.d ["kern", "one", "two"] spLClash := ok_lclash T
  refine T._law_first_clash.F.ok sc__law_first_clash (fun vs H Q E h => ?_) (fun cdv A outer s0 H vs Q E hr h => ?_)
  · obtain ⟨v, p, x, y, z, ns, es, rfl, _⟩ := h
    rfl
  · obtain ⟨v, p, x, y, z, ns, es, rfl, hd, hl, ⟨us, hp, hus⟩, hok, q⟩ := h
    have r_law_clashing := hr
    refine ⟨_, (pss_cons (ps_for PassesOwn.never rfl (KEn.pi_num (by rfl) T.n_enumerate (pa_cons (pv 1) pa_nil)) (pg_tup rfl (pgs_cons (pg_name (i := 2) sc__law_first_clash.nd rfl (.inl rfl)) (pgs_cons (pg_name (i := 3) sc__law_first_clash.nd rfl (.inl rfl)) pgs_nil))) (pss_one (ps_for PassesOwn.never rfl (pi_tup (pe_slice sl_tupF (pv 1) po_none (po_some (pv 2)))) (pg_name (i := 4) sc__law_first_clash.nd rfl (.inl rfl)) (pss_one (ps_if (pt_val (pe_call G_law_clashing r_law_clashing (by rfl) T._law_clashing.g T._law_clashing.F.kp T._law_clashing.b .nil pass0 (pa_cons (pv 0) (pa_cons (pv 4) (pa_cons (pv 3) pa_nil))))) (pss_one (ps_ret (pe_tupF (pa_cons (pv 4) (pa_cons (pv 3) pa_nil))))) pss_nil)))))
      (pss_one (ps_ret pe_non))), ?_⟩
    have hlen := hus.len
    rw [List.length_map] at hlen
    refine ⟨_, rfl, p, us, rfl, hp.sq, ?_⟩
    refine KEn.for_num (K := K) (a := p) (xs := us) (fun i σ H' => ∃ x2 x3 x4, σ = [some v, some (.ref p), x2, x3, x4] ∧ Same H H' ∧ firstC (nmsN ns) [] es = firstC (nmsN ns) (es.take i) (es.drop i)) ⟨none, none, none, rfl, Same.refl _, rfl⟩
      (fun i σ H' hi h => by obtain ⟨_, _, _, _, sm, _⟩ := h; exact (hp.same sm).sq) (fun i vx T1 σ H' hx nT h => ?_) (fun σ H' h => ?_)
    · obtain ⟨x2, x3, x4, rfl, sm', hC⟩ := h
      obtain ⟨e, he, hde⟩ := ev_at hus hx
      have hie : i < us.length := (List.getElem?_eq_some_iff.mp hx).1
      have sT : Same H' (upd H' T1 (.tup [.int (i : Nat), vx])) := same_upd nT
      refine ⟨T1, _, rfl, .inl (.inl upd_same), rfl, _, _, rfl, _, _, rfl, rfl, ?_⟩
      have sm := sm'.trans sT
      revert sT sm
      generalize upd H' T1 (.tup [.int (i : Nat), vx]) = H4
      intro sT sm
      refine ⟨_, rfl, _, rfl, _, rfl, p, us, rfl, hp.same sm, fun pt H5 s5 npt tpt => ⟨pt, rfl, ⟨_, tpt.sq⟩, ?_⟩⟩
      rw [cut_take (Nat.le_of_lt hie)] at tpt
      have sm5 := sm.trans s5
      refine for_tup (K := K) (a := pt) (xs := us.take i) (fun j σ H' => ∃ x4, σ = [some v, some (.ref p), some (.int (i : Nat)), some vx, x4] ∧ Same H5 H' ∧ ∀ f ∈ (es.take i).take j, clashB (nmsN ns) f e = false) ⟨_, rfl, Same.refl _, fun f hf => by cases hf⟩
        (fun j σ H' hj h => by obtain ⟨_, _, s, _⟩ := h; exact (tpt.same s).sq) (fun j vy σ H' hy h => ?_) (fun σ H' h => ?_)
      · obtain ⟨x4, rfl, s6, hno⟩ := h
        have hus' : DtL H ((es.take i).map Ev.d) (us.take i) := by rw [List.map_take]; exact DqL.take hus
        obtain ⟨f, hf, hdf⟩ := ev_at hus' hy
        have sm6 := sm5.trans s6
        refine ⟨_, rfl, _, rfl, _, rfl, v, vy, vx, x, y, z, ns, f, e, rfl, hd.same sm6, hl, hok f (List.mem_of_mem_take (List.mem_of_getElem? hf)), hok e (List.mem_of_getElem? he), hdf.same sm6, hde.same sm6, fun H7 s7 => ⟨_, rfl, ?_⟩⟩
        have sm7 := sm6.trans s7
        cases c : clashB (nmsN ns) f e with
        | true =>
          refine iteT ⟨_, rfl, _, rfl, by show 2 ≤ 5000; omega, fun p2 H8 s8 np2 tp2 => ?_⟩
          have sm8 := sm7.trans s8
          have e0 : (es.take i).find? (fun f => clashB (nmsN ns) f e) = some f := find_take hf hno c
          have e1 : firstC (nmsN ns) [] es = some (f, e) := by
            rw [hC, drop_at he]
            show (match (es.take i).find? (fun f => clashB (nmsN ns) f e) with | some f => some (f, e) | none => firstC (nmsN ns) (es.take i ++ [e]) (es.drop (i + 1))) = _
            rw [e0]
          rw [e1] at q
          exact q _ H8 sm8 (.mk trivial tp2 (.two (hdf.same sm8) (hde.same sm8)))
        | false => exact iteF ⟨_, rfl, s6.trans s7, fun g hg => by
            rw [take_snoc hf, List.mem_append, List.mem_singleton] at hg
            rcases hg with hg | hg
            · exact hno g hg
            · rw [hg]; exact c⟩
      · obtain ⟨x4, rfl, s6, hno⟩ := h
        rw [List.length_take, List.take_of_length_le (by rw [List.length_take]; omega)] at hno
        exact ⟨_, _, _, rfl, sm5.trans s6, by rw [hC, firstC_skip he hno]⟩
    · obtain ⟨x2, x3, x4, rfl, sm, hC⟩ := h
      rw [List.drop_of_length_le (by omega)] at hC
      rw [show firstC (nmsN ns) [] es = none by rw [hC]; rfl] at q
      exact q .non H' sm rfl
end
end LW

set_option Elab.async false
set_option linter.all false
set_option maxRecDepth 100000
set_option maxHeartbeats 4000000
/-! the law: events merged anyhow, lane by lane in their order -/
namespace LW
open PySem PySem.Spec PyProof.Rows L2
/-- events that drawing leaves alone -/
def EvsP (m L : Addr) (H : Hp) (p : Addr) (es : List Ev) : Prop := ∃ us, Fs m L p ∧ Tu H p us ∧ DqL (Fs m L) H (es.map Ev.d) us
section
variable {m L p : Addr} {H H' : Hp} {es : List Ev}
theorem EvsP.at_ (h : EvsP m L H p es) : EvsAt H p es := by
  obtain ⟨us, f, h1, h2⟩ := h
  exact ⟨us, h1, h2.dt⟩
theorem EvsP.kp (h : EvsP m L H p es) (k : Kp m L H H') : EvsP m L H' p es := by
  obtain ⟨us, f, h1, h2⟩ := h
  exact ⟨us, f, h1.kp f k, h2.kp fun b o f e => ⟨f, k b o f.1 f.2 e⟩⟩
end
theorem DqL.erase {F : Addr → Prop} {H : Hp} : ∀ {ds : List PyData} {us : List V} (k : Nat), DqL F H ds us → DqL F H (ds.eraseIdx k) (us.eraseIdx k)
  | [], us, k, h => by
    rw [show us = [] from h]
    exact rfl
  | d :: ds, _, 0, h => by
    obtain ⟨v, r, rfl, h1, h2⟩ := h
    exact h2
  | d :: ds, _, k + 1, h => by
    obtain ⟨v, r, rfl, h1, h2⟩ := h
    exact ⟨v, r.eraseIdx k, rfl, h1, DqL.erase k h2⟩
theorem map_erase {α β : Type} (f : α → β) : ∀ (xs : List α) (k : Nat), (xs.eraseIdx k).map f = (xs.map f).eraseIdx k
  | [], _ => rfl
  | _ :: _, 0 => rfl
  | x :: xs, k + 1 => by
    show f x :: (xs.eraseIdx k).map f = f x :: (xs.map f).eraseIdx k
    rw [map_erase f xs k]
theorem ev_atF {F : Addr → Prop} {H : Hp} {es : List Ev} {us : List V} {i : Nat} {v : V} (h : DqL F H (es.map Ev.d) us) (e : us[i]? = some v) : ∃ x, es[i]? = some x ∧ Dq F H x.d v := by
  obtain ⟨d, e1, e2⟩ := DqL.get h e
  rw [List.getElem?_map] at e1
  cases hp : es[i]? with
  | none => rw [hp] at e1; cases e1
  | some x =>
    rw [hp] at e1
    cases Option.some.inj e1
    exact ⟨x, rfl, e2⟩
section
variable {P : Program} {w : World} {K : PySem.W.Frag} {mg : Str → Option Value} {base : Heap}
def MgW (K : PySem.W.Frag) (m L p lf fd : Addr) (n : Int) (H : Hp) (es : List Ev) (k : Nat) (σ : L2.St) (H' : Hp) : Prop := ∃ (x4 x5 : Option V) (us vs : List V) (es1 es2 : List Ev), σ = [some (.ref m), some (.ref p), some (.ref lf), some (.ref fd), x4, x5, none, none] ∧ Kp m L H H' ∧ Sd K m L (n + (es.length : Int) - (k : Int)) H' ∧ H' lf = some (.lst us) ∧ DqL (Fs m L) H (es1.map Ev.d) us ∧ H' fd = some (.lst vs) ∧ DqL (Fs m L) H (es2.map Ev.d) vs ∧
        es1.length = k ∧ es1.length + es2.length = es.length ∧ (∀ e ∈ es1, e ∈ es) ∧ ∀ e ∈ es2, e ∈ es
def spMerged (K : PySem.W.Frag) : Sp := fun vs H Q _ => ∃ (m L p : Addr) (n : Int) (es : List Ev), vs = [.ref m, .ref p] ∧ n ≤ 800000 ∧ Sd K m L n H ∧ EvsP m L H p es ∧ es.length ≤ 100 ∧ (∀ e ∈ es, EvOk e) ∧
  ∀ (p' : Addr) (fs : List Ev) (H' : Hp), Kp m L H H' → Sd K m L (n + 100) H' → fs.length = es.length → (∀ f ∈ fs, f ∈ es) → EvsP m L H' p' fs → H p' = none → Q (.ref p') H'
theorem ok_merged (T : TxL K mg) : FnOk P w K mg base CX0 2 T._law_merged.f T._law_merged.d ["m", "some"] (spMerged K) := by
  have G_law_draw : FnOk P w K mg base CX0 1 T._law_draw.f T._law_draw.d ["m", "count"] (spDraw K) := ok_draw T
  refine T._law_merged.F.ok sc__law_merged (fun vs H Q E h => ?_) (fun cdv A outer s0 H vs Q E hr h => ?_)
  · obtain ⟨m, L, p, n, es, rfl, _⟩ := h
    rfl
  · obtain ⟨m, L, p, n, es, rfl, hn, hS, ⟨us0, fp, hp, hus0⟩, hel, hok, q⟩ := h
    have r_law_draw := hr
    refine ⟨_, (pss_cons (ps_par (i := 2) (j := 3) (by rfl) sc__law_merged.nd rfl rfl (by decide) rfl rfl (pa_cons (pe_callTy call_listN (by rfl) T.n_list (by decide +kernel) (pa_cons (pv 1) pa_nil)) (pa_cons (KW.pe_lstS pa_nil) pa_nil)) (by rfl))
      (pss_cons (ps_while PassesOwn.never (pt_cmpR (KT4.op_ne_nil hr.units0) (pv 2) (KW.pe_lstS pa_nil) (nomark _)) (pss_cons (ps_set (i := 4) sc__law_merged.nd rfl (.inr rfl) (pe_ix ix_tup (pe_ix ix_list (pv 2) (pe_call G_law_draw r_law_draw (by rfl) T._law_draw.g T._law_draw.F.kp T._law_draw.b .nil pass0 (pa_cons (pv 0) (pa_cons (pe_callB call_len_seq (by rfl) T.n_len (by decide +kernel) (pa_cons (pv 2) pa_nil)) pa_nil))) (fun _ _ => rfl)) pe_int (fun _ _ => rfl)))
      (pss_cons (ps_set (i := 5) sc__law_merged.nd rfl (.inl rfl) (pe_ix ix_list (pe_lc (own := [("k", 6), ("event", 7)]) (g := gTup K 2 (gCons (gName 6) (gCons (gName 7) gNil))) rfl sc__law_merged.nd (pi_enum (by rfl) T.n_enumerate (pa_cons (pv 2) pa_nil)) (blkOk_by (N := ["m", "some", "left", "found", "who", "spot", "k", "event"]) (sc := (defScope s__law_merged)) (by decide +kernel)) (fun _ _ _ _ _ => (pg_tup rfl (pgs_cons (pg_name (i := 6) sc__law_merged.nd rfl (.inl rfl)) (pgs_cons (pg_name (i := 7) sc__law_merged.nd rfl (.inl rfl)) pgs_nil)))) (fun _ _ _ _ _ => pts_one (pt_cmpR (r := rEqD K) (op_eqD hr.units) (pe_ix (r := rIxT K) ix_tup (pv 7) pe_int (fun _ _ => rfl)) (pv 4) (nomark _))) (fun _ _ _ _ _ => (pv 6))) pe_int (fun _ _ => rfl)))
      (pss_one (ps_expr (pe_bm PySem.F.plainAttrs_list PySem.F.slot_list_append PySem.F.type_list_append mt_append (pv 3) (pa_cons (pe_bm PySem.F.plainAttrs_list PySem.F.slot_list_pop PySem.F.type_list_pop mt_popAt (pv 2) (pa_cons (pv 5) pa_nil)) pa_nil)))))))
      (pss_one (ps_ret (pe_callTy call_tupleF (by rfl) T.n_tuple (by decide +kernel) (pa_cons (pv 3) pa_nil)))))), ?_⟩
    have hl0 := hus0.len
    rw [List.length_map] at hl0
    refine ⟨_, rfl, p, us0, rfl, .inr hp.sq, fun lf H1 s1 nlf _ hlf => ⟨by show 0 ≤ 5000; omega, fun fd H2 s2 nfd hfd => ⟨_, _, rfl, ?_⟩⟩⟩
    have m2 := hS.same (s1.trans s2)
    have flf := hS.ns nlf
    have ffd := (hS.same s1).ns nfd
    have d0 : H fd = none := s1.free nfd
    have nelf : lf ≠ fd := ne_of_none hlf nfd
    refine ⟨MgW K m L p lf fd n H es, ⟨es.length, none, none, us0, [], es, [], rfl, .of_same (s1.trans s2), m2.le (by omega), s2 _ _ hlf, hus0, hfd, (show DqL _ H [] [] from rfl), rfl, rfl, fun e he => he, fun e he => nomatch he⟩, ?_⟩
    rintro k σ H' ⟨x4, x5, us, vs, es1, es2, rfl, kk, mm, hl, dL, hf, dF, hk, hlen, i1, i2⟩
    have hul := dL.len
    rw [List.length_map] at hul
    have hvl := dF.len
    rw [List.length_map] at hvl
    refine ⟨_, rfl, Nat.zero_le _, fun q1 H3 s3 nq1 hq1 => ⟨lf, q1, us, rfl, rfl, .inl (.inl (s3 _ _ hl)), .inl (.inl hq1), _, rfl, ?_⟩⟩
    have kk3 : Kp m L H H3 := kk.trans (.of_same s3)
    have mm3 := mm.same s3
    have hl3 := s3 _ _ hl
    have hf3 := s3 _ _ hf
    cases hz : us.isEmpty with
    | true =>
      refine iteF ?_
      have hu0 : us = [] := List.isEmpty_iff.mp hz
      have h1 : es1.length = 0 := by rw [← hul, hu0]; rfl
      refine ⟨_, rfl, fd, vs, rfl, .inl (.inl hf3), fun pt H4 s4 npt tpt => ?_⟩
      refine q pt es2 H4 (kk3.trans (.of_same s4)) ((mm3.same s4).le (by omega)) (by omega) i2 ⟨vs, mm3.ns npt, tpt, dF.kp fun b o f e => ⟨f, (kk3.trans (.of_same s4)) b o f.1 f.2 e⟩⟩ (kk3.free (mm3.ns npt).1 (mm3.ns npt).2 npt)
    | false =>
      refine iteT ⟨MgW K m L p lf fd n H es (k - 1), fun σ' H' h => ⟨k - 1, ?_, h⟩, ?_⟩
      · have : us ≠ [] := fun z => by rw [z] at hz; cases hz
        have := List.length_pos_iff.mpr this
        omega
      · have hpos : 0 < us.length := List.length_pos_iff.mpr fun z => by rw [z] at hz; cases hz
        refine ⟨_, rfl, _, rfl, _, rfl, lf, us, rfl, .inl (.inl (.inl hl3)), m, L, ((us.length : Nat) : Int), _, rfl, by omega, by omega, by omega, mm3, fun r H4 r0 r1 k4 m4 => ?_⟩
        obtain ⟨j, rfl⟩ := Int.eq_ofNat_of_zero_le r0
        have hj : j < us.length := by omega
        have kk4 := kk3.trans k4
        have hl4 := k4 _ _ flf.1 flf.2 hl3
        have hf4 := k4 _ _ ffd.1 ffd.2 hf3
        obtain ⟨ej, hej, dej⟩ := ev_atF dL (List.getElem?_eq_getElem hj)
        obtain ⟨a, wA, pA, cA, cs, ea, fa, ha, fw, hw, _⟩ := ev_parts dej
        have oej := hok ej (i1 ej (List.mem_of_getElem? hej))
        refine ⟨lf, us, _, us[j], rfl, rfl, .inl (.inl hl4), atI_nat (List.getElem?_eq_getElem hj), ?_⟩
        rw [ea]
        refine ⟨a, _, _, _, rfl, rfl, (ha.kp fa kk4).sq, rfl, ?_⟩
        refine ⟨_, rfl, lf, us, rfl, .inl (.inl hl4), fun D nD => ?_⟩
        have fD := m4.ns nD
        have s45 : Same H4 (upd H4 D (.lst [])) := same_upd nD
        refine lc_it (walk_enum (K := K) (a := lf) (xs := us)) (fun i H' => Same H4 H' ∧ ∃ ks : List Nat, H' D = some (.lst (ks.map fun k => V.int (k : Nat))) ∧ ks.length ≤ i ∧ (∀ k ∈ ks, k < us.length) ∧ (j < i → ks ≠ [])) ⟨s45, [], upd_same, Nat.le_refl _, (fun k hk => nomatch hk), fun z => by omega⟩ (fun i H' hi h => .inl (.inl (h.1 _ _ hl4))) (fun i x H5 H6 hi h y => ?_) (fun H' h => ?_)
        · obtain ⟨s5, ks, hD, hks, hkb, hkj⟩ := h
          obtain ⟨T1, x1, x2, rfl, nT, rfl, e1, e2⟩ := y
          cases Option.some.inj e1
          obtain ⟨ei, hei, dei⟩ := ev_atF dL e2
          obtain ⟨a', wA', pA', cA', cs', ea', fa', ha', fw', hw', _⟩ := ev_parts dei
          have oei := hok ei (i1 ei (List.mem_of_getElem? hei))
          have s6 : Same H4 (upd H5 T1 (.tup [.int (i : Nat), x2])) := s5.trans (same_upd nT)
          have hD6 : (upd H5 T1 (.tup [.int (i : Nat), x2])) D = some (.lst (ks.map fun k => V.int (k : Nat))) := by rw [upd_ne (ne_of_none hD nT)]; exact hD
          refine ⟨T1, _, rfl, .inl (.inl upd_same), rfl, _, _, rfl, _, _, rfl, rfl, rfl, ?_⟩
          revert s6 hD6
          generalize upd H5 T1 (.tup [.int (i : Nat), x2]) = H6
          intro s6 hD6
          have kk6 := kk4.trans (.of_same s6)
          rw [ea']
          refine ⟨_, rfl, a', _, _, _, rfl, rfl, (ha'.kp fa' kk6).sq, rfl, _, rfl, whoD ei, whoD ej, who_dp oei (hw'.kp fw' kk6), who_dp oej (hw.kp fw kk6), who_sh oei, who_sh oej, _, rfl, ?_⟩
          rw [eqv_who]
          by_cases c : ei.g = ej.g ∧ ei.l = ej.l
          · rw [decide_eq_true c]
            refine iteT ⟨_, rfl, _, hD6, lt_size (by rw [List.length_map]; omega), fun b o e => ?_, ks ++ [i], ?_, by rw [List.length_append]; show ks.length + 1 ≤ i + 1; omega, fun k hk => ?_, fun _ z => ?_⟩
            · rw [upd_ne (ne_of_none e nD)]; exact s6 _ _ e
            · rw [upd_same, List.map_append]; rfl
            · rcases List.mem_append.mp hk with hk | hk
              · exact hkb k hk
              · rw [List.mem_singleton] at hk
                rw [hk]
                exact (List.getElem?_eq_some_iff.mp e2).1
            · cases ks <;> cases z
          · rw [decide_eq_false c]
            refine iteF ⟨s6, ks, hD6, by omega, hkb, fun z => hkj ?_⟩
            rcases Nat.lt_or_ge j i with g | g
            · exact g
            · exfalso
              have : i = j := by omega
              subst this
              rw [hej] at hei
              cases hei
              exact c ⟨rfl, rfl⟩
        · obtain ⟨s5, ks, hD, hks, hkb, hkj⟩ := h
          have hne := hkj hj
          obtain ⟨k0, kr, rfl⟩ := List.exists_cons_of_ne_nil hne
          have hk0 : k0 < us.length := hkb k0 (List.mem_cons_self ..)
          refine ⟨D, _, _, .int (k0 : Nat), rfl, rfl, .inl (.inl hD), atI_nat (j := 0) rfl, ?_⟩
          have kk5 := kk4.trans (.of_same s5)
          have hl5 := s5 _ _ hl4
          have hf5 := s5 _ _ hf4
          have hk0' : us[k0]? = some us[k0] := List.getElem?_eq_getElem hk0
          obtain ⟨ek, hek, dek⟩ := ev_atF dL hk0'
          have upl : ∀ b o, b ≠ lf → H' b = some o → (upd H' lf (.lst (us.eraseIdx k0))) b = some o := fun b o hb e => by rw [upd_ne hb]; exact e
          refine ⟨_, rfl, .inl ⟨rfl, _, .inl (.inl hf5)⟩, _, rfl, .inl ⟨rfl, _, .inl (.inl hl5)⟩, _, rfl, lf, us, _, k0, us[k0], rfl, rfl, hl5, by omega, by omega, (ixN_seq (ixN_j hk0)).1, hk0', ?_⟩
          refine ⟨fd, vs, _, rfl, rfl, by rw [upd_ne nelf.symm]; exact hf5, lt_size (by omega), ?_⟩
          refine ⟨_, _, us.eraseIdx k0, vs ++ [us[k0]], es1.eraseIdx k0, es2 ++ [ek], rfl, fun b o h1 h2 h => ?_, ?_, ?_, ?_, upd_same, ?_, ?_, ?_, fun e he => ?_, fun e he => ?_⟩
          · rw [upd_ne (ne_of_none h d0), upd_ne (ne_of_none h nlf)]
            exact kk5 b o h1 h2 h
          · have a1 : Sd K m L (n + (es.length : Int) - (k : Int) + 1) (upd H' lf (.lst (us.eraseIdx k0))) := (m4.same s5).off hl5 (fun o v z => by cases z) flf.1 flf.2 fun b o hb e => by rw [upd_ne hb]; exact e
            refine Sd.le (a1.off (p := fd) (by rw [upd_ne nelf.symm]; exact hf5) (fun o v z => by cases z) ffd.1 ffd.2 fun b o hb e => by rw [upd_ne hb]; exact e) (by omega)
          · rw [upd_ne nelf, upd_same]
          · rw [map_erase]
            exact DqL.erase k0 dL
          · rw [List.map_append]
            exact dF.app (.one dek)
          · rw [List.length_eraseIdx, if_pos (by omega)]
            omega
          · rw [List.length_eraseIdx, if_pos (by omega), List.length_append]
            show es1.length - 1 + (es2.length + 1) = _
            omega
          · exact i1 e (List.mem_of_mem_eraseIdx he)
          · rcases List.mem_append.mp he with he | he
            · exact i2 e he
            · rw [List.mem_singleton] at he
              rw [he]
              exact i1 ek (List.mem_of_getElem? hek)
end
end LW

set_option Elab.async false
set_option linter.all false
set_option maxRecDepth 100000
set_option maxHeartbeats 4000000
/-! the law: other rows of events -/
namespace LW
open PySem PySem.Spec PyProof.Rows L2
theorem cut_sub {xs : List V} {lo hi : Option Int} : ∃ a b : Nat, cutV xs lo hi = (xs.drop a).take b := ⟨_, _, rfl⟩
/-- a part of some events -/
theorem cut_evs {F : Addr → Prop} {H : Hp} {es : List Ev} {us : List V} (h : DqL F H (es.map Ev.d) us) (lo hi : Option Int) : ∃ fs : List Ev, fs.length ≤ es.length ∧ (∀ f ∈ fs, f ∈ es) ∧ DqL F H (fs.map Ev.d) (cutV us lo hi) := by
  obtain ⟨a, b, e⟩ := cut_sub (xs := us) (lo := lo) (hi := hi)
  refine ⟨(es.drop a).take b, by rw [List.length_take, List.length_drop]; omega, fun f hf => List.mem_of_mem_drop (List.mem_of_mem_take hf), ?_⟩
  rw [e, List.map_take, List.map_drop]
  exact DqL.take (DqL.drop h)
/-- an event with one thing otherwise -/
def oddE (e : Ev) : Nat → Ev
  | 0 => { e with g := 9, l := 9 }
  | 1 => { e with i := e.i + 1 }
  | 2 => { e with p := 77 }
  | 3 => { e with kind := "stored" }
  | 4 => { e with name := "other" }
  | 5 => { e with cell := [5, 5] }
  | _ => { e with w := e.w + 1 }
def oddD (e : Ev) : Nat → PyData
  | 0 => .tuple [.int 9, .int 9]
  | 1 => .int (e.i + 1)
  | 2 => .tuple [.int 77]
  | 3 => .str "stored"
  | 4 => .str "other"
  | 5 => .tuple [.int 5, .int 5]
  | _ => .int (e.w + 1)
def itemsD (e : Ev) : List PyData := [whoD e, .int e.i, .tuple [.int e.p], .str e.kind, .str e.name, intsD e.cell, .int e.w]
theorem odd_items (e : Ev) {k : Nat} (h : k < 7) : (oddE e k).d = .tuple ((itemsD e).take k ++ [oddD e k] ++ (itemsD e).drop (k + 1)) := by
  match k, h with
  | 0, _ => rfl
  | 1, _ => rfl
  | 2, _ => rfl
  | 3, _ => rfl
  | 4, _ => rfl
  | 5, _ => rfl
  | 6, _ => rfl
theorem odd_ok {e : Ev} (h : EvG e) {k : Nat} (hk : k < 7) : EvS (oddE e k) := by
  have ks : okS "stored" = true := by decide +kernel
  have ko : okS "other" = true := by decide +kernel
  have n := h.s.n
  have b := h.b
  match k, hk with
  | 0, _ => exact ⟨⟨by show (9 : Int).natAbs ≤ 100000; decide, by show (9 : Int).natAbs ≤ 100000; decide, n.2.2⟩, h.s.k, h.s.m, h.s.c, by show (0 : Int) ≤ 9 ∧ (0 : Int) ≤ 9; decide⟩
  | 1, _ => exact ⟨⟨n.1, n.2.1, by show (e.i + 1).natAbs ≤ 100000; omega, n.2.2.2⟩, h.s.k, h.s.m, h.s.c, h.s.z⟩
  | 2, _ => exact ⟨⟨n.1, n.2.1, n.2.2.1, by show (77 : Int).natAbs ≤ 100000; decide, n.2.2.2.2⟩, h.s.k, h.s.m, h.s.c, h.s.z⟩
  | 3, _ => exact ⟨n, ks, h.s.m, h.s.c, h.s.z⟩
  | 4, _ => exact ⟨n, h.s.k, ko, h.s.c, h.s.z⟩
  | 5, _ => exact ⟨n, h.s.k, h.s.m, ⟨by show 2 ≤ 2; omega, fun x hx => by
      have : x = 5 := by
        rcases List.mem_cons.mp hx with r | hx
        · exact r
        · exact List.mem_singleton.mp hx
      omega⟩, h.s.z⟩
  | 6, _ => exact ⟨⟨n.1, n.2.1, n.2.2.1, n.2.2.2.1, by show (e.w + 1).natAbs ≤ 100000; omega⟩, h.s.k, h.s.m, h.s.c, h.s.z⟩
theorem cut_drop {us : List V} {i : Nat} (h : i ≤ us.length) : cutV us (some ((i : Nat) : Int)) none = us.drop i := by
  unfold cutV
  have e1 : HT.sIx us.length us.length none = us.length := rfl
  have e2 : HT.sIx us.length 0 (some ((i : Nat) : Int)) = i := by
    unfold HT.sIx
    simp
    rw [if_neg (by omega)]
    omega
  rw [e1, e2]
  exact List.take_of_length_le (by rw [List.length_drop]; omega)
theorem DqL.set_ {F : Addr → Prop} {H : Hp} : ∀ {ds : List PyData} {us : List V} (k : Nat) {d : PyData} {v : V}, DqL F H ds us → Dq F H d v → DqL F H (ds.set k d) (us.set k v)
  | [], us, k, d, v, h, g => by
    rw [show us = [] from h]
    exact rfl
  | d0 :: ds, _, 0, d, v, h, g => by
    obtain ⟨u, r, rfl, h1, h2⟩ := h
    exact ⟨v, r, rfl, g, h2⟩
  | d0 :: ds, _, k + 1, d, v, h, g => by
    obtain ⟨u, r, rfl, h1, h2⟩ := h
    exact ⟨u, r.set k v, rfl, h1, DqL.set_ k h2 g⟩
theorem dead_fs {K : PySem.W.Frag} {m L : Addr} {H1 H2 : Hp} {n : Int} {d : PyData} {v : V} (h : Dq (fun a => H1 a = none) H2 d v) (s : Sd K m L n H1) : Dq (Fs m L) H2 d v := h.kp fun b o f e => ⟨s.ns f, e⟩
theorem evs_eqv (es : List Ev) : PyData.eqv (.tuple (es.map Ev.d)) (.tuple []) = es.isEmpty := by
  cases es with
  | nil => rfl
  | cons e r => simp [PyData.eqv, PyData.eqvAll]
theorem evs_fine {es : List Ev} (h : ∀ e ∈ es, EvOk e) : fine (.tuple (es.map Ev.d)) = true := by
  show fineL _ = true
  rw [fineL_mem]
  intro d hd
  obtain ⟨e, he, rfl⟩ := List.mem_map.mp hd
  exact h e he
theorem evs_depth (es : List Ev) : (PyData.tuple (es.map Ev.d)).depth ≤ 3 := by
  simp only [PyData.depth]
  have := depthA_le (n := 2) (ds := es.map Ev.d) fun d hd => by
    obtain ⟨e, _, rfl⟩ := List.mem_map.mp hd
    exact depth_ev e
  omega
theorem ints_of {F : Addr → Prop} {H : Hp} : ∀ {ns : List Int} {vs : List V}, DqL F H (ns.map PyData.int) vs → vs = ns.map V.int
  | [], _, h => h
  | n :: ns, _, h => by
    obtain ⟨v, r, rfl, h1, h2⟩ := h
    rw [ints_of h2, show v = .int n from h1]
    rfl
theorem ev_tk {F : Addr → Prop} {H H' : Hp} {e : Ev} {v : V} (h : Dq F H e.d v) (t : KN.TuK H H') : Dq F H' e.d v := by
  obtain ⟨a, w, p, c, cs, rfl, fa, ha, fw, hw, fp, hp, fc, hc, hcs⟩ := ev_parts h
  rw [ints_of hcs] at hc
  exact .mk fa (ha.tk t) ⟨_, _, rfl, .mk fw (hw.tk t) (.two rfl rfl), _, _, rfl, rfl, _, _, rfl, .mk fp (hp.tk t) (.one rfl), _, _, rfl, rfl, _, _, rfl, rfl, _, _, rfl, .mk fc (hc.tk t) (ints_dq e.cell), _, _, rfl, rfl, rfl⟩
theorem evL_tk {F : Addr → Prop} {H H' : Hp} (t : KN.TuK H H') : ∀ {es : List Ev} {us : List V}, DqL F H (es.map Ev.d) us → DqL F H' (es.map Ev.d) us
  | [], _, h => h
  | e :: es, _, h => by
    obtain ⟨v, r, rfl, h1, h2⟩ := h
    exact ⟨v, r, rfl, ev_tk h1 t, evL_tk t h2⟩
theorem EvsP.tk {m L p : Addr} {H H' : Hp} {es : List Ev} (h : EvsP m L H p es) (t : KN.TuK H H') : EvsP m L H' p es := by
  obtain ⟨us, f, h1, h2⟩ := h
  exact ⟨us, f, h1.tk t, evL_tk t h2⟩
/-- rows of events -/
def RowsP (m L : Addr) (H : Hp) (rs : List (Addr × List Ev)) : Prop := ∀ r ∈ rs, EvsP m L H r.1 r.2 ∧ (∀ e ∈ r.2, EvS e) ∧ r.2.length ≤ 60
theorem RowsP.kp {m L : Addr} {H H' : Hp} {rs : List (Addr × List Ev)} (h : RowsP m L H rs) (k : Kp m L H H') : RowsP m L H' rs := fun r hr => ⟨(h r hr).1.kp k, (h r hr).2⟩
section
variable {P : Program} {w : World} {K : PySem.W.Frag} {mg : Str → Option Value} {base : Heap}
def spOthers (K : PySem.W.Frag) : Sp := fun vs H Q _ => ∃ (m L p : Addr) (n : Int) (es : List Ev), vs = [.ref m, .ref p] ∧ n ≤ 700000 ∧ Sd K m L n H ∧ EvsP m L H p es ∧ es.length ≤ 30 ∧ (∀ e ∈ es, EvG e) ∧
  ∀ (q : Addr) (rs : List (Addr × List Ev)) (H' : Hp), Kp m L H H' → Sd K m L (n + 300) H' → H q = none → Fs m L q → H' q = some (.lst (rs.map fun r => V.ref r.1)) → rs.length ≤ 10 → RowsP m L H' rs → Q (.ref q) H'
theorem ok_others (T : TxL K mg) : FnOk P w K mg base CX0 3 T._law_others.f T._law_others.d ["m", "some"] (spOthers K) := by
  have G_law_draw : FnOk P w K mg base CX0 1 T._law_draw.f T._law_draw.d ["m", "count"] (spDraw K) := ok_draw T
  have G_law_merged : FnOk P w K mg base CX0 2 T._law_merged.f T._law_merged.d ["m", "some"] (spMerged K) := ok_merged T
  refine T._law_others.F.ok sc__law_others (fun vs H Q E h => ?_) (fun cdv A outer s0 H vs Q E hr h => ?_)
  · obtain ⟨m, L, p, n, es, rfl, _⟩ := h
    rfl
  · obtain ⟨m, L, p, n, es, rfl, hn, hS, hE, hel, hG, q⟩ := h
    have r_law_draw := hr.mono (show 1 ≤ 2 by decide)
    have r_law_merged := hr
    refine ⟨_, (pss_cons (ps_set (i := 2) sc__law_others.nd rfl (.inl rfl) (KW.pe_lstS (pa_cons (pe_tupF pa_nil) (pa_cons (pe_slice sl_tupF (pv 1) po_none (po_some (pe_un un_neg pe_int))) (pa_cons (pe_op op_catF (pv 1) (pe_slice sl_tupF (pv 1) po_none (po_some pe_int))) (pa_cons (pe_call G_law_merged r_law_merged (by rfl) T._law_merged.g T._law_merged.F.kp T._law_merged.b .nil pass0 (pa_cons (pv 0) (pa_cons (pv 1) pa_nil))) (pa_cons (pe_revF (pv 1)) pa_nil)))))))
      (pss_cons (ps_if (pt_cmpR (op_eqD hr.units) (pv 1) (pe_tupF pa_nil) (nomark _)) (pss_one (ps_ret (pv 2))) pss_nil)
      (pss_cons (ps_par (i := 3) (j := 4) (by rfl) sc__law_others.nd rfl rfl (by decide) rfl rfl (pa_cons (pe_call G_law_draw r_law_draw (by rfl) T._law_draw.g T._law_draw.F.kp T._law_draw.b .nil pass0 (pa_cons (pv 0) (pa_cons (pe_callB call_len_seq (by rfl) T.n_len (by decide +kernel) (pa_cons (pv 1) pa_nil)) pa_nil))) (pa_cons (pe_call G_law_draw r_law_draw (by rfl) T._law_draw.g T._law_draw.F.kp T._law_draw.b .nil pass0 (pa_cons (pv 0) (pa_cons pe_int pa_nil))) pa_nil)) (by rfl))
      (pss_cons (ps_set (i := 5) sc__law_others.nd rfl (.inl rfl) (pe_ix ix_tup (pv 1) (pv 3) (fun _ _ => rfl)))
      (pss_cons (ps_set (i := 6) sc__law_others.nd rfl (.inl rfl) (pe_ix ix_list (KW.pe_lstS (pa_cons (pe_dtup (by decide) (pa_dcons (pe_dtup (by decide) (pa_dcons (pe_dc (d := .int 9) pe_int rfl) (pa_dcons (pe_dc (d := .int 9) pe_int rfl) pa_dnil))) pa_dnil)) (pa_cons (pe_tupF (pa_cons (pe_op op_add (pe_ix ix_tup (pv 5) pe_int (fun _ _ => rfl)) pe_int) pa_nil)) (pa_cons (pe_dtup (by decide) (pa_dcons (pe_dtup (by decide) (pa_dcons (pe_dc (d := .int 77) pe_int rfl) pa_dnil)) pa_dnil)) (pa_cons (pe_dtup (by decide) (pa_dcons (pe_dc (d := .str "stored") pe_str rfl) pa_dnil)) (pa_cons (pe_dtup (by decide) (pa_dcons (pe_dc (d := .str "other") pe_str rfl) pa_dnil)) (pa_cons (pe_dtup (by decide) (pa_dcons (pe_dtup (by decide) (pa_dcons (pe_dc (d := .int 5) pe_int rfl) (pa_dcons (pe_dc (d := .int 5) pe_int rfl) pa_dnil))) pa_dnil)) (pa_cons (pe_tupF (pa_cons (pe_op op_add (pe_ix ix_tup (pv 5) pe_int (fun _ _ => rfl)) pe_int) pa_nil)) pa_nil)))))))) (pv 4) (fun _ _ => rfl)))
      (pss_cons (ps_expr (pe_bm PySem.F.plainAttrs_list PySem.F.slot_list_append PySem.F.type_list_append mt_append (pv 2) (pa_cons (pe_op op_catF (pe_op op_catF (pe_slice sl_tupF (pv 1) po_none (po_some (pv 3))) (pe_tupF (pa_cons (pe_op op_catF (pe_op op_catF (pe_slice sl_tupF (pv 5) po_none (po_some (pv 4))) (pv 6)) (pe_slice sl_tupF (pv 5) (po_some (pe_op op_add (pv 4) pe_int)) po_none)) pa_nil))) (pe_slice sl_tupF (pv 1) (po_some (pe_op op_add (pv 3) pe_int)) po_none)) pa_nil)))
      (pss_cons (ps_set (i := 7) sc__law_others.nd rfl (.inl rfl) (pe_call G_law_draw r_law_draw (by rfl) T._law_draw.g T._law_draw.F.kp T._law_draw.b .nil pass0 (pa_cons (pv 0) (pa_cons (pe_callB call_len_seq (by rfl) T.n_len (by decide +kernel) (pa_cons (pv 1) pa_nil)) pa_nil))))
      (pss_cons (ps_set (i := 8) sc__law_others.nd rfl (.inl rfl) (pe_callTy call_listN (by rfl) T.n_list (by decide +kernel) (pa_cons (pe_call G_law_merged r_law_merged (by rfl) T._law_merged.g T._law_merged.F.kp T._law_merged.b .nil pass0 (pa_cons (pv 0) (pa_cons (pv 1) pa_nil))) pa_nil)))
      (pss_cons (ps_asg (pe_tupF (pa_cons (pe_ix ix_list (pv 8) (pv 7) (fun _ _ => rfl)) (pa_cons (pe_ix ix_list (pv 8) (pv 3) (fun _ _ => rfl)) pa_nil))) (pg_tup rfl (pgs_cons (pg_sub (pv 8) (pv 3) set_list) (pgs_cons (pg_sub (pv 8) (pv 7) set_list) pgs_nil))))
      (pss_one (ps_ret (pe_op KW.op_catS (pv 2) (KW.pe_lstS (pa_cons (pe_callTy call_tupleF (by rfl) T.n_tuple (by decide +kernel) (pa_cons (pv 8) pa_nil)) pa_nil)))))))))))))), ?_⟩
    obtain ⟨us, fp, hp, hus⟩ := id hE
    have hul := hus.len
    rw [List.length_map] at hul
    have hok : ∀ e ∈ es, EvS e := fun e he => (hG e he).s
    -- the first five
    refine ⟨by show 0 ≤ 5000; omega, fun p1 H1 s1 np1 t1 => ?_⟩
    have m1 := hS.same s1
    have f1 := hS.ns np1
    refine ⟨_, rfl, 1, rfl, _, rfl, p, us, rfl, hp.same s1, fun p2 H2 s2 np2 t2 => ?_⟩
    have m2 := m1.same s2
    have fe2 : Fs m L p2 := by
      rcases np2 with rfl | h
      · exact fp
      · exact m1.ns h
    obtain ⟨fs2, l2, i2, e2⟩ := cut_evs (hus.same (s1.trans s2)) none (some (-1))
    have r1 : EvsP m L H1 p1 [] := ⟨[], f1, t1, rfl⟩
    have r2 : EvsP m L H2 p2 fs2 := ⟨_, fe2, t2, e2⟩
    refine ⟨_, rfl, _, rfl, _, rfl, p, us, rfl, hp.same (s1.trans s2), fun p3 H3 s3 np3 t3 => ?_⟩
    have s13 := (s1.trans s2).trans s3
    obtain ⟨fs3, l3, i3, e3⟩ := cut_evs (hus.same s13) none (some 1)
    have c3 : (cutV us none (some 1)).length ≤ 30 := by have := e3.len; rw [List.length_map] at this; omega
    refine ⟨p, p3, us, _, rfl, rfl, hp.same s13, t3, by omega, fun p4 H4 s4 np4 t4 => ?_⟩
    have m4 := (m2.same s3).same s4
    have fe4 : Fs m L p4 := by
      rcases np4 with rfl | rfl | h
      · exact fp
      · rcases np3 with rfl | h
        · exact fp
        · exact m2.ns h
      · exact (m2.same s3).ns h
    have r4 : EvsP m L H4 p4 (es ++ fs3) := ⟨_, fe4, t4, by rw [List.map_append]; exact (hus.same (s13.trans s4)).app (e3.same s4)⟩
    have s14 := s13.trans s4
    refine ⟨_, rfl, _, rfl, m, L, p, n, es, rfl, by omega, m4, hE.kp (.of_same s14), by omega, fun e he => (hok e he).ok, fun p5 fs5 H5 k5 m5 l5 i5 r5 n5 => ?_⟩
    have kk5 : Kp m L H H5 := (Kp.of_same s14).trans k5
    refine ⟨_, rfl, p, us, rfl, hp.kp fp kk5, fun p6 H6 s6 np6 t6 => ⟨by show 5 ≤ 5000; omega, fun q0 H7 s7 nq0 hq0 => ?_⟩⟩
    have kk6 := kk5.trans (.of_same s6)
    have m6 := m5.same s6
    have r6 : EvsP m L H6 p6 es.reverse := ⟨_, m5.ns np6, t6, by rw [List.map_reverse]; exact (hus.kp fun b o f e => ⟨f, kk6 b o f.1 f.2 e⟩).rev⟩
    have m7 := m6.same s7
    have kk7 := kk6.trans (.of_same s7)
    have fq := m6.ns nq0
    have q0n : H q0 = none := kk6.free fq.1 fq.2 nq0
    have k57 : Kp m L H5 H7 := .of_same (s6.trans s7)
    have k47 : Kp m L H4 H7 := k5.trans k57
    have k27 : Kp m L H2 H7 := (Kp.of_same (s3.trans s4)).trans k47
    have R5 : RowsP m L H7 [(p1, []), (p2, fs2), (p4, es ++ fs3), (p5, fs5), (p6, es.reverse)] := fun r hr => by
      simp only [List.mem_cons, List.mem_nil_iff, or_false] at hr
      rcases hr with rfl | rfl | rfl | rfl | rfl
      · exact ⟨r1.kp ((Kp.of_same s2).trans k27), (fun e he => nomatch he), Nat.zero_le _⟩
      · exact ⟨r2.kp k27, fun e he => hok e (i2 e he), by show fs2.length ≤ 60; omega⟩
      · refine ⟨r4.kp k47, fun e he => ?_, by show (es ++ fs3).length ≤ 60; rw [List.length_append]; omega⟩
        rcases List.mem_append.mp he with he | he
        · exact hok e he
        · exact hok e (i3 e he)
      · exact ⟨r5.kp k57, fun e he => hok e (i5 e he), by show fs5.length ≤ 60; omega⟩
      · exact ⟨r6.kp (.of_same s7), fun e he => hok e (List.mem_reverse.mp he), by show es.reverse.length ≤ 60; rw [List.length_reverse]; omega⟩
    -- none at all
    refine ⟨_, rfl, by show 0 ≤ 5000; omega, fun pe H8 s8 npe te => ?_⟩
    have m8 := m7.same s8
    have kk8 := kk7.trans (.of_same s8)
    have hE8 := hE.kp kk8
    have fin8 := evs_fine (fun e he => (hok e he).ok)
    refine ⟨.tuple (es.map Ev.d), .tuple [], fine_dp (F := fun _ => True) fin8 ?_, fine_dp (F := fun _ => True) (d := .tuple []) rfl (.mk trivial te rfl), fine_shaped fin8 (by have := evs_depth es; omega), by decide +kernel, _, rfl, ?_⟩
    · obtain ⟨us', g1, g2, g3⟩ := hE8
      exact .mk trivial g2 g3.dt
    rw [evs_eqv]
    cases hz : es.isEmpty with
    | true =>
      refine iteT ⟨_, rfl, ?_⟩
      exact q q0 [(p1, []), (p2, fs2), (p4, es ++ fs3), (p5, fs5), (p6, es.reverse)] H8 kk8 (m8.le (by omega)) q0n fq (s8 _ _ hq0) (by show 5 ≤ 10; omega) (R5.kp (.of_same s8))
    | false =>
      refine iteF ?_
      have hne : es ≠ [] := fun z => by rw [z] at hz; cases hz
      have hpos : 0 < us.length := by have := List.length_pos_iff.mpr hne; omega
      have hq8 := s8 _ _ hq0
      have R8 := R5.kp (.of_same s8)
      refine ⟨_, rfl, _, rfl, p, us, rfl, .inr (hp.kp fp kk8).sq, m, L, ((us.length : Nat) : Int), n + 100, rfl, by omega, by omega, by omega, m8, fun sp H9 sp0 sp1 k9 m9 => ?_⟩
      refine ⟨_, rfl, m, L, 7, n + 100 + 1, rfl, by decide, by decide, by omega, m9, fun k Ha k0 k1 ka ma => ⟨_, _, rfl, ?_⟩⟩
      obtain ⟨sp, rfl⟩ := Int.eq_ofNat_of_zero_le sp0
      obtain ⟨k, rfl⟩ := Int.eq_ofNat_of_zero_le k0
      have hsp : sp < us.length := by omega
      have hk7 : k < 7 := by omega
      have kka := (kk8.trans k9).trans ka
      have hpa := hp.kp fp kka
      have husa : DqL (Fs m L) Ha (es.map Ev.d) us := hus.kp fun b o f e => ⟨f, kka b o f.1 f.2 e⟩
      have hus_s : us[sp]? = some us[sp] := List.getElem?_eq_getElem hsp
      obtain ⟨e, he, dE⟩ := ev_atF husa hus_s
      have gE := hG e (List.mem_of_getElem? he)
      obtain ⟨a, its, ea, fa, ta, dI⟩ := (show ∃ a xs, us[sp] = .ref a ∧ Fs m L a ∧ Tu Ha a xs ∧ DqL (Fs m L) Ha (itemsD e) xs from dE)
      have hits : its.length = 7 := dI.len
      refine ⟨_, rfl, _, rfl, p, us, _, us[sp], rfl, rfl, hpa.sq, atI_nat hus_s, ?_⟩
      rw [ea]
      -- what is otherwise
      obtain ⟨x1, e1, f1'⟩ := dI.nth (i := 1) (d := .int e.i) rfl
      cases (show x1 = .int e.i from f1')
      obtain ⟨x6, e6, f6'⟩ := dI.nth (i := 6) (d := .int e.w) rfl
      cases (show x6 = .int e.w from f6')
      refine fun v0 Hb sb h0 => ⟨_, rfl, a, _, _, _, rfl, rfl, (ta.same sb).sq, atI_nat (j := 1) e1, _, _, rfl, rfl, by show 1 ≤ 5000; omega, fun t1' Hc sc nt1 tt1 => ?_⟩
      refine fun v2 Hd sd h2 v3 He se h3 v4 Hf sf h4 v5 Hg sg h5 => ?_
      have sag : Same Ha Hg := ((((sb.trans sc).trans sd).trans se).trans sf).trans sg
      have mb := ma.same sb
      have mc := mb.same sc
      have md := mc.same sd
      have me := md.same se
      have mf := me.same sf
      have mg' := mf.same sg
      refine ⟨_, rfl, a, _, _, _, rfl, rfl, (ta.same sag).sq, atI_nat (j := 6) e6, _, _, rfl, rfl, by show 1 ≤ 5000; omega, fun t6' Hh sh nt6 tt6 => ⟨by show 7 ≤ 5000; omega, fun ql Hi si nql hql => ?_⟩⟩
      have mi := (mg'.same sh).same si
      have sai : Same Ha Hi := (sag.trans sh).trans si
      have shi : Same Hh Hi := si
      have dO : DqL (Fs m L) Hi [.tuple [oddD e 0], .tuple [oddD e 1], .tuple [oddD e 2], .tuple [oddD e 3], .tuple [oddD e 4], .tuple [oddD e 5], .tuple [oddD e 6]] [v0, .ref t1', v2, v3, v4, v5, .ref t6'] := by
        have sci : Same Hc Hi := ((((sd.trans se).trans sf).trans sg).trans sh).trans si
        have sdi : Same Hd Hi := (((se.trans sf).trans sg).trans sh).trans si
        have sei : Same He Hi := ((sf.trans sg).trans sh).trans si
        have sfi : Same Hf Hi := (sg.trans sh).trans si
        have sgi : Same Hg Hi := sh.trans si
        exact ⟨_, _, rfl, (dead_fs h0 ma).same (sc.trans sci), _, _, rfl, .mk (mb.ns nt1) (tt1.same sci) (.one rfl), _, _, rfl, (dead_fs h2 mc).same sdi, _, _, rfl, (dead_fs h3 md).same sei, _, _, rfl, (dead_fs h4 me).same sfi, _, _, rfl, (dead_fs h5 mf).same sgi, _, _, rfl, .mk (mg'.ns nt6) (tt6.same si) (.one rfl), rfl⟩
      obtain ⟨vo, hvo, dvo⟩ := dO.nth (i := k) (d := .tuple [oddD e k]) (by
        match k, hk7 with
        | 0, _ => rfl
        | 1, _ => rfl
        | 2, _ => rfl
        | 3, _ => rfl
        | 4, _ => rfl
        | 5, _ => rfl
        | 6, _ => rfl)
      obtain ⟨to, xo, rfl, fo, tto, dxo⟩ := dvo
      obtain ⟨xv, r0, rfl, dxv, hn0⟩ := dxo
      cases (show r0 = [] from hn0)
      refine ⟨_, rfl, ql, _, _, _, rfl, rfl, .inl (.inl hql), atI_nat hvo, ?_⟩
      have kki := kka.trans (.of_same sai)
      have hqi : Hi q0 = some (.lst [V.ref p1, V.ref p2, V.ref p4, V.ref p5, V.ref p6]) := sai _ _ (ka _ _ fq.1 fq.2 (k9 _ _ fq.1 fq.2 hq8))
      have hpi := hpa.same sai
      have husi := husa.same sai
      have tai := ta.same sai
      have dIi := dI.same sai
      -- put in its place
      refine ⟨_, rfl, .inl ⟨rfl, _, .inl (.inl hqi)⟩, _, rfl, _, rfl, _, rfl, p, us, rfl, hpi, fun b1 H11 s11 nb1 tb1 => ?_⟩
      rw [cut_take (Nat.le_of_lt hsp)] at tb1
      have m11 := mi.same s11
      refine ⟨_, rfl, _, rfl, _, rfl, a, its, rfl, tai.same s11, fun b2 H12 s12 nb2 tb2 => ?_⟩
      rw [cut_take (by omega)] at tb2
      have m12 := m11.same s12
      refine ⟨_, rfl, b2, to, _, _, rfl, rfl, tb2, (tto.same s11).same s12, by rw [List.length_take]; show min k its.length + 1 ≤ 5000; omega, fun b3 H13 s13' nb3 tb3 => ?_⟩
      have m13 := m12.same s13'
      refine ⟨_, rfl, _, rfl, _, _, rfl, rfl, _, rfl, a, its, rfl, ((tai.same s11).same s12).same s13', fun b4 H14 s14' nb4 tb4 => ?_⟩
      have ek1 : (((k : Nat) : Int) + 1) = ((k + 1 : Nat) : Int) := by omega
      rw [ek1, cut_drop (by omega)] at tb4
      have m14 := m13.same s14'
      have lb3 : (its.take k ++ [xv]).length ≤ 8 := by rw [List.length_append, List.length_take]; show min k its.length + 1 ≤ 8; omega
      refine ⟨b3, b4, _, _, rfl, rfl, tb3.same s14', tb4, by rw [List.length_drop]; omega, fun b5 H15 s15 nb5 tb5 => ⟨by show 1 ≤ 5000; omega, fun b6 H16 s16 nb6 tb6 => ?_⟩⟩
      have m15 := m14.same s15
      have m16 := m15.same s16
      have si5 : Same Hi H15 := (((s11.trans s12).trans s13').trans s14').trans s15
      have fb5 : Fs m L b5 := by
        have fa2 : Fs m L b2 := by
          rcases nb2 with rfl | h
          · exact fa
          · exact m11.ns h
        have fa4 : Fs m L b4 := by
          rcases nb4 with rfl | h
          · exact fa
          · exact m13.ns h
        rcases nb5 with rfl | rfl | h
        · rcases nb3 with rfl | rfl | h
          · exact fa2
          · exact fo
          · exact m12.ns h
        · exact fa4
        · exact m14.ns h
      have dOdd : Dq (Fs m L) H15 (oddE e k).d (.ref b5) := by
        rw [odd_items e hk7]
        refine .mk fb5 tb5 (((DqL.take (dIi.same si5)).app (.one (dxv.same si5))).app (DqL.drop (dIi.same si5)))
      refine ⟨b1, b6, _, _, rfl, rfl, tb1.same (((s12.trans s13').trans s14').trans (s15.trans s16)), tb6, by rw [List.length_take]; show min sp us.length + 1 ≤ 5000; omega, fun b7 H17 s17 nb7 tb7 => ?_⟩
      have m17 := m16.same s17
      have si7 : Same Hi H17 := (si5.trans s16).trans s17
      refine ⟨_, rfl, _, rfl, _, _, rfl, rfl, _, rfl, p, us, rfl, hpi.same si7, fun b8 H18 s18 nb8 tb8 => ?_⟩
      have es1 : (((sp : Nat) : Int) + 1) = ((sp + 1 : Nat) : Int) := by omega
      rw [es1, cut_drop (by omega)] at tb8
      have lb7 : (us.take sp ++ [V.ref b5]).length ≤ 40 := by rw [List.length_append, List.length_take]; show min sp us.length + 1 ≤ 40; omega
      refine ⟨b7, b8, _, _, rfl, rfl, tb7.same s18, tb8, by rw [List.length_drop]; omega, fun b9 H19 s19 nb9 tb9 => ?_⟩
      have m18 := m17.same s18
      have m19 := m18.same s19
      have si9 : Same Hi H19 := (si7.trans s18).trans s19
      have fb1 : Fs m L b1 := by
        rcases nb1 with rfl | h
        · exact fp
        · exact mi.ns h
      have fb6 : Fs m L b6 := m15.ns nb6
      have fb8 : Fs m L b8 := by
        rcases nb8 with rfl | h
        · exact fp
        · exact m17.ns h
      have fb9 : Fs m L b9 := by
        rcases nb9 with rfl | rfl | h
        · rcases nb7 with rfl | rfl | h
          · exact fb1
          · exact fb6
          · exact m16.ns h
        · exact fb8
        · exact m18.ns h
      have r9 : EvsP m L H19 b9 (es.take sp ++ [oddE e k] ++ es.drop (sp + 1)) := by
        refine ⟨_, fb9, tb9, ?_⟩
        rw [List.map_append, List.map_append, List.map_take, List.map_drop]
        exact ((DqL.take (husi.same si9)).app (.one (dOdd.same ((s16.trans s17).trans (s18.trans s19))))).app (DqL.drop (husi.same si9))
      have hq19 := si9 _ _ hqi
      refine ⟨q0, _, _, rfl, rfl, hq19, lt_size (by show 5 ≤ 5000; omega), ?_⟩
      generalize hH20 : upd H19 q0 (.lst ([V.ref p1, V.ref p2, V.ref p4, V.ref p5, V.ref p6] ++ [V.ref b9])) = H20
      have up20 : ∀ b o, b ≠ q0 → H19 b = some o → H20 b = some o := fun b o hb h => by rw [← hH20, upd_ne hb]; exact h
      have hq20 : H20 q0 = some (.lst [V.ref p1, V.ref p2, V.ref p4, V.ref p5, V.ref p6, V.ref b9]) := by rw [← hH20, upd_same]; rfl
      have m20 : Sd K m L (n + 100 + 1 + 1) H20 := m19.off hq19 (fun o v z => by cases z) fq.1 fq.2 up20
      have kk20 : Kp m L H H20 := fun b o h1 h2 h => up20 b o (ne_of_none h q0n) ((kki.trans (.of_same si9)) b o h1 h2 h)
      have t20 : KN.TuK H19 H20 := .off hq19 (fun o xs z => by cases z) up20
      have k819 : Kp m L H8 H19 := (k9.trans ka).trans (.of_same (sai.trans si9))
      have R20 : RowsP m L H20 [(p1, []), (p2, fs2), (p4, es ++ fs3), (p5, fs5), (p6, es.reverse), (b9, es.take sp ++ [oddE e k] ++ es.drop (sp + 1))] := fun r hr => by
        have old : ∀ r ∈ [(p1, []), (p2, fs2), (p4, es ++ fs3), (p5, fs5), (p6, es.reverse)], EvsP m L H20 r.1 r.2 ∧ (∀ e ∈ r.2, EvS e) ∧ r.2.length ≤ 60 := fun r hr => ⟨((R8 r hr).1.kp k819).tk t20, (R8 r hr).2⟩
        simp only [List.mem_cons, List.mem_nil_iff, or_false] at hr
        rcases hr with rfl | rfl | rfl | rfl | rfl | rfl
        · exact old _ (by simp)
        · exact old _ (by simp)
        · exact old _ (by simp)
        · exact old _ (by simp)
        · exact old _ (by simp)
        · refine ⟨r9.tk t20, fun x hx => ?_, ?_⟩
          · rcases List.mem_append.mp hx with hx | hx
            · rcases List.mem_append.mp hx with hx | hx
              · exact hok x (List.mem_of_mem_take hx)
              · rw [List.mem_singleton] at hx
                rw [hx]
                exact odd_ok gE hk7
            · exact hok x (List.mem_of_mem_drop hx)
          · show (es.take sp ++ [oddE e k] ++ es.drop (sp + 1)).length ≤ 60
            rw [List.length_append, List.length_append, List.length_take, List.length_drop]
            show min sp es.length + 1 + (es.length - (sp + 1)) ≤ 60
            omega
      have hp20 := hp.kp fp kk20
      refine ⟨_, rfl, _, rfl, p, us, rfl, .inr hp20.sq, m, L, ((us.length : Nat) : Int), n + 100 + 1 + 1, rfl, by omega, by omega, by omega, m20, fun fr H21 fr0 fr1 k21 m21 => ?_⟩
      obtain ⟨fr, rfl⟩ := Int.eq_ofNat_of_zero_le fr0
      have kk21 := kk20.trans k21
      refine ⟨_, rfl, _, rfl, m, L, p, n + 100 + 1 + 1 + 1, es, rfl, by omega, m21, hE.kp kk21, by omega, fun e he => (hok e he).ok, fun p9 fs9 H22 k22 m22 l9 i9 r22 n9 => ?_⟩
      obtain ⟨us9, fp9, hp9, hus9⟩ := r22
      have hu9l := hus9.len
      rw [List.length_map] at hu9l
      refine ⟨p9, us9, rfl, .inr hp9.sq, fun sw H23 s23 nsw _ hsw => ?_⟩
      have m23 := m22.same s23
      have kk22 := kk21.trans k22
      have kk23 := kk22.trans (.of_same s23)
      have fsw := m22.ns nsw
      have swn : H sw = none := kk22.free fsw.1 fsw.2 nsw
      have hfr : fr < us9.length := by omega
      have hsp9 : sp < us9.length := by omega
      have gfr : us9[fr]? = some us9[fr] := List.getElem?_eq_getElem hfr
      have gsp : us9[sp]? = some us9[sp] := List.getElem?_eq_getElem hsp9
      obtain ⟨efr, hefr, dfr⟩ := ev_atF hus9 gfr
      obtain ⟨esp, hesp, dsp⟩ := ev_atF hus9 gsp
      refine ⟨_, rfl, _, rfl, sw, _, _, us9[fr], rfl, rfl, .inl (.inl hsw), atI_nat gfr, _, rfl, _, rfl, sw, _, _, us9[sp], rfl, rfl, .inl (.inl hsw), atI_nat gsp, by show 2 ≤ 5000; omega, fun pt H24 s24 npt tpt => ?_⟩
      have hsw24 := s24 _ _ hsw
      refine ⟨pt, _, rfl, tpt.sq, rfl, _, _, rfl, ?_⟩
      refine ⟨_, rfl, _, rfl, sw, us9, _, sp, rfl, rfl, hsw24, ixN_j hsp9, ?_⟩
      refine ⟨_, _, rfl, _, rfl, _, rfl, sw, us9.set sp us9[fr], _, fr, rfl, rfl, upd_same, ixN_j (by rw [List.length_set]; exact hfr), rfl, ?_⟩
      rw [upd_upd]
      generalize hH25 : upd H24 sw (.lst ((us9.set sp us9[fr]).set fr us9[sp])) = H25
      have up25 : ∀ b o, b ≠ sw → H24 b = some o → H25 b = some o := fun b o hb h => by rw [← hH25, upd_ne hb]; exact h
      have hsw25 : H25 sw = some (.lst ((us9.set sp us9[fr]).set fr us9[sp])) := by rw [← hH25, upd_same]
      have m24 := m23.same s24
      have m25 : Sd K m L (n + 100 + 1 + 1 + 1 + 100) H25 := m24.off hsw24 (fun o v z => by cases z) fsw.1 fsw.2 up25
      have t25 : KN.TuK H24 H25 := .off hsw24 (fun o xs z => by cases z) up25
      have kk24 := kk23.trans (.of_same s24)
      have kk25 : Kp m L H H25 := fun b o h1 h2 h => up25 b o (ne_of_none h swn) (kk24 b o h1 h2 h)
      have k2024 : Kp m L H20 H24 := (k21.trans k22).trans (.of_same (s23.trans s24))
      have hq24 : H24 q0 = some (.lst [V.ref p1, V.ref p2, V.ref p4, V.ref p5, V.ref p6, V.ref b9]) := k2024 _ _ fq.1 fq.2 hq20
      have hq22 : H22 q0 = some (.lst [V.ref p1, V.ref p2, V.ref p4, V.ref p5, V.ref p6, V.ref b9]) := (k21.trans k22) _ _ fq.1 fq.2 hq20
      have hq25 := up25 _ _ (ne_of_none hq22 nsw) hq24
      have d9 : DqL (Fs m L) H25 (((fs9.set sp efr).set fr esp).map Ev.d) ((us9.set sp us9[fr]).set fr us9[sp]) := by
        rw [List.map_set, List.map_set]
        have a1 := ((hus9.same (s23.trans s24)).set_ sp (dfr.same (s23.trans s24))).set_ fr (dsp.same (s23.trans s24))
        rw [← List.map_set, ← List.map_set] at a1 ⊢
        exact evL_tk t25 a1
      refine ⟨_, rfl, _, rfl, sw, _, rfl, .inl (.inl hsw25), fun p10 H26 s26 np10 tp10 => ?_⟩
      have m26 := m25.same s26
      have r26 : EvsP m L H26 p10 ((fs9.set sp efr).set fr esp) := ⟨_, m25.ns np10, tp10, d9.same s26⟩
      refine ⟨by show 1 ≤ 5000; omega, fun q2 H27 s27 nq2 hq2 => ?_⟩
      refine ⟨q0, q2, _, _, rfl, rfl, (s26.trans s27) _ _ hq25, hq2, by show 6 + 1 ≤ 5000; omega, fun q3 H28 s28 nq3 hq3 => ?_⟩
      have s2628 : Same H25 H28 := (s26.trans s27).trans s28
      have kk27 := kk25.trans (.of_same (s26.trans s27))
      have m27 := m26.same s27
      have fq3 := m27.ns nq3
      have memE : ∀ x ∈ (fs9.set sp efr).set fr esp, x ∈ es := fun x hx => by
        rcases List.mem_or_eq_of_mem_set hx with hx | rfl
        · rcases List.mem_or_eq_of_mem_set hx with hx | rfl
          · exact i9 x hx
          · exact i9 _ (List.mem_of_getElem? hefr)
        · exact i9 _ (List.mem_of_getElem? hesp)
      refine q q3 [(p1, []), (p2, fs2), (p4, es ++ fs3), (p5, fs5), (p6, es.reverse), (b9, es.take sp ++ [oddE e k] ++ es.drop (sp + 1)), (p10, (fs9.set sp efr).set fr esp)] H28 (kk25.trans (.of_same s2628)) ((m27.same s28).le (by omega)) (kk27.free fq3.1 fq3.2 nq3) fq3 hq3 (by show 7 ≤ 10; omega) ?_
      have R28 : RowsP m L H28 [(p1, []), (p2, fs2), (p4, es ++ fs3), (p5, fs5), (p6, es.reverse), (b9, es.take sp ++ [oddE e k] ++ es.drop (sp + 1))] := fun r hr => ⟨(((R20 r hr).1.kp k2024).tk t25).kp (.of_same s2628), (R20 r hr).2⟩
      intro r hr
      simp only [List.mem_cons, List.mem_nil_iff, or_false] at hr
      rcases hr with rfl | rfl | rfl | rfl | rfl | rfl | rfl
      · exact R28 _ (by simp)
      · exact R28 _ (by simp)
      · exact R28 _ (by simp)
      · exact R28 _ (by simp)
      · exact R28 _ (by simp)
      · exact R28 _ (by simp)
      · exact ⟨r26.kp (.of_same (s27.trans s28)), fun x hx => hok x (memE x hx), by show ((fs9.set sp efr).set fr esp).length ≤ 60; rw [List.length_set, List.length_set]; omega⟩
end
end LW

set_option Elab.async false
set_option linter.all false
set_option maxRecDepth 100000
set_option maxHeartbeats 4000000
/-! the law: events by their lanes, rising -/
namespace LW
open PySem PySem.Spec PyProof.Rows L2
abbrev BB : Int := 100001
def whoL (e : Ev) : List Int := [e.g, e.l]
def keyL (k : List Int) : NestedKey := .tup (k.map NestedKey.num)
theorem keyL_who (e : Ev) : keyL (whoL e) = whoK e := rfl
/-- the lanes of some events, rising -/
structure LanesOk (es : List Ev) (ks : List (List Int)) : Prop where
  up : ks.Pairwise fun a b => TS.code BB a < TS.code BB b
  at_ : ∀ k, k ∈ ks ↔ ∃ e ∈ es, whoL e = k
/-- lists of events, lane by lane -/
def LanesAt (H : Hp) (q : Addr) (es : List Ev) (ks : List (List Int)) : Prop := ∃ qs : List Addr, H q = some (.lst (qs.map V.ref)) ∧ Paired (fun (a : Addr) (k : List Int) => ∃ vs, H a = some (.lst vs) ∧ DtL H ((lane es (keyL k)).map Ev.d) vs) qs ks
theorem LanesAt.same {H H' : Hp} {q : Addr} {es : List Ev} {ks : List (List Int)} (h : LanesAt H q es ks) (s : Same H H') : LanesAt H' q es ks := by
  obtain ⟨qs, h1, h2⟩ := h
  exact ⟨qs, s _ _ h1, Paired.mapP h2 fun a k ⟨vs, g1, g2⟩ => ⟨vs, s _ _ g1, DqL.same g2 s⟩⟩
def lanesD (es : List Ev) (ks : List (List Int)) : PyData := .list (ks.map fun k => .list ((lane es (keyL k)).map Ev.d))
theorem LanesAt.dp {K : PySem.W.Frag} {H : Hp} {q : Addr} {es : List Ev} {ks : List (List Int)} (h : LanesAt H q es ks) (ok : ∀ e ∈ es, EvOk e) : Dp K H (.ref q) (lanesD es ks) := by
  obtain ⟨qs, h1, h2⟩ := h
  refine .lst (.inl (.inl h1)) ?_
  clear h1
  induction h2 with
  | nil => exact .nil
  | @cons a k qs ks hh t ih =>
    obtain ⟨vs, g1, g2⟩ := hh
    have ff : fineL ((lane es (keyL k)).map Ev.d) = true := fine_lane ok (keyL k)
    exact .cons (.lst (.inl (.inl g1)) (fineL_dp ff g2)) ih
theorem code2 {a b c d : Int} (ha : 0 ≤ a ∧ a < BB) (hb : 0 ≤ b ∧ b < BB) (hc : 0 ≤ c ∧ c < BB) (hd : 0 ≤ d ∧ d < BB) (h : TS.code BB [a, b] = TS.code BB [c, d]) : [a, b] = [c, d] := by
  have e : ∀ x y : Int, TS.code BB [x, y] = x * BB + y := fun x y => by
    show x * BB ^ 1 + (y * BB ^ 0 + 0) = _
    rw [show (BB : Int) ^ 1 = BB from rfl, show (BB : Int) ^ 0 = 1 from rfl, Int.mul_one, Int.add_zero]
  rw [e, e] at h
  have h1 : a = c := by
    show a = c
    unfold BB at h ha hb hc hd
    omega
  have h2 : b = d := by
    unfold BB at h ha hb hc hd
    omega
  rw [h1, h2]
section
variable {P : Program} {w : World} {K : PySem.W.Frag} {mg : Str → Option Value} {base : Heap}
def rSetW (X : Cx) : List V → Hp → VK → Prop := fun xs H Q => ∃ (l : Addr) (ks : List (Addr × List Int)), xs = [V.ref l] ∧ SqL X.K H l (ks.map fun p => V.ref p.1) ∧ (∀ p ∈ ks, SqT X.K H p.1 (p.2.map V.int)) ∧ ks.length < 64 ∧
  ∀ a L H', Same H H' → H a = none → H' a = some (SetTO X.prog X.w a L) → (∀ p ∈ L, p ∈ ks) → (∀ p ∈ ks, p.2 ∈ L.map (·.2)) → Q (.ref a) H'
theorem cr_setW {X : Cx} (hc : X.calm = true) (hu : X.A.units + 64 < cLine) : CallR X (.type "set") (rSetW X) := KW.CallR.weak (cr_setOfT hc hu) fun xs H Q ⟨l, ks, e, h1, h2, h3, q⟩ => ⟨l, ks, e, h1, h2, h3, fun a L na g1 g2 => q a L _ (same_upd na) na upd_same g1 g2⟩
def rSortW (X : Cx) : List V → Hp → VK → Prop := fun vs H Q => ∃ (a : Addr) (L : List (Addr × List Int)) (d : Nat) (B : Int), vs = [V.ref a] ∧ H a = some (SetTO X.prog X.w a L) ∧ (∀ p ∈ L, SqT X.K H p.1 (p.2.map V.int)) ∧ 1 ≤ d ∧ (∀ p ∈ L, p.2.length = d ∧ TS.Bd B p.2) ∧
  ∀ (L' : List (Addr × List Int)) (p : Addr) (H' : Hp), Same H H' → H' p = some (.lst (L'.map fun q => V.ref q.1)) → L'.Perm L → (L'.map (·.2)).Nodup → L'.length < 64 → L'.Pairwise (fun q r => TS.code B q.2 ≤ TS.code B r.2) → H p = none → Q (.ref p) H'
theorem cr_sortW {X : Cx} (hc : X.calm = true) : CallR X (.builtin "sorted") (rSortW X) := KW.CallR.weak (cr_sortedT hc) fun xs H Q ⟨a, L, d, B, e, h1, h2, h3, h4, q⟩ => ⟨a, L, d, B, e, h1, h2, h3, h4, fun L' p g1 g2 g3 g4 np => q L' p _ (same_upd np) upd_same g1 g2 g3 g4 np⟩
def scWho : Scope := { kind := .function, names := [(".0", .local), ("who", .cell), ("some", .cell)], isGenerator := false, isCoroutine := false }
def spByLanes : Sp := fun vs H Q _ => ∃ (p : Addr) (es : List Ev), vs = [.ref p] ∧ EvsAt H p es ∧ es.length ≤ 60 ∧ (∀ e ∈ es, EvS e) ∧ ∀ (q : Addr) (ks : List (List Int)) (H' : Hp), Same H H' → LanesOk es ks → LanesAt H' q es ks → Q (.ref q) H'
theorem ok_by_lanes (T : TxL K mg) : FnOk P w K mg base CX0 1 T._law_by_lanes.f T._law_by_lanes.d ["some"] spByLanes := by
  refine T._law_by_lanes.F.ok sc__law_by_lanes (fun vs H Q E h => ?_) (fun cdv A outer s0 H vs Q E hr h => ?_)
  · obtain ⟨p, es, rfl, _⟩ := h
    rfl
  · obtain ⟨p, es, rfl, ⟨us, hp, hus⟩, hel, hok, q⟩ := h
    refine ⟨_, (pss_cons (ps_set (i := 1) sc__law_by_lanes.nd rfl (.inl rfl) (pe_callB (cr_sortW rfl) (by rfl) T.n_sorted (by decide +kernel) (pa_cons (pe_callTy (cr_setW rfl hr.units) (by rfl) T.n_set (by decide +kernel) (pa_cons (pe_lc (own := [("event", 2)]) (g := gName 2) (tt := tYes) rfl sc__law_by_lanes.nd (pi_tup (pv 0)) (blkOk_by (N := ["some", "lanes", "event", "who"]) (sc := (defScope s__law_by_lanes)) (by decide +kernel)) (fun _ _ _ _ _ => (pg_name (i := 2) sc__law_by_lanes.nd rfl (.inl rfl))) (fun _ _ _ _ _ => pts_nil) (fun _ _ _ _ _ => (pe_ix (r := rIxT K) ix_tup (pv 2) pe_int (fun _ _ => rfl)))) pa_nil)) pa_nil)))
      (pss_one (ps_ret (pe_lc (own := [("who", 3)]) (g := gName 3) (tt := tYes) rfl sc__law_by_lanes.nd (pi_list (pv 1)) (blkOk_by (N := ["some", "lanes", "event", "who"]) (sc := (defScope s__law_by_lanes)) (by decide +kernel)) (fun _ _ _ _ _ => (pg_name (i := 3) sc__law_by_lanes.nd rfl (.inr rfl))) (fun _ _ _ _ _ => pts_nil) (fun _ _ _ _ _ => (pe_lc (own := [("event", 2)]) (wi := iTup K (tVar 0)) (g := gName 2) (tt := tTest (tOp (rEqD K) (tOp (rIxT K) (tVar 2) (tC (V.int 0))) (tVar 3))) (te := tVar 2) rfl sc__law_by_lanes.nd (pi_tup (pv 0)) (blkOk_by (N := ["some", "lanes", "event", "who"]) (sc := scWho) (by decide +kernel)) (fun _ _ _ _ _ => (pg_name (i := 2) sc__law_by_lanes.nd rfl (.inl rfl))) (fun _ _ _ _ _ => pts_one (pt_cmpR (r := rEqD K) (op_eqD hr.units) (pe_ix (r := rIxT K) ix_tup (pv 2) pe_int (fun _ _ => rfl)) (pv 3) (nomark _))) (fun _ _ _ _ _ => (pv 2)))))))), ?_⟩
    have hul := hus.len
    rw [List.length_map] at hul
    refine ⟨_, rfl, p, rfl, ⟨_, hp.sq⟩, fun D nD => ?_⟩
    refine lc_tup (K := K) (a := p) (xs := us) (fun i H' => Same H H' ∧ ∃ ws : List (Addr × List Int), H' D = some (.lst (ws.map fun r => V.ref r.1)) ∧ (∀ r ∈ ws, Tu H r.1 (r.2.map V.int)) ∧ ws.map (·.2) = (es.take i).map whoL) ⟨same_upd nD, [], upd_same, (fun r hr => nomatch hr), rfl⟩ (fun i H' hi h => (hp.same h.1).sq) (fun i x H' hx h => ?_) (fun H1 h => ?_)
    · obtain ⟨sm, ws, hD, hw, hwe⟩ := h
      obtain ⟨e, he, hde⟩ := ev_at hus hx
      have hie : i < es.length := (List.getElem?_eq_some_iff.mp he).1
      obtain ⟨a, wA, pA, c, cs, rfl, _, ha, _, hwA, _⟩ := ev_parts hde
      have hwl : ws.length = i := by
        have := congrArg List.length hwe
        rw [List.length_map, List.length_map, List.length_take] at this
        omega
      refine ⟨rfl, _, rfl, a, _, _, _, rfl, rfl, (ha.same sm).sq, rfl, _, hD, lt_size (by rw [List.length_map]; omega), fun b o h => ?_, ws ++ [(wA, whoL e)], ?_, fun r hr => ?_, ?_⟩
      · rw [upd_ne (ne_of_none h nD)]; exact sm _ _ h
      · rw [upd_same, List.map_append]; rfl
      · rcases List.mem_append.mp hr with hr | hr
        · exact hw r hr
        · rw [List.mem_singleton] at hr
          rw [hr]
          exact hwA
      · rw [List.map_append, hwe, take_snoc he, List.map_append]; rfl
    · obtain ⟨s1, ws, hD, hw, hwe⟩ := h
      rw [List.take_of_length_le (by omega)] at hwe
      have hwl : ws.length = es.length := by
        have := congrArg List.length hwe
        rwa [List.length_map, List.length_map] at this
      refine ⟨D, ws, rfl, .inl (.inl hD), fun r hr => ((hw r hr).same s1).sq, by omega, fun sA L H2 s2 nA hA inL allL => ?_⟩
      have memL : ∀ r ∈ L, ∃ e ∈ es, whoL e = r.2 := fun r hr => by
        have : r.2 ∈ ws.map (·.2) := List.mem_map.mpr ⟨r, inL r hr, rfl⟩
        rw [hwe] at this
        exact List.mem_map.mp this
      have s02 := s1.trans s2
      have bd : ∀ e ∈ es, 0 ≤ e.g ∧ e.g < BB ∧ 0 ≤ e.l ∧ e.l < BB := fun e he => by
        have z := (hok e he).z
        have n := (hok e he).n
        unfold BB
        omega
      have bdL : ∀ r ∈ L, r.2.length = 2 ∧ TS.Bd BB r.2 := fun r hr => by
        obtain ⟨e, he, ee⟩ := memL r hr
        have z := bd e he
        rw [← ee]
        refine ⟨rfl, fun x hx => ?_⟩
        rcases List.mem_cons.mp hx with hx | hx
        · rw [hx]; exact ⟨z.1, z.2.1⟩
        · rw [List.mem_singleton] at hx
          rw [hx]; exact z.2.2
      refine ⟨sA, L, 2, BB, rfl, hA, fun r hr => ((hw r (inL r hr)).same s02).sq, by decide, bdL, fun L' sL H3 s3 hsL perm nd hl64 pw nsL => ?_⟩
      have s03 := s02.trans s3
      have memL' : ∀ r ∈ L', r ∈ L := fun r hr => perm.mem_iff.mp hr
      have lok : LanesOk es (L'.map (·.2)) := by
        refine ⟨?_, fun k => ⟨fun hk => ?_, fun hk => ?_⟩⟩
        · have both : L'.Pairwise fun a b => TS.code BB a.2 < TS.code BB b.2 := by
            have nd' : L'.Pairwise fun a b => a.2 ≠ b.2 := List.pairwise_map.mp nd
            refine List.Pairwise.imp_of_mem (fun {a b} ha hb h => ?_) (List.Pairwise.and pw nd')
            refine Int.lt_iff_le_and_ne.mpr ⟨h.1, fun z => h.2 ?_⟩
            obtain ⟨e, he, ee⟩ := memL a (memL' a ha)
            obtain ⟨f, hf, ff⟩ := memL b (memL' b hb)
            rw [← ee, ← ff] at z ⊢
            have b1 := bd e he
            have b2 := bd f hf
            exact code2 ⟨b1.1, b1.2.1⟩ b1.2.2 ⟨b2.1, b2.2.1⟩ b2.2.2 z
          exact List.pairwise_map.mpr both
        · obtain ⟨r, hr, rfl⟩ := List.mem_map.mp hk
          exact memL r (memL' r hr)
        · obtain ⟨e, he, rfl⟩ := hk
          have m1 : whoL e ∈ ws.map (·.2) := by rw [hwe]; exact List.mem_map.mpr ⟨e, he, rfl⟩
          obtain ⟨r, hr, er⟩ := List.mem_map.mp m1
          have := allL r hr
          rw [er] at this
          obtain ⟨r', hr', er'⟩ := List.mem_map.mp this
          exact List.mem_map.mpr ⟨r', perm.mem_iff.mpr hr', er'⟩
      have hw3 : ∀ r ∈ L', Tu H3 r.1 (r.2.map V.int) := fun r hr => (hw r (inL r (memL' r hr))).same s03
      have oke : ∀ e ∈ es, EvOk e := fun e he => (hok e he).ok
      -- lane by lane
      refine ⟨_, rfl, sL, rfl, ⟨_, .inl (.inl hsL)⟩, fun Q1 nQ1 => ?_⟩
      refine lc_list (K := K) (a := sL) (xs := L'.map fun r => V.ref r.1) (fun i H' => Same H3 H' ∧ ∃ qs : List Addr, H' Q1 = some (.lst (qs.map V.ref)) ∧ (∀ a ∈ qs, a ≠ Q1) ∧ Paired (fun (a : Addr) (k : List Int) => ∃ vs, H' a = some (.lst vs) ∧ DtL H ((lane es (keyL k)).map Ev.d) vs) qs ((L'.map (·.2)).take i)) ⟨same_upd nQ1, [], upd_same, (fun a ha => nomatch ha), .nil⟩ (fun i H' hi h => .inl (.inl (h.1 _ _ hsL))) (fun i x H' hx h => ?_) (fun H' h => ?_)
      · obtain ⟨sm, qs, hQ1, hqn, hpr⟩ := h
        rw [List.getElem?_map] at hx
        obtain ⟨r, hr, rfl⟩ : ∃ r, L'[i]? = some r ∧ V.ref r.1 = x := by
          cases e : L'[i]? with
          | none => rw [e] at hx; cases hx
          | some r => rw [e] at hx; exact ⟨r, rfl, Option.some.inj hx⟩
        have rm := List.mem_of_getElem? hr
        obtain ⟨er, her, eer⟩ := memL r (memL' r rm)
        have s0m := s03.trans sm
        have tr : Tu H' r.1 [.int er.g, .int er.l] := by
          have := (hw3 r rm).same sm
          rw [← eer] at this
          exact this
        refine ⟨rfl, ?_⟩
        refine ⟨_, rfl, p, rfl, ⟨_, (hp.same s0m).sq⟩, fun D2 nD2 => ?_⟩
        have ekr : keyL r.2 = whoK er := by rw [← eer]; rfl
        have lsn : ∀ j e, es[j]? = some e → lane (es.take (j + 1)) (keyL r.2) = if e.g = er.g ∧ e.l = er.l then lane (es.take j) (keyL r.2) ++ [e] else lane (es.take j) (keyL r.2) := fun j e he => by
          rw [take_snoc he, lane_snoc, ekr]
          by_cases c : e.g = er.g ∧ e.l = er.l
          · rw [if_pos c, if_pos ((whoK_eq e er).mpr c)]
          · rw [if_neg c, if_neg fun z => c ((whoK_eq e er).mp z)]
        refine lc_tup (K := K) (a := p) (xs := us) (fun j H'' => Same H' H'' ∧ ∃ vs, H'' D2 = some (.lst vs) ∧ DtL H ((lane (es.take j) (keyL r.2)).map Ev.d) vs) ⟨same_upd nD2, [], upd_same, rfl⟩ (fun j H'' hj h => (hp.same (s0m.trans h.1)).sq) (fun j y H'' hy h => ?_) (fun H'' h => ?_)
        · obtain ⟨sj, vs, hD2, dvs⟩ := h
          obtain ⟨ej, hej, dej⟩ := ev_at hus hy
          obtain ⟨a', wA', pA', cA', cs', rfl, _, ha', _, hw', _⟩ := ev_parts dej
          have sa := s0m.trans sj
          have hvl := dvs.len
          rw [List.length_map] at hvl
          have hll : (lane (es.take j) (keyL r.2)).length ≤ (es.take j).length := List.length_filter_le _ _
          rw [List.length_take] at hll
          refine ⟨rfl, _, rfl, a', _, _, _, rfl, rfl, (ha'.same sa).sq, rfl, _, rfl, whoD ej, whoD er, who_dp (oke ej (List.mem_of_getElem? hej)) (hw'.same sa), who_dp (oke er her) (tr.same sj), who_sh (oke ej (List.mem_of_getElem? hej)), who_sh (oke er her), _, rfl, ?_⟩
          rw [eqv_who]
          have el := lsn j ej hej
          by_cases c : ej.g = er.g ∧ ej.l = er.l
          · rw [decide_eq_true c]
            rw [if_pos c] at el
            refine iteT ⟨_, rfl, vs, hD2, lt_size (by omega), fun b o h => ?_, _, upd_same, ?_⟩
            · rw [upd_ne (ne_of_none h nD2)]; exact sj _ _ h
            · rw [el, List.map_append]
              exact dvs.app (.one dej)
          · rw [decide_eq_false c]
            rw [if_neg c] at el
            exact iteF ⟨sj, vs, hD2, by rw [el]; exact dvs⟩
        · obtain ⟨sj, vs, hD2, dvs⟩ := h
          rw [List.take_of_length_le (by omega)] at dvs
          have hQ2 := sj _ _ hQ1
          have nD2Q : D2 ≠ Q1 := (ne_of_none hQ1 nD2).symm
          have i60 : i < L'.length := (List.getElem?_eq_some_iff.mp hr).1
          have hql := Paired.length hpr
          rw [List.length_take, List.length_map] at hql
          have up : ∀ b o, b ≠ Q1 → H'' b = some o → (upd H'' Q1 (.lst (qs.map V.ref ++ [.ref D2]))) b = some o := fun b o hb h => by rw [upd_ne hb]; exact h
          refine ⟨_, hQ2, lt_size (by rw [List.length_map]; omega), fun b o h => up b o (ne_of_none h nQ1) (sj _ _ (sm _ _ h)), qs ++ [D2], by rw [upd_same, List.map_append]; rfl, fun a ha => ?_, ?_⟩
          · rcases List.mem_append.mp ha with ha | ha
            · exact hqn a ha
            · rw [List.mem_singleton] at ha
              rw [ha]; exact nD2Q
          · have e1 : (L'.map (·.2)).take (i + 1) = (L'.map (·.2)).take i ++ [r.2] := take_snoc (by rw [List.getElem?_map, hr]; rfl)
            rw [e1]
            have old : ∀ {l : List Addr} {k : List (List Int)}, (∀ a ∈ l, a ≠ Q1) → Paired (fun (a : Addr) (k : List Int) => ∃ vs, H' a = some (.lst vs) ∧ DtL H ((lane es (keyL k)).map Ev.d) vs) l k → Paired (fun (a : Addr) (k : List Int) => ∃ vs, (upd H'' Q1 (.lst (qs.map V.ref ++ [.ref D2]))) a = some (.lst vs) ∧ DtL H ((lane es (keyL k)).map Ev.d) vs) l k := by
              intro l k hl hh
              induction hh with
              | nil => exact .nil
              | cons g t ih =>
                obtain ⟨vs, g1, g2⟩ := g
                exact .cons ⟨vs, up _ _ (hl _ (List.mem_cons_self ..)) (sj _ _ g1), g2⟩ (ih fun a ha => hl a (List.mem_cons_of_mem _ ha))
            exact Paired.snoc (old hqn hpr) ⟨vs, up _ _ nD2Q hD2, dvs⟩
      · obtain ⟨sm, qs, hQ1, hqn, hpr⟩ := h
        rw [List.length_map, List.take_of_length_le (by rw [List.length_map]; exact Nat.le_refl _)] at hpr
        exact q Q1 (L'.map (·.2)) H' (s03.trans sm) lok ⟨qs, hQ1, Paired.mapP hpr fun a k ⟨vs, g1, g2⟩ => ⟨vs, g1, DqL.same g2 (s03.trans sm)⟩⟩
end
end LW

set_option Elab.async false
set_option linter.all false
set_option maxRecDepth 100000
set_option maxHeartbeats 4000000
/-! lanes by the law, lanes by the program; how great what is shown is -/
namespace LW
open PySem PySem.Spec PyProof.Rows L2 KN
theorem lane_mem {es : List Ev} {k : List Int} {ks : List (List Int)} (h : LanesOk es ks) : k ∈ ks → ∃ e r, lane es (keyL k) = e :: r ∧ whoL e = k := fun hk => by
  obtain ⟨e, he, ee⟩ := (h.at_ k).mp hk
  have m : e ∈ lane es (keyL k) := List.mem_filter.mpr ⟨he, decide_eq_true (by rw [← ee]; rfl)⟩
  have ne : lane es (keyL k) ≠ [] := fun z => by rw [z] at m; cases m
  obtain ⟨f, r, hf⟩ := List.exists_cons_of_ne_nil ne
  refine ⟨f, r, hf, ?_⟩
  have : f ∈ lane es (keyL k) := by rw [hf]; exact List.mem_cons_self ..
  have w := of_decide_eq_true (List.mem_filter.mp this).2
  have ke : keyL k = whoK e := by rw [← ee]; rfl
  rw [ke] at w
  obtain ⟨w1, w2⟩ := (whoK_eq f e).mp w
  rw [← ee]
  unfold whoL
  rw [w1, w2]
theorem up_unique : ∀ {ks ls : List (List Int)}, ks.Pairwise (fun a b => TS.code BB a < TS.code BB b) → ls.Pairwise (fun a b => TS.code BB a < TS.code BB b) → (∀ k, k ∈ ks ↔ k ∈ ls) → ks = ls
  | [], [], _, _, _ => rfl
  | [], l :: ls, _, _, h => by have := (h l).mpr (List.mem_cons_self ..); cases this
  | k :: ks, [], _, _, h => by have := (h k).mp (List.mem_cons_self ..); cases this
  | k :: ks, l :: ls, h1, h2, h => by
    rw [List.pairwise_cons] at h1 h2
    have e : k = l := by
      rcases List.mem_cons.mp ((h k).mp (List.mem_cons_self ..)) with a | a
      · exact a
      · rcases List.mem_cons.mp ((h l).mpr (List.mem_cons_self ..)) with b | b
        · exact b.symm
        · have c1 := h2.1 k a
          have c2 := h1.1 l b
          omega
    subst e
    have n1 : k ∉ ks := fun z => Int.lt_irrefl _ (h1.1 k z)
    have n2 : k ∉ ls := fun z => Int.lt_irrefl _ (h2.1 k z)
    rw [up_unique h1.2 h2.2 fun x => ?_]
    constructor
    · intro hx
      rcases List.mem_cons.mp ((h x).mp (List.mem_cons_of_mem _ hx)) with a | a
      · exact absurd (a ▸ hx) n1
      · exact a
    · intro hx
      rcases List.mem_cons.mp ((h x).mpr (List.mem_cons_of_mem _ hx)) with a | a
      · exact absurd (a ▸ hx) n2
      · exact a
theorem key_of_ne {es : List Ev} {k : NestedKey} (h : lane es k ≠ []) : ∃ e ∈ es, whoK e = k := by
  obtain ⟨e, r, he⟩ := List.exists_cons_of_ne_nil h
  have : e ∈ lane es k := by rw [he]; exact List.mem_cons_self ..
  exact ⟨e, (List.mem_filter.mp this).1, of_decide_eq_true (List.mem_filter.mp this).2⟩
theorem maps_same {es fs : List Ev} : ∀ {ks ls : List (List Int)}, (∀ {k}, k ∈ ks → ∃ e r, lane es (keyL k) = e :: r ∧ whoL e = k) → (∀ {k}, k ∈ ls → ∃ e r, lane fs (keyL k) = e :: r ∧ whoL e = k) → ks.map (fun k => lane es (keyL k)) = ls.map (fun k => lane fs (keyL k)) → ks = ls ∧ ∀ k ∈ ks, lane es (keyL k) = lane fs (keyL k) := by
  intro ks ls
  induction ks generalizing ls with
  | nil =>
    intro _ _ h
    cases ls with
    | nil => exact ⟨rfl, fun k hk => nomatch hk⟩
    | cons _ _ => cases h
  | cons k ks ih =>
    intro a b h
    cases ls with
    | nil => cases h
    | cons l ls =>
      injection h with h1 h2
      have h1 : lane es (keyL k) = lane fs (keyL l) := h1
      obtain ⟨e, r, e1, e2⟩ := a (List.mem_cons_self (a := k) (l := ks))
      obtain ⟨f, s, f1, f2⟩ := b (List.mem_cons_self (a := l) (l := ls))
      have ef : e = f := by
        have h3 := h1
        rw [e1, f1] at h3
        injection h3
      have kl : k = l := by rw [← e2, ← f2, ef]
      subst kl
      obtain ⟨i1, i2⟩ := ih (fun hk => a (List.mem_cons_of_mem _ hk)) (fun hk => b (List.mem_cons_of_mem _ hk)) h2
      refine ⟨by rw [i1], fun x hx => ?_⟩
      rcases List.mem_cons.mp hx with hx | hx
      · rw [hx]; exact h1
      · exact i2 x hx
theorem lanes_iff {es fs : List Ev} {ks ls : List (List Int)} (h : LanesOk es ks) (g : LanesOk fs ls) : ks.map (fun k => lane es (keyL k)) = ls.map (fun k => lane fs (keyL k)) ↔ ∀ k, lane es k = lane fs k := by
  constructor
  · intro m k
    obtain ⟨e1, e2⟩ := maps_same (lane_mem h) (lane_mem g) m
    by_cases c : lane es k = []
    · by_cases d : lane fs k = []
      · rw [c, d]
      · obtain ⟨f, hf, rfl⟩ := key_of_ne d
        have : whoL f ∈ ls := (g.at_ _).mpr ⟨f, hf, rfl⟩
        exact e2 _ (e1 ▸ this)
    · obtain ⟨e, he, rfl⟩ := key_of_ne c
      exact e2 _ ((h.at_ _).mpr ⟨e, he, rfl⟩)
  · intro m
    have e : ks = ls := by
      refine up_unique h.up g.up fun k => ?_
      rw [h.at_, g.at_]
      have go : ∀ {xs ys : List Ev}, (∀ k, lane xs k = lane ys k) → (∃ e ∈ xs, whoL e = k) → ∃ e ∈ ys, whoL e = k := fun {xs ys} mm ⟨e, he, ee⟩ => by
        have i : e ∈ lane xs (whoK e) := List.mem_filter.mpr ⟨he, decide_eq_true rfl⟩
        rw [mm] at i
        exact ⟨e, (List.mem_filter.mp i).1, ee⟩
      exact ⟨go m, go fun k => (m k).symm⟩
    rw [e]
    exact List.map_congr_left fun k _ => m (keyL k)
theorem lists_inj : ∀ {xs ys : List (List Ev)}, xs.map (fun l => PyData.list (l.map Ev.d)) = ys.map (fun l => PyData.list (l.map Ev.d)) → xs = ys
  | [], [], _ => rfl
  | [], _ :: _, h => by cases h
  | _ :: _, [], h => by cases h
  | x :: xs, y :: ys, h => by
    injection h with h1 h2
    have h1 : PyData.list (x.map Ev.d) = PyData.list (y.map Ev.d) := h1
    injection h1 with h1
    rw [ds_inj h1, lists_inj h2]
theorem lanesD_fine {es : List Ev} {ks : List (List Int)} (h : ∀ e ∈ es, EvOk e) : fine (lanesD es ks) = true := by
  show fineL _ = true
  rw [fineL_mem]
  intro d hd
  obtain ⟨k, _, rfl⟩ := List.mem_map.mp hd
  exact fine_lane h (keyL k)
theorem lanesD_depth (es : List Ev) (ks : List (List Int)) : (lanesD es ks).depth ≤ 4 := by
  unfold lanesD
  simp only [PyData.depth]
  have := depthA_le (n := 3) (ds := ks.map fun k => PyData.list ((lane es (keyL k)).map Ev.d)) fun d hd => by
    obtain ⟨k, _, rfl⟩ := List.mem_map.mp hd
    simp only [PyData.depth]
    have := depthA_le (n := 2) (ds := (lane es (keyL k)).map Ev.d) fun d hd => by
      obtain ⟨e, _, rfl⟩ := List.mem_map.mp hd
      exact depth_ev e
    omega
  omega
/-- both looks at the lanes tell the same -/
theorem lanes_eqv {es fs : List Ev} {ks ls : List (List Int)} (h : LanesOk es ks) (g : LanesOk fs ls) (oe : ∀ e ∈ es, EvOk e) (of' : ∀ e ∈ fs, EvOk e) : PyData.eqv (lanesD es ks) (lanesD fs ls) = eqN (rowsD es) (rowsD fs) := by
  rw [Bool.eq_iff_iff, eqN_lanes oe of', eqv_dec (lanesD_fine oe) (lanesD_fine of'), ← lanes_iff h g]
  unfold lanesD
  constructor
  · intro e
    injection e with e
    refine lists_inj ?_
    rw [List.map_map, List.map_map]
    exact e
  · intro e
    have := congrArg (fun l => PyData.list (l.map fun l : List Ev => PyData.list (l.map Ev.d))) e
    simpa [List.map_map, Function.comp_def] using this
theorem eqN_symm {es fs : List Ev} (oe : ∀ e ∈ es, EvOk e) (of' : ∀ e ∈ fs, EvOk e) : eqN (rowsD es) (rowsD fs) = eqN (rowsD fs) (rowsD es) := by
  rw [Bool.eq_iff_iff, eqN_lanes oe of', eqN_lanes of' oe]
  exact ⟨fun h k => (h k).symm, fun h k => (h k).symm⟩
/-! how great -/
theorem okS_sx {z : Str} (h : okS z = true) : Sx (.str z) 12 0 := by
  unfold okS at h
  rw [Bool.and_eq_true, decide_eq_true_iff] at h
  exact sx_str h.1 (by decide) fun c hc => of_decide_eq_true (List.all_eq_true.mp h.2 c hc)
theorem sx_small {i : Int} (h : i.natAbs ≤ 100000) : Sx (.int i) 60 0 := sx_int (Nat.lt_of_le_of_lt h (by decide))
theorem ints_sx : ∀ {ns : List Int}, (∀ x ∈ ns, x.natAbs ≤ 100000) → SxL (ns.map PyData.int) (ns.length * 61) 0
  | [], _ => sx_nil
  | n :: ns, h => (sx_cons (sx_small (h n (List.mem_cons_self ..))) (ints_sx fun x hx => h x (List.mem_cons_of_mem _ hx))).le (by rw [List.length_cons]; omega) (by omega)
theorem ev_sx {e : Ev} (h : EvS e) : Sx e.d 600 2 := by
  have hw : Sx (whoD e) 122 1 := (sx_tup (sx_cons (sx_small h.n.1) (sx_cons (sx_small h.n.2.1) sx_nil))).le (by omega) (by omega)
  have hp : Sx (.tuple [.int e.p]) 61 1 := (sx_tup (sx_cons (sx_small h.n.2.2.2.1) sx_nil)).le (by omega) (by omega)
  have hc : Sx (intsD e.cell) 122 1 := (sx_tup (ints_sx h.c.2)).le (by have := h.c.1; omega) (by omega)
  exact (sx_tup (sx_cons hw (sx_cons (sx_small h.n.2.2.1) (sx_cons hp (sx_cons (okS_sx h.k) (sx_cons (okS_sx h.m) (sx_cons hc (sx_cons (sx_small h.n.2.2.2.2) sx_nil)))))))).le (by omega) (by omega)
theorem evs_sx {es : List Ev} (h : ∀ e ∈ es, EvS e) : Sx (.tuple (es.map Ev.d)) (es.length * 601) 3 := by
  have := sx_tup (sx_all (r := es.map Ev.d) (w := 600) (d := 2) fun x hx => by
    obtain ⟨e, he, rfl⟩ := List.mem_map.mp hx
    exact ev_sx (h e he))
  rw [List.length_map] at this
  exact this
theorem firstC_mem (nm : List Str) : ∀ (es done : List Ev) {a b : Ev}, firstC nm done es = some (a, b) → a ∈ done ++ es ∧ b ∈ done ++ es
  | [], _, a, b, h => by cases h
  | e :: es, done, a, b, h => by
    have h' : (match done.find? (fun f => clashB nm f e) with | some f => some (f, e) | none => firstC nm (done ++ [e]) es) = some (a, b) := h
    cases c : done.find? (fun f => clashB nm f e) with
    | some f =>
      rw [c] at h'
      cases h'
      exact ⟨List.mem_append.mpr (.inl (List.mem_of_find?_eq_some c)), List.mem_append.mpr (.inr (List.mem_cons_self ..))⟩
    | none =>
      rw [c] at h'
      have := firstC_mem nm es (done ++ [e]) h'
      rw [List.append_assoc] at this
      exact this
theorem res_sx {nm : List Str} {es : List Ev} (h : ∀ e ∈ es, EvS e) : Sx (resD (firstC nm [] es)) 1300 3 := by
  cases c : firstC nm [] es with
  | none => exact sx_non.le (by omega) (by omega)
  | some p =>
    obtain ⟨a, b⟩ := p
    obtain ⟨h1, h2⟩ := firstC_mem nm es [] c
    exact (sx_tup (sx_cons (ev_sx (h a h1)) (sx_cons (ev_sx (h b h2)) sx_nil))).le (by omega) (by omega)
end LW

set_option Elab.async false
set_option linter.all false
set_option maxRecDepth 100000
set_option maxHeartbeats 4000000
/-! the law's look at a row of events -/
namespace LW
open PySem PySem.Spec PyProof.Rows L2
section
variable {K : PySem.W.Frag} {f : Addr} {fd : FuncData}
theorem kbn_moved (F : Fun K "words_moved" "words_moved" s_words_moved f fd) : KBn K fd ["kernel", "events"] 0 ["events", "kernel"] (fun _ ws => ws.reverse) (fun _ zs => zs.reverse) := by
  obtain ⟨oc, od, kV, doc, pm, an, cdv, ct, osl, rfl, lk, hcd⟩ := F.ex
  exact ⟨fun s us ws _ h1 h2 => match us, ws, h1, h2 with | [], [_, _], _, _ => .of_eq rfl, fun r1 r2 => r2.reverse⟩
theorem kbn_clash (F : Fun K "clash_of" "clash_of" s_clash_of f fd) : KBn K fd ["kernel", "events"] 0 ["events", "kernel"] (fun _ ws => ws.reverse) (fun _ zs => zs.reverse) := by
  obtain ⟨oc, od, kV, doc, pm, an, cdv, ct, osl, rfl, lk, hcd⟩ := F.ex
  exact ⟨fun s us ws _ h1 h2 => match us, ws, h1, h2 with | [], [_, _], _, _ => .of_eq rfl, fun r1 r2 => r2.reverse⟩
theorem kbn_clean (F : Fun K "is_clean" "is_clean" s_is_clean f fd) : KBn K fd ["kernel", "events"] 0 ["events", "kernel"] (fun _ ws => ws.reverse) (fun _ zs => zs.reverse) := by
  obtain ⟨oc, od, kV, doc, pm, an, cdv, ct, osl, rfl, lk, hcd⟩ := F.ex
  exact ⟨fun s us ws _ h1 h2 => match us, ws, h1, h2 with | [], [_, _], _, _ => .of_eq rfl, fun r1 r2 => r2.reverse⟩
theorem kbn_order (F : Fun K "one_order" "one_order" s_one_order f fd) : KBn K fd ["events", "others"] 0 ["others", "events"] (fun _ ws => ws.reverse) (fun _ zs => zs.reverse) := by
  obtain ⟨oc, od, kV, doc, pm, an, cdv, ct, osl, rfl, lk, hcd⟩ := F.ex
  exact ⟨fun s us ws _ h1 h2 => match us, ws, h1, h2 with | [], [_, _], _, _ => .of_eq rfl, fun r1 r2 => r2.reverse⟩
end
/-- what is fine and small is shown -/
structure Rq (d : PyData) : Prop where
  nd : d.hasDict = false
  sh : d.showable = true
  dp : d.depth ≤ 60
  sz : d.shown.length ≤ sizeLine
theorem Sx.rq {d : PyData} {wt dp : Nat} (h : Sx d wt dp) (hw : wt ≤ 100000) (hd : dp ≤ 60) : Rq d := ⟨PyData.hasDict_of_canLay d (fine_lay h.f).1, h.fd.sh, Nat.le_trans h.d hd, h.fd.fits hw⟩
theorem rq_bl (b : Bool) : Rq (.bool b) := ⟨by simp only [PyData.hasDict], (KX.fd_bl (b := b)).sh, Nat.le_trans (KX.fd_bl (b := b)).d (by decide), (KX.fd_bl (b := b)).fits (by decide)⟩
theorem dl_of {K : PySem.W.Frag} {H : Hp} {p : Addr} {ds : List PyData} {ws : List V} (h : H p = some (.lst ws)) (g : DpAll K H ws ds) : Dp K H (.ref p) (.list ds) := .lst (.inl (.inl h)) g
section
variable {P : Program} {w : World} {K : PySem.W.Frag} {mg : Str → Option Value} {base : Heap}
def spRow (K : PySem.W.Frag) : Sp := fun vs H Q _ => ∃ (m L p : Addr) (v : V) (n : Int) (x y z : PyData) (ns : List (Str × List PyData)) (es : List Ev), vs = [.ref m, v, .ref p] ∧ n ≤ 700000 ∧ Sd K m L n H ∧ Dq (Fs m L) H (kernD x y ns z) v ∧ Sx (kernD x y ns z) 3000 8 ∧ ns.length ≤ 100 ∧
  EvsP m L H p es ∧ es.length ≤ 30 ∧ (∀ e ∈ es, EvG e) ∧ ∀ (H' : Hp), Kp m L H H' → Sd K m L (n + 300) H' → Q (.bl true) H'
theorem ok_row (T : TxL K mg) : KG.FnG P w K mg base 6 T._law_row_right.f T._law_row_right.d ["m", "kern", "some"] (spRow K) := by
  have G_law_first_clash : FnOk P w K mg base CX0 3 T._law_first_clash.f T._law_first_clash.d ["kern", "some"] spLFirst := ok_lfirst T
  have G_clash_of : FnOk P w K mg base CX0 4 T.clash_of.f T.clash_of.d ["kernel", "events"] (spClash P w) := ok_clash T
  have G_is_clean : FnOk P w K mg base CX0 5 T.is_clean.f T.is_clean.d ["kernel", "events"] (spClean P w) := ok_clean T
  have G_law_is_near : FnOk P w K mg base CX0 1 T._law_is_near.f T._law_is_near.d ["kern", "name"] spIsNear := ok_is_near T
  have G_words_moved : FnOk P w K mg base CX0 2 T.words_moved.f T.words_moved.d ["kernel", "events"] spMoved := ok_moved T
  have G_law_others : FnOk P w K mg base CX0 3 T._law_others.f T._law_others.d ["m", "some"] (spOthers K) := ok_others T
  have G_law_by_lanes : FnOk P w K mg base CX0 1 T._law_by_lanes.f T._law_by_lanes.d ["some"] spByLanes := ok_by_lanes T
  have G_one_order : FnOk P w K mg base CX0 2 T.one_order.f T.one_order.d ["events", "others"] spOrder := ok_order T
  refine KG.FnG.of T._law_row_right.F sc__law_row_right (fun vs H Q E h => ?_) (fun cdv Ar outer s0 H vs Q E hr hg0 h => ?_)
  · obtain ⟨m, L, p, v, n, x, y, z, ns, es, rfl, _⟩ := h
    rfl
  · obtain ⟨m, L, p, v, n, x, y, z, ns, es, rfl, hn, hS, hv, hkx, hns, hE, hel, hG, q⟩ := h
    have r_law_first_clash := hr.mono (show 3 ≤ 5 by decide)
    have r_clash_of := hr.mono (show 4 ≤ 5 by decide)
    have r_is_clean := hr
    have r_law_is_near := hr.mono (show 1 ≤ 5 by decide)
    have r_words_moved := hr.mono (show 2 ≤ 5 by decide)
    have r_law_others := hr.mono (show 3 ≤ 5 by decide)
    have r_law_by_lanes := hr.mono (show 1 ≤ 5 by decide)
    have r_one_order := hr.mono (show 2 ≤ 5 by decide)
    have hrG : (Ar.deeper (envOfC "_law_row_right" (defScope s__law_row_right) s0.heap.objs.size T._law_row_right.f cdv)).units + 66 < cLine := by
      have := hr.un
      omega
    refine ⟨_, (pss_cons (ps_par (i := 3) (j := 4) (by rfl) sc__law_row_right.nd rfl rfl (by decide) rfl rfl (pa_cons (pe_callB (KX.call_reprV hg0 hrG) (by rfl) T.n_repr (by decide +kernel) (pa_cons (pe_tupF (pa_cons (pv 1) (pa_cons (pv 2) pa_nil))) pa_nil)) (pa_cons (pe_call G_law_first_clash r_law_first_clash (by rfl) T._law_first_clash.g T._law_first_clash.F.kp T._law_first_clash.b .nil pass0 (pa_cons (pv 1) (pa_cons (pv 2) pa_nil))) pa_nil)) (by rfl))
      (pss_cons (ps_for PassesOwn.never rfl (pi_range1 (by rfl) T.n_range (pa_cons pe_int pa_nil)) (pg_name (i := 5) sc__law_row_right.nd rfl (.inl rfl)) (pss_one (ps_if (PW.pt (pw_or (pt_cmpR op_ne (pe_callB (KX.call_reprV hg0 hrG) (by rfl) T.n_repr (by decide +kernel) (pa_cons (pe_call G_clash_of r_clash_of (by rfl) T.clash_of.g T.clash_of.F.kp T.clash_of.b .nil pass0 (pa_cons (pv 1) (pa_cons (pv 2) pa_nil))) pa_nil)) (pe_callB (KX.call_reprV hg0 hrG) (by rfl) T.n_repr (by decide +kernel) (pa_cons (pv 4) pa_nil)) (nomark _)) (pw_or1 (pt_cmpR op_ne (pe_callB (KX.call_reprV hg0 hrG) (by rfl) T.n_repr (by decide +kernel) (pa_cons (pe_call G_is_clean r_is_clean (by rfl) T.is_clean.g T.is_clean.F.kp T.is_clean.b .nil pass0 (pa_cons (pv 1) (pa_cons (pv 2) pa_nil))) pa_nil)) (pe_callB (KX.call_reprV hg0 hrG) (by rfl) T.n_repr (by decide +kernel) (pa_cons (pe_cmpR op_isN (pv 4) pe_non (nomark _)) pa_nil)) (nomark _))))) (pss_one (ps_ret pe_bl)) pss_nil)))
      (pss_cons (ps_set (i := 6) sc__law_row_right.nd rfl (.inl rfl) (pe_callB call_len_seq (by rfl) T.n_len (by decide +kernel) (pa_cons (pe_lc (own := [("event", 7)]) (g := gName 7) rfl sc__law_row_right.nd (pi_tup (pv 2)) (blkOk_by (N := ["m", "kern", "some", "kept", "due", "again", "moved_due", "event", "told", "other", "same"]) (sc := (defScope s__law_row_right)) (by decide +kernel)) (fun _ _ _ _ _ => (pg_name (i := 7) sc__law_row_right.nd rfl (.inl rfl))) (fun _ _ _ _ _ => pts_one (pt_not (pt_val (pe_call G_law_is_near r_law_is_near (by rfl) T._law_is_near.g T._law_is_near.F.kp T._law_is_near.b .nil pass0 (pa_cons (pv 1) (pa_cons (pe_ix (r := rIxT K) ix_tup (pv 7) pe_int (fun _ _ => rfl)) pa_nil)))))) (fun _ _ _ _ _ => pe_int)) pa_nil)))
      (pss_cons (ps_set (i := 8) sc__law_row_right.nd rfl (.inl rfl) (KW.pe_lstS (pa_cons (pe_call G_words_moved r_words_moved (by rfl) T.words_moved.g T.words_moved.F.kp T.words_moved.b .nil pass0 (pa_cons (pv 1) (pa_cons (pv 2) pa_nil))) (pa_cons (KK.pe_callN0 G_words_moved r_words_moved (by rfl) T.words_moved.g T.words_moved.F.kp (kbn_moved T.words_moved.F) pass0 (pk_cons (pv 2) (pk_cons (pv 1) pk_nil))) (pa_cons (KK.pe_callN0 G_clash_of r_clash_of (by rfl) T.clash_of.g T.clash_of.F.kp (kbn_clash T.clash_of.F) pass0 (pk_cons (pv 2) (pk_cons (pv 1) pk_nil))) pa_nil)))))
      (pss_cons (ps_if (pt_cmpR op_ne (pe_callB (KX.call_reprV hg0 hrG) (by rfl) T.n_repr (by decide +kernel) (pa_cons (pe_op KW.op_catS (pv 8) (KW.pe_lstS (pa_cons (KK.pe_callN0 G_is_clean r_is_clean (by rfl) T.is_clean.g T.is_clean.F.kp (kbn_clean T.is_clean.F) pass0 (pk_cons (pv 2) (pk_cons (pv 1) pk_nil))) pa_nil))) pa_nil)) (pe_callB (KX.call_reprV hg0 hrG) (by rfl) T.n_repr (by decide +kernel) (pa_cons (KW.pe_lstS (pa_cons (pv 6) (pa_cons (pv 6) (pa_cons (pv 4) (pa_cons (pe_cmpR op_isN (pv 4) pe_non (nomark _)) pa_nil))))) pa_nil)) (nomark _)) (pss_one (ps_ret pe_bl)) pss_nil)
      (pss_cons (ps_for PassesOwn.never rfl (pi_list (pe_call G_law_others r_law_others (by rfl) T._law_others.g T._law_others.F.kp T._law_others.b .nil pass0 (pa_cons (pv 0) (pa_cons (pv 2) pa_nil)))) (pg_name (i := 9) sc__law_row_right.nd rfl (.inl rfl)) (pss_cons (ps_set (i := 10) sc__law_row_right.nd rfl (.inl rfl) (pe_callB (KX.call_reprV hg0 hrG) (by rfl) T.n_repr (by decide +kernel) (pa_cons (pe_cmpR (op_eqD hr.units) (pe_call G_law_by_lanes r_law_by_lanes (by rfl) T._law_by_lanes.g T._law_by_lanes.F.kp T._law_by_lanes.b .nil pass0 (pa_cons (pv 2) pa_nil)) (pe_call G_law_by_lanes r_law_by_lanes (by rfl) T._law_by_lanes.g T._law_by_lanes.F.kp T._law_by_lanes.b .nil pass0 (pa_cons (pv 9) pa_nil)) (nomark _)) pa_nil)))
      (pss_one (ps_if (PW.pt (pw_or (pt_cmpR op_ne (pe_callB (KX.call_reprV hg0 hrG) (by rfl) T.n_repr (by decide +kernel) (pa_cons (pe_call G_one_order r_one_order (by rfl) T.one_order.g T.one_order.F.kp T.one_order.b .nil pass0 (pa_cons (pv 2) (pa_cons (pv 9) pa_nil))) pa_nil)) (pv 10) (nomark _)) (pw_or1 (pt_cmpR op_ne (pe_callB (KX.call_reprV hg0 hrG) (by rfl) T.n_repr (by decide +kernel) (pa_cons (KK.pe_callN0 G_one_order r_one_order (by rfl) T.one_order.g T.one_order.F.kp (kbn_order T.one_order.F) pass0 (pk_cons (pv 2) (pk_cons (pv 9) pk_nil))) pa_nil)) (pv 10) (nomark _))))) (pss_one (ps_ret pe_bl)) pss_nil))))
      (pss_one (ps_ret (pe_cmpR op_eq (pe_callB (KX.call_reprV hg0 hrG) (by rfl) T.n_repr (by decide +kernel) (pa_cons (pe_tupF (pa_cons (pv 1) (pa_cons (pv 2) pa_nil))) pa_nil)) (pv 3) (nomark _)))))))))), ?_⟩
    have hok : ∀ e ∈ es, EvOk e ∧ e.kind ≠ "any" := fun e he => (hG e he).ok
    have hoS : ∀ e ∈ es, EvS e := fun e he => (hG e he).s
    have hsx := evs_sx hoS
    have hkk : Sx (.tuple [kernD x y ns z, .tuple (es.map Ev.d)]) 30000 9 := (sx_tup (sx_cons hkx (sx_cons hsx sx_nil))).le (by omega) (by omega)
    have dpE : ∀ {G : Hp}, EvsP m L G p es → Dp K G (.ref p) (.tuple (es.map Ev.d)) := fun h => by
      obtain ⟨us, g1, g2, g3⟩ := h
      exact fine_dp hsx.f (.mk g1 g2 g3)
    have dpK : ∀ {G : Hp}, Dq (Fs m L) G (kernD x y ns z) v → Dp K G v (kernD x y ns z) := fun h => fine_dp hkx.f h
    refine ⟨_, rfl, _, rfl, by show 2 ≤ 5000; omega, fun p1 H1 s1 np1 t1 => ?_⟩
    have hv1 := hv.same s1
    have hE1 := hE.kp (.of_same s1)
    have rk := hkk.rq (by decide) (by decide)
    refine ⟨_, _, rfl, .dp (.tup t1.sq (.cons (dpK hv1) (.cons (dpE hE1) .nil))) rk.nd, rk.sh, rk.dp, rk.sz, ?_⟩
    generalize hkT : (PyData.tuple [kernD x y ns z, .tuple (es.map Ev.d)]).shown = keptT
    refine ⟨_, rfl, _, rfl, v, p, x, y, z, ns, es, rfl, hv1.dt, hns, hE1.at_, fun e he => (hok e he).1, fun vd H2 s2 hd2 => ⟨_, _, rfl, ?_⟩⟩
    obtain ⟨R, hR⟩ : ∃ R, R = firstC (nmsN ns) [] es := ⟨_, rfl⟩
    have hrx : Sx (resD R) 1300 3 := by rw [hR]; exact res_sx hoS
    rw [← hR] at hd2
    have c2 : Same H H2 := s1.trans s2
    have rr := hrx.rq (by decide) (by decide)
    have dpR : ∀ {G : Hp} {u : V}, Dt G (resD R) u → Dp K G u (resD R) := fun a => fine_dp hrx.f a
    -- twice
    refine ⟨_, rfl, by decide, by decide, ?_⟩
    refine for_range (fun i σ H' => ∃ a, σ = [some (.ref m), some v, some (.ref p), some (.str keptT), some vd, a, none, none, none, none, none] ∧ Same H2 H') ⟨_, rfl, Same.refl _⟩ (fun i σ Ha hi h => ?_) (fun σ Ha h => ?_)
    · obtain ⟨a, rfl, sa⟩ := h
      have ca := c2.trans sa
      refine ⟨_, rfl, _, rfl, v, p, x, y, z, ns, es, rfl, (hv.same ca).dt, hns, (hE.kp (.of_same ca)).at_, by omega, hok, fun v3 Hb sb hb => ?_⟩
      rw [← hR] at hb
      refine ⟨_, _, rfl, .dp (dpR hb) rr.nd, rr.sh, rr.dp, rr.sz, ?_⟩
      refine ⟨_, rfl, _, _, rfl, .dp (dpR (hd2.same (sa.trans sb))) rr.nd, rr.sh, rr.dp, rr.sz, ?_⟩
      refine ⟨rfl, _, rfl, ?_⟩
      rw [show decide (V.str (resD R).shown = V.str (resD R).shown) = true from decide_eq_true rfl]
      refine iteF ?_
      have cb := ca.trans sb
      refine ⟨_, rfl, _, rfl, v, p, x, y, z, ns, es, rfl, (hv.same cb).dt, hns, (hE.kp (.of_same cb)).at_, by omega, hok, fun Hc sc => ?_⟩
      have rb := rq_bl (firstC (nmsN ns) [] es).isNone
      refine ⟨_, _, rfl, .dp (.bl _) rb.nd, rb.sh, rb.dp, rb.sz, ?_⟩
      refine ⟨_, rfl, rfl, ?_⟩
      rw [isN_res hd2, hR]
      refine ⟨_, _, rfl, .dp (.bl _) rb.nd, rb.sh, rb.dp, rb.sz, ?_⟩
      refine ⟨rfl, _, rfl, ?_⟩
      rw [show decide (V.str (PyData.bool (firstC (nmsN ns) [] es).isNone).shown = V.str (PyData.bool (firstC (nmsN ns) [] es).isNone).shown) = true from decide_eq_true rfl]
      refine iteF ?_
      exact ⟨_, rfl, sa.trans (sb.trans sc)⟩
    · obtain ⟨a, rfl, sa⟩ := h
      have ca := c2.trans sa
      -- words moved
      obtain ⟨us, fp, hp, hus⟩ := id hE
      have hul := hus.len
      rw [List.length_map] at hul
      refine ⟨_, rfl, p, rfl, ⟨_, (hp.same ca).sq⟩, fun D nD => ?_⟩
      refine lc_tup (K := K) (a := p) (xs := us) (fun i H' => Same Ha H' ∧ ∃ xs, H' D = some (.lst xs) ∧ xs.length = (movedN (nmsN ns) (es.take i)).length) ⟨same_upd nD, [], upd_same, rfl⟩ (fun i H' hi h => (hp.same (ca.trans h.1)).sq) (fun i x H' hx h => ?_) (fun Hd h => ?_)
      · obtain ⟨sm, xs, hD, hxs⟩ := h
        obtain ⟨e, he, hde⟩ := ev_at hus.dt hx
        have hie : i < es.length := (List.getElem?_eq_some_iff.mp he).1
        obtain ⟨a, wA, pA, c, cs, rfl, _, hae, _⟩ := ev_parts hde
        have sc := ca.trans sm
        have hxl : xs.length ≤ 5000 := by
          have : (movedN (nmsN ns) (es.take i)).length ≤ (es.take i).length := List.length_filter_le _ _
          rw [List.length_take] at this
          omega
        refine ⟨rfl, _, rfl, _, rfl, a, _, _, _, rfl, rfl, (hae.same sc).sq, rfl, v, x, y, z, ns, e.name, rfl, (hv.same sc).dt, hns, fun Hb sb => ⟨_, rfl, ?_⟩⟩
        have e1 : movedN (nmsN ns) (es.take (i + 1)) = movedN (nmsN ns) (es.take i) ++ (if decide (e.name ∈ nmsN ns) = true then [] else [e]) := by
          rw [take_snoc he]
          unfold movedN
          rw [List.filter_append, List.filter_cons]
          by_cases m : e.name ∈ nmsN ns
          · rw [decide_eq_true m]; rfl
          · rw [decide_eq_false m]; rfl
        by_cases m : e.name ∈ nmsN ns
        · rw [decide_eq_true m] at e1 ⊢
          refine iteF ⟨sm.trans sb, xs, sb _ _ hD, ?_⟩
          rw [e1, hxs, List.length_append]
          rfl
        · rw [decide_eq_false m] at e1 ⊢
          refine iteT ⟨xs, sb _ _ hD, lt_size hxl, ⟨fun b o h => ?_, _, upd_same, ?_⟩⟩
          · rw [upd_ne (ne_of_none h nD)]
            exact (sm.trans sb) _ _ h
          · rw [e1, List.length_append, List.length_append, hxs]
            rfl
      · obtain ⟨sm, xs, hD, hxs⟩ := h
        rw [List.take_of_length_le (by omega)] at hxs
        refine ⟨D, xs, rfl, .inl (.inl (.inl hD)), ?_⟩
        rw [hxs]
        obtain ⟨mv, hmv⟩ : ∃ mv, mv = (movedN (nmsN ns) es).length := ⟨_, rfl⟩
        rw [← hmv]
        have hml : mv ≤ 30 := by
          have : (movedN (nmsN ns) es).length ≤ es.length := List.length_filter_le _ _
          omega
        have cd := ca.trans sm
        refine ⟨_, rfl, _, rfl, v, p, x, y, z, ns, es, rfl, (hv.same cd).dt, hns, (hE.kp (.of_same cd)).at_, by omega, fun He se => ?_⟩
        rw [← hmv]
        have ce := cd.trans se
        refine ⟨_, rfl, _, rfl, rfl, v, p, x, y, z, ns, es, rfl, (hv.same ce).dt, hns, (hE.kp (.of_same ce)).at_, by omega, fun Hf sf => ?_⟩
        rw [← hmv]
        have cf := ce.trans sf
        refine ⟨_, rfl, _, rfl, rfl, v, p, x, y, z, ns, es, rfl, (hv.same cf).dt, hns, (hE.kp (.of_same cf)).at_, by omega, hok, fun v4 Hg sg hg4 => ?_⟩
        rw [← hR] at hg4
        have cg := cf.trans sg
        refine ⟨by show 3 ≤ 5000; omega, fun tp Hh sh ntp htp => ?_⟩
        have ch := cg.trans sh
        refine ⟨_, rfl, _, rfl, _, rfl, rfl, v, p, x, y, z, ns, es, rfl, (hv.same ch).dt, hns, (hE.kp (.of_same ch)).at_, by omega, hok, fun Hi si => ?_⟩
        rw [← hR]
        refine ⟨by show 1 ≤ 5000; omega, fun lp Hj sj nlp hlp => ?_⟩
        refine ⟨tp, lp, _, _, rfl, rfl, (si.trans sj) _ _ htp, hlp, by show 3 + 1 ≤ 5000; omega, fun lq Hk sk nlq hlq => ?_⟩
        have sgk : Same Hg Hk := sh.trans (si.trans (sj.trans sk))
        have rt : Rq (.list [.int (mv : Nat), .int (mv : Nat), resD R, .bool R.isNone]) := by
          have f1 : KX.Fd (.list [.int (mv : Nat), .int (mv : Nat), resD R, .bool R.isNone]) 3000 5 := (KX.fd_lst (KX.fd_cons (KX.fd_int (i := (mv : Nat)) (by omega)) (KX.fd_cons (KX.fd_int (i := (mv : Nat)) (by omega)) (KX.fd_cons hrx.fd (KX.fd_cons (KX.fd_bl (b := R.isNone)) KX.fd_nil))))).le (by decide) (by decide)
          have n1 := rr.nd
          exact ⟨by simp [PyData.hasDict, PyData.hasDictAll, n1], f1.sh, Nat.le_trans f1.d (by decide), f1.fits (by decide)⟩
        have hg4k := dpR (hg4.same sgk)
        refine ⟨_, _, rfl, .dp (dl_of hlq (.cons (.int _) (.cons (.int _) (.cons hg4k (.cons (.bl _) .nil))))) rt.nd, rt.sh, rt.dp, rt.sz, ?_⟩
        have ck := cg.trans sgk
        refine ⟨_, rfl, _, rfl, _, rfl, _, rfl, rfl, ?_⟩
        have s2k : Same H2 Hk := sa.trans (sm.trans (se.trans (sf.trans (sg.trans sgk))))
        rw [isN_res hd2]
        refine ⟨by show 4 ≤ 5000; omega, fun lr Hl sl nlr hlr => ?_⟩
        refine ⟨_, _, rfl, .dp (dl_of hlr (.cons (.int _) (.cons (.int _) (.cons (dpR (hd2.same (s2k.trans sl))) (.cons (.bl _) .nil))))) rt.nd, rt.sh, rt.dp, rt.sz, ?_⟩
        refine ⟨rfl, _, rfl, ?_⟩
        rw [show decide (V.str (PyData.list [.int (mv : Nat), .int (mv : Nat), resD R, .bool R.isNone]).shown = V.str (PyData.list [.int (mv : Nat), .int (mv : Nat), resD R, .bool R.isNone]).shown) = true from decide_eq_true rfl]
        refine iteF ?_
        -- the other rows
        have cl := ck.trans sl
        clear rt hg4k hlr hlq hlp hg4 htp
        refine ⟨_, rfl, _, rfl, m, L, p, n, es, rfl, by omega, hS.same cl, hE.kp (.of_same cl), by omega, hG, fun q0 rs Hm km mm nq fq hq hrl hrs => ?_⟩
        have kk : Kp m L H Hm := (Kp.of_same cl).trans km
        refine ⟨q0, rfl, ⟨_, .inl (.inl hq)⟩, ?_⟩
        refine for_list (K := K) (a := q0) (xs := rs.map fun r => V.ref r.1) (fun i σ H' => ∃ a b c d e, σ = [some (.ref m), some v, some (.ref p), some (.str keptT), some vd, a, b, c, d, e.1, e.2] ∧ Same Hm H') ⟨_, _, _, _, (_, _), rfl, Same.refl _⟩ (fun i σ H' hi h => by obtain ⟨_, _, _, _, _, _, sm⟩ := h; exact .inl (.inl (sm _ _ hq))) (fun i x' σ Hn hx h => ?_) (fun σ Hn h => ?_)
        · obtain ⟨a, b, c, d, e, rfl, sn⟩ := h
          rw [List.getElem?_map] at hx
          cases hri : rs[i]? with
          | none => rw [hri] at hx; cases hx
          | some r =>
            rw [hri] at hx
            injection hx with hx
            subst hx
            obtain ⟨r1, fs⟩ := r
            obtain ⟨gE, gS, gl⟩ := hrs _ (List.mem_of_getElem? hri)
            have gl : fs.length ≤ 60 := gl
            have gok : ∀ e ∈ fs, EvOk e := fun e he => (gS e he).ok
            have eok : ∀ e ∈ es, EvOk e := fun e he => (hoS e he).ok
            have kn : Kp m L H Hn := kk.trans (.of_same sn)
            have kn' : Kp m L Hm Hn := .of_same sn
            refine ⟨_, rfl, p, es, rfl, (hE.kp kn).at_, by omega, hoS, fun qa ks Ho so lk la => ?_⟩
            refine ⟨_, rfl, r1, fs, rfl, (gE.kp (kn'.trans (.of_same so))).at_, gl, gS, fun qb ls Hp sp lk2 lb => ?_⟩
            refine ⟨lanesD es ks, lanesD fs ls, (la.same sp).dp eok, lb.dp gok, fine_shaped (lanesD_fine eok) (by have := lanesD_depth es ks; omega), fine_shaped (lanesD_fine gok) (by have := lanesD_depth fs ls; omega), ?_⟩
            rw [lanes_eqv lk lk2 eok gok]
            generalize hB : KN.eqN (rowsD es) (rowsD fs) = B
            have rb := rq_bl B
            refine ⟨_, _, rfl, .dp (.bl _) rb.nd, rb.sh, rb.dp, rb.sz, ?_⟩
            have cp : Same Hn Hp := so.trans sp
            refine ⟨_, rfl, _, rfl, p, r1, es, fs, rfl, (hE.kp (kn.trans (.of_same cp))).at_, (gE.kp (kn'.trans (.of_same cp))).at_, by omega, by omega, eok, gok, fun Hq sq => ?_⟩
            rw [hB]
            refine ⟨_, _, rfl, .dp (.bl _) rb.nd, rb.sh, rb.dp, rb.sz, ?_⟩
            refine ⟨_, rfl, rfl, _, rfl, ?_⟩
            rw [show decide (V.str (PyData.bool B).shown = V.str (PyData.bool B).shown) = true from decide_eq_true rfl]
            refine iteF ?_
            have cq := cp.trans sq
            refine ⟨_, rfl, _, rfl, rfl, r1, p, fs, es, rfl, (gE.kp (kn'.trans (.of_same cq))).at_, (hE.kp (kn.trans (.of_same cq))).at_, by omega, by omega, gok, eok, fun Hr sr => ?_⟩
            rw [eqN_symm gok eok, hB]
            refine ⟨_, _, rfl, .dp (.bl _) rb.nd, rb.sh, rb.dp, rb.sz, ?_⟩
            refine ⟨_, rfl, rfl, _, rfl, ?_⟩
            rw [show decide (V.str (PyData.bool B).shown = V.str (PyData.bool B).shown) = true from decide_eq_true rfl]
            refine iteF ?_
            exact ⟨_, _, _, _, (_, _), rfl, sn.trans (cq.trans sr)⟩
        · obtain ⟨a, b, c, d, e, rfl, sn⟩ := h
          have kn : Kp m L H Hn := kk.trans (.of_same sn)
          have hvn := hv.kp fun b o f e => ⟨f, kn b o f.1 f.2 e⟩
          refine ⟨_, rfl, _, rfl, by show 2 ≤ 5000; omega, fun p9 H9 s9 np9 t9 => ?_⟩
          refine ⟨_, _, rfl, .dp (.tup t9.sq (.cons (dpK (hvn.same s9)) (.cons (dpE (hE.kp (kn.trans (.of_same s9)))) .nil))) rk.nd, rk.sh, rk.dp, rk.sz, ?_⟩
          rw [hkT]
          refine ⟨_, rfl, rfl, ?_⟩
          rw [show decide (V.str keptT = V.str keptT) = true from decide_eq_true rfl]
          exact q H9 (kn.trans (.of_same s9)) ((mm.same (sn.trans s9)))
end
end LW

set_option Elab.async false
set_option linter.all false
set_option maxRecDepth 100000
set_option maxHeartbeats 4000000
/-! many loads, one store -/
namespace LW
open PySem PySem.Spec PyProof.Rows L2 KN
def loadE (k : Nat) : Ev := ⟨0, ((k % 3 : Nat) : Int), ((k / 3 : Nat) : Int), 0, "load", "a", [((k % 2 : Nat) : Int)], 5⟩
def loads (n : Nat) : List Ev := (List.range n).map loadE
def lastE : Ev := ⟨0, 0, 999, 1, "store", "a", [1], 6⟩
theorem loads_len (n : Nat) : (loads n).length = n := by unfold loads; rw [List.length_map, List.length_range]
theorem loads_succ (n : Nat) : loads (n + 1) = loads n ++ [loadE n] := by unfold loads; rw [List.range_succ, List.map_append]; rfl
theorem loads_get {n i : Nat} (h : i < n) : (loads n)[i]? = some (loadE i) := by
  unfold loads
  rw [List.getElem?_map, List.getElem?_range h]
  rfl
theorem loads_take {n i : Nat} (h : i ≤ n) : (loads n).take i = loads i := by
  unfold loads
  rw [← List.map_take, List.take_range, Nat.min_eq_left h]
theorem loads_mem {n : Nat} {e : Ev} (h : e ∈ loads n) : ∃ k, k < n ∧ e = loadE k := by
  unfold loads at h
  obtain ⟨k, hk, rfl⟩ := List.mem_map.mp h
  exact ⟨k, List.mem_range.mp hk, rfl⟩
theorem load_s {k : Nat} (h : k ≤ 100000) : EvS (loadE k) := by
  refine ⟨⟨by show (0 : Int).natAbs ≤ 100000; decide, by show (((k % 3 : Nat) : Int)).natAbs ≤ 100000; omega, by show (((k / 3 : Nat) : Int)).natAbs ≤ 100000; omega, by show (0 : Int).natAbs ≤ 100000; decide, by show (5 : Int).natAbs ≤ 100000; decide⟩, by show okS "load" = true; decide +kernel, by show okS "a" = true; decide +kernel, ⟨by show 1 ≤ 2; omega, fun x hx => ?_⟩, by show (0 : Int) ≤ 0 ∧ (0 : Int) ≤ ((k % 3 : Nat) : Int); omega⟩
  have : x = ((k % 2 : Nat) : Int) := List.mem_singleton.mp hx
  omega
theorem last_s : EvS lastE := by
  refine ⟨by decide, by decide +kernel, by decide +kernel, ⟨by show 1 ≤ 2; omega, fun x hx => ?_⟩, by decide⟩
  have : x = 1 := List.mem_singleton.mp hx
  omega
theorem load_kind (k : Nat) : (loadE k).kind ≠ "any" := by show ("load" : Str) ≠ "any"; decide +kernel
theorem last_kind : lastE.kind ≠ "any" := by show ("store" : Str) ≠ "any"; decide +kernel
theorem st_load (k : Nat) : isSt (loadE k) = false := by show decide (("load" : Str) = "store") = false; decide +kernel
theorem st_last : isSt lastE = true := by decide +kernel
theorem clash_load (nm : List Str) (j k : Nat) : clashB nm (loadE j) (loadE k) = false := by
  unfold clashB
  rw [st_load, st_load, Bool.or_false, Bool.and_false, Bool.false_and]
theorem firstC_app (nm : List Str) : ∀ (es done fs : List Ev), (∀ a ∈ done ++ es, ∀ b ∈ es, clashB nm a b = false) → firstC nm done (es ++ fs) = firstC nm (done ++ es) fs
  | [], done, fs, _ => by rw [List.append_nil]; rfl
  | e :: es, done, fs, h => by
    have no : done.find? (fun f => clashB nm f e) = none := by
      rw [List.find?_eq_none]
      intro f hf
      rw [h f (List.mem_append.mpr (.inl hf)) e (List.mem_cons_self ..)]
      exact Bool.false_ne_true
    show (match done.find? (fun f => clashB nm f e) with | some f => some (f, e) | none => firstC nm (done ++ [e]) (es ++ fs)) = _
    rw [no]
    show firstC nm (done ++ [e]) (es ++ fs) = _
    rw [firstC_app nm es (done ++ [e]) fs ?_, List.append_assoc]
    · rfl
    · intro a ha b hb
      rw [List.append_assoc] at ha
      exact h a ha b (List.mem_cons_of_mem _ hb)
theorem loads_none (nm : List Str) (n : Nat) : firstC nm [] (loads n) = none := by
  have := firstC_app nm (loads n) [] [] fun a ha b hb => by
    obtain ⟨j, _, rfl⟩ := loads_mem (show a ∈ loads n from ha)
    obtain ⟨k, _, rfl⟩ := loads_mem hb
    exact clash_load nm j k
  rw [List.append_nil] at this
  rw [this]
  rfl
theorem load_last (k : Nat) : clashB [] (loadE k) lastE = true ↔ k % 2 = 1 ∧ k % 3 ≠ 0 ∧ k / 3 = 999 := by
  have e1 : plK [] (loadE k) = plK [] lastE ↔ k % 2 = 1 := by
    have h1 : plK [] (loadE k) = .tup [.text "a", grK [] (loadE k), .tup [.num ((k % 2 : Nat) : Int)]] := rfl
    have h2 : plK [] lastE = .tup [.text "a", grK [] lastE, .tup [.num 1]] := rfl
    have h3 : grK [] (loadE k) = grK [] lastE := rfl
    rw [h1, h2, h3]
    constructor
    · intro h
      injection h with h
      injection h with _ h
      injection h with _ h
      injection h with h _
      injection h with h
      injection h with h _
      injection h with h
      omega
    · intro h
      rw [h]
      rfl
  unfold clashB
  have e2 : ((loadE k).g = lastE.g ∧ (loadE k).l = lastE.l) ↔ k % 3 = 0 := by
    show ((0 : Int) = 0 ∧ ((k % 3 : Nat) : Int) = 0) ↔ _
    omega
  have e3 : (loadE k).g = lastE.g := rfl
  have e4 : (loadE k).i = lastE.i ↔ k / 3 = 999 := by
    show ((k / 3 : Nat) : Int) = 999 ↔ _
    omega
  rw [st_last, Bool.or_true, Bool.and_true, Bool.and_eq_true, Bool.and_eq_true, Bool.not_eq_true', decide_eq_false_iff_not, decide_eq_true_iff, e1, e2, decide_eq_true e3, Bool.not_true, Bool.false_or, decide_eq_true_iff, e4]
  constructor
  · rintro ⟨⟨a, b⟩, c⟩
    exact ⟨b, a, c⟩
  · rintro ⟨b, a, c⟩
    exact ⟨⟨a, b⟩, c⟩
theorem loads_last : firstC [] [] (loads 3000 ++ [lastE]) = some (loadE 2999, lastE) := by
  rw [firstC_app [] (loads 3000) [] [lastE] fun a ha b hb => by
    obtain ⟨j, _, rfl⟩ := loads_mem (show a ∈ loads 3000 from ha)
    obtain ⟨k, _, rfl⟩ := loads_mem hb
    exact clash_load [] j k]
  show (match (loads 3000).find? (fun f => clashB [] f lastE) with | some f => some (f, lastE) | none => firstC [] (loads 3000 ++ [lastE]) []) = _
  have : (loads 3000).find? (fun f => clashB [] f lastE) = some (loadE 2999) := by
    refine find_take (loads_get (by decide)) (fun y hy => ?_) ((load_last 2999).mpr (by decide))
    rw [loads_take (by decide)] at hy
    obtain ⟨k, hk, rfl⟩ := loads_mem hy
    cases c : clashB [] (loadE k) lastE with
    | false => rfl
    | true =>
      have := (load_last k).mp c
      omega
  rw [this]
theorem near_sx {y z : Str} (hy : okS y = true) (hz : okS z = true) {a : Int} (ha : a.natAbs ≤ 100000) (k : Nat) {r : Nat} (hr : r ≤ 1) : Sx (kernD (.int a) c5 ((nears3 y z).take k) (fences r)) 3000 8 := by
  have s2 : Sx (.int 2) 60 0 := sx_small (by decide)
  have s3 : Sx (.int 3) 60 0 := sx_small (by decide)
  have s4 : Sx (.int 4) 60 0 := sx_small (by decide)
  have s5 : Sx (.int 5) 60 0 := sx_small (by decide)
  have t0 : Sx (.tuple []) 0 1 := sx_tup sx_nil
  have m4 : Sx dm4 300 3 := (sx_tup (sx_cons (sx_tup (sx_cons s4 (sx_cons t0 sx_nil))) sx_nil)).le (by decide) (by decide)
  have m32 : Sx dm32 300 3 := (sx_tup (sx_cons (sx_tup (sx_cons s3 (sx_cons t0 sx_nil))) (sx_cons (sx_tup (sx_cons s2 (sx_cons t0 sx_nil))) sx_nil))).le (by decide) (by decide)
  have c : Sx c5 100 2 := (sx_tup (sx_cons s5 (sx_cons t0 sx_nil))).le (by decide) (by decide)
  have n1 : ∀ {t : Str} {m : PyData}, okS t = true → Sx m 300 3 → Sx (nearD (t, [m])) 400 4 := fun ht hm => (sx_tup (sx_cons (okS_sx ht) (sx_cons hm sx_nil))).le (by decide) (by decide)
  have ns : Sx (.tuple (((nears3 y z).take k).map nearD)) 1500 5 := by
    have := sx_tup (sx_all (r := ((nears3 y z).take k).map nearD) (w := 400) (d := 4) fun x hx => by
      obtain ⟨p, hp, rfl⟩ := List.mem_map.mp hx
      have hp := List.mem_of_mem_take hp
      unfold nears3 at hp
      simp only [List.mem_cons, List.mem_nil_iff, or_false] at hp
      rcases hp with rfl | rfl | rfl
      · exact n1 hy m4
      · exact n1 hz m32
      · exact n1 hy m4)
    refine this.le ?_ (by decide)
    rw [List.length_map, List.length_take]
    have : (nears3 y z).length = 3 := rfl
    omega
  have f : Sx (fences r) 200 2 := by
    have := sx_tup (sx_all (r := List.replicate r (PyData.tuple [.str "fence"])) (w := 100) (d := 1) fun x hx => by
      rw [(List.mem_replicate.mp hx).2]
      exact (sx_tup (sx_cons (okS_sx (z := "fence") (by decide +kernel)) sx_nil)).le (by decide) (by decide))
    refine this.le ?_ (by decide)
    rw [List.length_replicate]
    omega
  exact (sx_tup (sx_cons (sx_small ha) (sx_cons c (sx_cons ns (sx_cons f sx_nil))))).le (by decide) (by decide)
end LW

set_option Elab.async false
set_option linter.all false
set_option maxRecDepth 100000
set_option maxHeartbeats 4000000
/-! the law -/
namespace LW
open PySem PySem.Spec PyProof.Rows L2
section
variable {P : Program} {w : World} {K : PySem.W.Frag} {mg : Str → Option Value} {base : Heap}
def spLaw (K : PySem.W.Frag) : Sp := fun vs H Q _ => ∃ (sa : Addr) (ns : List Int), vs = [.ref sa] ∧ SqF K H sa (ns.map V.int) ∧ ns.length ≤ 63 ∧ ∀ H', Q (.bl true) H'
theorem ok_law (T : TxL K mg) : KG.FnG P w K mg base 7 T.law.f T.law.d ["script"] (spLaw K) := by
  have G_law_begun : FnOk P w K mg base CX0 1 T._law_begun.f T._law_begun.d ["script"] (spBegun K) := ok_begun T
  have G_law_draw : FnOk P w K mg base CX0 1 T._law_draw.f T._law_draw.d ["m", "count"] (spDraw K) := ok_draw T
  have G_law_names : FnOk P w K mg base CX0 2 T._law_names.f T._law_names.d ["m"] (spNames K) := ok_names T
  have G_law_kernel : FnOk P w K mg base CX0 2 T._law_kernel.f T._law_kernel.d ["m", "names"] (spKernel K) := ok_kernel T
  have G_law_events : FnOk P w K mg base CX0 2 T._law_events.f T._law_events.d ["m", "names", "many"] (spEvents K) := ok_events T
  have G_clash_of : FnOk P w K mg base CX0 4 T.clash_of.f T.clash_of.d ["kernel", "events"] (spClash P w) := ok_clash T
  have GR : KG.FnG P w K mg base 6 T._law_row_right.f T._law_row_right.d ["m", "kern", "some"] (spRow K) := ok_row T
  refine KG.FnG.of T.law.F sc_law (fun vs H Q E h => ?_) (fun cdv Ar outer s0 H vs Q E hr hg0 h => ?_)
  · obtain ⟨sa, ns, rfl, _⟩ := h
    rfl
  · obtain ⟨sa, ns, rfl, hsa, hl, q⟩ := h
    have r_law_begun := hr.mono (show 1 ≤ 6 by decide)
    have r_law_draw := hr.mono (show 1 ≤ 6 by decide)
    have r_law_names := hr.mono (show 2 ≤ 6 by decide)
    have r_law_kernel := hr.mono (show 2 ≤ 6 by decide)
    have r_law_events := hr.mono (show 2 ≤ 6 by decide)
    have r_clash_of := hr.mono (show 4 ≤ 6 by decide)
    refine ⟨_, (pss_cons (ps_set (i := 1) sc_law.nd rfl (.inl rfl) (pe_call G_law_begun r_law_begun (by rfl) T._law_begun.g T._law_begun.F.kp T._law_begun.b .nil pass0 (pa_cons (pv 0) pa_nil)))
      (pss_cons (ps_for PassesOwn.never rfl (pi_range1 (by rfl) T.n_range (pa_cons pe_int pa_nil)) (pg_name (i := 2) sc_law.nd rfl (.inl rfl)) (pss_cons (ps_set (i := 3) sc_law.nd rfl (.inl rfl) (pe_call G_law_names r_law_names (by rfl) T._law_names.g T._law_names.F.kp T._law_names.b .nil pass0 (pa_cons (pv 1) pa_nil)))
      (pss_cons (ps_set (i := 4) sc_law.nd rfl (.inl rfl) (pe_call G_law_kernel r_law_kernel (by rfl) T._law_kernel.g T._law_kernel.F.kp T._law_kernel.b .nil pass0 (pa_cons (pv 1) (pa_cons (pv 3) pa_nil))))
      (pss_one (ps_if (pt_not (pt_val (KG.pe_callG GR hr hg0 (by rfl) T._law_row_right.g T._law_row_right.F.kp T._law_row_right.b (pa_cons (pv 1) (pa_cons (pv 4) (pa_cons (pe_call G_law_events r_law_events (by rfl) T._law_events.g T._law_events.F.kp T._law_events.b .nil pass0 (pa_cons (pv 1) (pa_cons (pv 3) (pa_cons (pe_call G_law_draw r_law_draw (by rfl) T._law_draw.g T._law_draw.F.kp T._law_draw.b .nil pass0 (pa_cons (pv 1) (pa_cons pe_int pa_nil))) pa_nil)))) pa_nil)))))) (pss_one (ps_ret pe_bl)) pss_nil)))))
      (pss_cons (ps_set (i := 5) sc_law.nd rfl (.inl rfl) (pe_callTy call_tupleF (by rfl) T.n_tuple (by decide +kernel) (pa_cons (pe_lc (own := [("k", 6)]) (g := gName 6) (tt := tYes) rfl sc_law.nd (pi_range1 (by rfl) T.n_range (pa_cons pe_int pa_nil)) (blkOk_by (N := ["script", "m", "turn", "names", "kern", "many", "k", "last"]) (sc := (defScope s_law)) (by decide +kernel)) (fun _ _ _ _ _ => (pg_name (i := 6) sc_law.nd rfl (.inl rfl))) (fun _ _ _ _ _ => pts_nil) (fun _ _ _ _ _ => (pe_tupF (pa_cons (pe_tupF (pa_cons pe_int (pa_cons (pe_op op_mod (pv 6) pe_int) pa_nil))) (pa_cons (pe_op op_fdiv (pv 6) pe_int) (pa_cons (pe_tupF (pa_cons pe_int pa_nil)) (pa_cons pe_str (pa_cons pe_str (pa_cons (pe_tupF (pa_cons (pe_op op_mod (pv 6) pe_int) pa_nil)) (pa_cons pe_int pa_nil)))))))))) pa_nil)))
      (pss_cons (ps_asg (pe_dtup (by decide) (pa_dcons (pe_dtup (by decide) (pa_dcons (pe_dc (d := .int 3) pe_int rfl) (pa_dcons (pe_dtup (by decide) (pa_dcons (pe_dc (d := .int 3) pe_int rfl) (pa_dcons (pe_dtup (by decide) pa_dnil) pa_dnil))) (pa_dcons (pe_dtup (by decide) pa_dnil) (pa_dcons (pe_dtup (by decide) pa_dnil) pa_dnil))))) (pa_dcons (pe_dtup (by decide) (pa_dcons (pe_dtup (by decide) (pa_dcons (pe_dc (d := .int 0) pe_int rfl) (pa_dcons (pe_dc (d := .int 0) pe_int rfl) pa_dnil))) (pa_dcons (pe_dc (d := .int 999) pe_int rfl) (pa_dcons (pe_dtup (by decide) (pa_dcons (pe_dc (d := .int 1) pe_int rfl) pa_dnil)) (pa_dcons (pe_dc (d := .str "store") pe_str rfl) (pa_dcons (pe_dc (d := .str "a") pe_str rfl) (pa_dcons (pe_dtup (by decide) (pa_dcons (pe_dc (d := .int 1) pe_int rfl) pa_dnil)) (pa_dcons (pe_dc (d := .int 6) pe_int rfl) pa_dnil)))))))) pa_dnil))) (pg_tup rfl (pgs_cons (pg_name (i := 4) sc_law.nd rfl (.inl rfl)) (pgs_cons (pg_name (i := 7) sc_law.nd rfl (.inl rfl)) pgs_nil))))
      (pss_one (ps_ret (pe_and (pe_cmpR op_isN (pe_call G_clash_of r_clash_of (by rfl) T.clash_of.g T.clash_of.F.kp T.clash_of.b .nil pass0 (pa_cons (pv 4) (pa_cons (pv 5) pa_nil))) pe_non (nomark _)) (pe_one (pe_cmpR (op_eqD hr.units) (pe_call G_clash_of r_clash_of (by rfl) T.clash_of.g T.clash_of.F.kp T.clash_of.b .nil pass0 (pa_cons (pv 4) (pa_cons (pe_op op_catF (pv 5) (pe_tupF (pa_cons (pv 7) pa_nil))) pa_nil))) (pe_tupF (pa_cons (pe_ix ix_tup (pv 5) pe_int (fun _ _ => rfl)) (pa_cons (pv 7) pa_nil))) (nomark _)))))))))), ?_⟩
    refine ⟨_, rfl, sa, ns, rfl, hsa, hl, fun m L H1 s1 nm nL S1 => ?_⟩
    refine ⟨_, rfl, by decide, by decide, ?_⟩
    refine for_range (fun i σ H' => ∃ x2 x3 x4, σ = [some (.ref sa), some (.ref m), x2, x3, x4, none, none, none] ∧ Sd K m L (706 * (i : Nat)) H') ⟨_, _, _, rfl, S1.le (by omega)⟩ (fun i σ Ha hi h => ?_) (fun σ Ha h => ?_)
    · obtain ⟨x2, x3, x4, rfl, Sa⟩ := h
      have hi8 : i < 8 := hi
      obtain ⟨N, hN⟩ : ∃ N : Int, N = 706 * (i : Nat) := ⟨_, rfl⟩
      rw [← hN] at Sa
      have hNb : N ≤ 10000 := by omega
      refine ⟨_, rfl, m, L, N, rfl, by omega, Sa, fun p zs Hb kb Sb hz => ?_⟩
      obtain ⟨fnp, hp, hzl, hzk⟩ := hz
      obtain ⟨z0, z1, z2, z3, rfl⟩ : ∃ a b c d, zs = [a, b, c, d] := by
        match zs, hzl with
        | [a, b, c, d], _ => exact ⟨a, b, c, d, rfl⟩
      refine ⟨_, rfl, _, rfl, m, L, p, N + 2, z0, z1, z2, z3, rfl, by omega, Sb, fnp.1, hp, fun v a k r Hc kc Sc a1 a2 k2 r1 dk => ?_⟩
      have hpc := kc _ _ fnp.1.1 fnp.1.2 hp
      refine ⟨_, rfl, _, rfl, _, rfl, _, rfl, _, rfl, m, L, 31, N + 2 + 3, rfl, by decide, by decide, by omega, Sc, fun c Hd c0 c1 kd Sd' => ?_⟩
      obtain ⟨c, rfl⟩ := Int.eq_ofNat_of_zero_le c0
      have hpd := kd _ _ fnp.1.1 fnp.1.2 hpc
      refine ⟨m, L, p, N + 2 + 3 + 1, z0, z1, z2, z3, c, rfl, by omega, by omega, Sd', fnp.1, hpd, hzk, fun ve es He ke Se hel hG hde => ?_⟩
      obtain ⟨pe, us, rfl, fpe, tpe, dus⟩ := hde
      have dke : Dq (Fs m L) He (kernD (.int a) c5 ((nears3 z2 z3).take k) (fences r)) v := dk.kp fun b o f e => ⟨f.1, (kd.trans ke) b o f.1.1 f.1.2 e⟩
      refine ⟨m, L, pe, v, N + 2 + 3 + 1 + 400, _, _, _, _, es, rfl, by omega, Se, dke, near_sx (hzk _ (by simp)) (hzk _ (by simp)) (by omega) k r1, by rw [List.length_take]; omega, ⟨us, fpe.1, tpe, dus.kp fun b o f e => ⟨f.1, e⟩⟩, hel, hG, fun Hf kf Sf => ⟨_, rfl, ?_⟩⟩
      refine iteF ?_
      exact ⟨_, _, _, rfl, Sf.le (by push_cast; omega)⟩
    · obtain ⟨x2, x3, x4, rfl, Sa⟩ := h
      refine ⟨_, rfl, by decide, by decide, fun D nD => ?_⟩
      refine lc_range (n := (3000 : Int).toNat) (fun i H' => Same Ha H' ∧ ∃ us, H' D = some (.lst us) ∧ DqL (fun a => a ≠ D) H' ((loads i).map Ev.d) us) ⟨same_upd nD, [], upd_same, (show DqL _ _ [] [] from rfl)⟩ (fun i H' hi h => ?_) (fun Hb h => ?_)
      · obtain ⟨sm, us, hD, hus⟩ := h
        have hi' : i < 3000 := hi
        have hul := hus.len
        rw [List.length_map, loads_len] at hul
        refine ⟨rfl, ?_⟩
        refine ⟨_, rfl, _, _, rfl, rfl, (by show (0 : Int) < 3; decide), by show 2 ≤ 5000; omega, fun w1 G1 s1 n1 t1 => ?_⟩
        refine ⟨_, rfl, _, _, rfl, rfl, ⟨by decide, by decide⟩, by show 1 ≤ 5000; omega, fun w2 G2 s2 n2 t2 => ?_⟩
        refine ⟨_, rfl, _, _, rfl, rfl, (by show (0 : Int) < 2; decide), by show 1 ≤ 5000; omega, fun w3 G3 s3 n3 t3 => ?_⟩
        refine ⟨by show 7 ≤ 5000; omega, fun ev G4 s4 n4 t4 => ?_⟩
        have c1 : Same H' G1 := s1
        have c2 := c1.trans s2
        have c3 := c2.trans s3
        have c4 := c3.trans s4
        have D4 := c4 _ _ hD
        have e0 : ((0 : Int) + (i : Nat)) = ((i : Nat) : Int) := by omega
        have dEv : Dq (fun a => a ≠ D) G4 (loadE i).d (.ref ev) := by
          refine .mk (ne_of_none (c3 _ _ hD) n4).symm t4 ⟨_, _, rfl, .mk (ne_of_none hD n1).symm (t1.same (s2.trans (s3.trans s4))) (.two rfl ?_), _, _, rfl, ?_, _, _, rfl, .mk (ne_of_none (c1 _ _ hD) n2).symm (t2.same (s3.trans s4)) (.one rfl), _, _, rfl, rfl, _, _, rfl, rfl, _, _, rfl, .mk (ne_of_none (c2 _ _ hD) n3).symm (t3.same s4) (.one ?_), _, _, rfl, rfl, rfl⟩
          · show V.int (((0 : Int) + (i : Nat)) % 3) = V.int ((i % 3 : Nat) : Int)
            congr 1
            omega
          · show V.int (((0 : Int) + (i : Nat)) / 3) = V.int ((i / 3 : Nat) : Int)
            congr 1
            omega
          · show V.int (((0 : Int) + (i : Nat)) % 2) = V.int ((i % 2 : Nat) : Int)
            congr 1
            omega
        refine ⟨_, D4, lt_size (by omega), fun b o h => ?_, us ++ [.ref ev], upd_same, ?_⟩
        · rw [upd_ne (ne_of_none h nD)]; exact (sm.trans c4) _ _ h
        · rw [loads_succ, List.map_append]
          exact ((hus.same c4).app (.one dEv)).kp fun b o f e => ⟨f, by rw [upd_ne f]; exact e⟩
      · obtain ⟨sm, us, hD, hus⟩ := h
        have hus' : DqL (fun a => a ≠ D) Hb ((loads 3000).map Ev.d) us := hus
        refine ⟨D, us, rfl, .inl (.inl hD), fun mp Hc sc nm2 tm => ?_⟩
        refine fun v2 Hd sd h2 => ?_
        obtain ⟨pp, xs, rfl, _, tp, hds⟩ := h2
        obtain ⟨vk, _, rfl, hk, vl, _, rfl, hlst, rfl⟩ := hds
        refine ⟨pp, _, rfl, tp.sq, rfl, _, _, rfl, _, _, rfl, rfl, ?_⟩
        have tm2 := tm.same sd
        have dus : DtL Hd ((loads 3000).map Ev.d) us := hus'.dt.same (sc.trans sd)
        have hk2 : Dt Hd (kernD (.int 3) (.tuple [.int 3, .tuple []]) [] (.tuple [])) vk := hk.dt
        have hl2 : Dt Hd lastE.d vl := hlst.dt
        have okl : ∀ e ∈ loads 3000, EvOk e ∧ e.kind ≠ "any" := fun e he => by
          obtain ⟨k, hk, rfl⟩ := loads_mem he
          exact ⟨(load_s (by omega)).ok, load_kind k⟩
        refine ⟨_, rfl, _, rfl, vk, mp, _, _, _, [], loads 3000, rfl, hk2, by decide, ⟨us, tm2, dus⟩, by rw [loads_len]; decide, okl, fun v3 He se h3 => ?_⟩
        rw [show nmsN [] = [] from rfl, loads_none] at h3
        refine ⟨rfl, ?_⟩
        rw [isN_res h3]
        refine ⟨true, rfl, iteT ?_⟩
        have s2e : Same Hd He := se
        refine ⟨_, rfl, _, rfl, _, rfl, by show 1 ≤ 5000; omega, fun lp Hf sf nlp tlp => ?_⟩
        have hul := hus'.len
        rw [List.length_map, loads_len] at hul
        refine ⟨mp, lp, us, _, rfl, rfl, tm2.same (se.trans sf), tlp, by show us.length + 1 ≤ 5000; omega, fun mq Hg sg nmq tmq => ?_⟩
        have sg' : Same Hd Hg := se.trans (sf.trans sg)
        have okm : ∀ e ∈ loads 3000 ++ [lastE], EvOk e ∧ e.kind ≠ "any" := fun e he => by
          rcases List.mem_append.mp he with he | he
          · exact okl e he
          · rw [List.mem_singleton.mp he]
            exact ⟨last_s.ok, last_kind⟩
        refine ⟨vk, mq, _, _, _, [], loads 3000 ++ [lastE], rfl, hk2.same sg', by decide, ⟨us ++ [vl], tmq, by rw [List.map_append]; exact (dus.same sg').app (.one (hl2.same sg'))⟩, by rw [List.length_append, loads_len]; decide, okm, fun v5 Hh sh h5 => ?_⟩
        rw [show nmsN [] = [] from rfl, loads_last] at h5
        have sh' : Same Hd Hh := sg'.trans sh
        have g29 : us[2999]? = some us[2999] := List.getElem?_eq_getElem (by omega)
        obtain ⟨e29, he29, d29⟩ := ev_at dus g29
        rw [loads_get (by decide)] at he29
        injection he29 with he29
        subst he29
        refine ⟨_, rfl, mp, _, _, _, rfl, rfl, (tm2.same sh').sq, atI_nat g29, _, rfl, by show 2 ≤ 5000; omega, fun rp Hi si nrp trp => ?_⟩
        have sx9 : Sx (resD (some (loadE 2999, lastE))) 1300 3 := (sx_tup (sx_cons (ev_sx (load_s (by omega))) (sx_cons (ev_sx last_s) sx_nil))).le (by omega) (by omega)
        refine ⟨resD (some (loadE 2999, lastE)), resD (some (loadE 2999, lastE)), fine_dp sx9.f (h5.same si), ?_, sx9.sh (by decide), sx9.sh (by decide), ?_⟩
        · exact fine_dp (F := fun _ => True) sx9.f (.mk trivial trp (.two (d29.same (sh'.trans si)) (hl2.same (sh'.trans si))))
        · rw [SeqAt.eqv_refl _ (fine_lay sx9.f).1]
          exact q Hi
end
end LW

set_option Elab.async false
set_option linter.all false
set_option maxRecDepth 100000
set_option maxHeartbeats 8000000
/-! the head's facts -/
namespace LW
open PySem PySem.Spec PyProof.Rows L2
/-- where a def stands -/
structure AtF (K : PySem.W.Frag) (n : Str) (st : Stmt) (f : Addr) (fd : FuncData) : Prop where
  a : PySem.W.nsIn K mainGlobals n = some (some (.ref f))
  l : ∃ (oc : Value) (od : Option Addr) (kV doc pm : Value) (an : Option Addr) (cd ct : Value) (sl : Array (Option Value)), fd = PySem.W.fnOf n n (defArgs st) (defBody st) (defScope st) .none kV doc pm an cd ct ∧
    K.lookup f = some ⟨oc, od, .func (PySem.W.fnOf n n (defArgs st) (defBody st) (defScope st) .none kV doc pm an cd ct), sl⟩ ∧ PySem.W.codeIn K cd n = true
  k : PySem.W.keepIn K (.ref f) = true
theorem AtF.F {K : PySem.W.Frag} {n : Str} {st : Stmt} {f : Addr} {fd : FuncData} (h : AtF K n st f fd) : Fun K n n st f fd := by
  obtain ⟨oc, od, kV, doc, pm, an, cd, ct, sl, rfl, l, c⟩ := h.l
  exact fun_mk l c h.k
theorem only_sqF {K : PySem.W.Frag} {H : Hp} {a : Addr} {xs : List V} (ho : Only H) (h : SqL K H a xs) : SqF K H a xs := by
  rcases h with h | h
  · rcases h with h | h
    · rcases ho a with e | ⟨o, ys, e⟩ <;> (rw [e] at h; cases h)
    · exact .inl h
  · exact .inr h
theorem all_mk {l : PySem.W.OpenLaw} {w : World} {K : PySem.W.Frag} {h : Heap} {mg : Str → Option Value} {fa0 : Addr} (X : K.In h) (G : h.Ns mainGlobals mg) (hfa : mg "law" = some (.ref fa0))
    {f_near_names : Addr} {d_near_names : FuncData}
    {f_place_of : Addr} {d_place_of : FuncData}
    {f_do_clash : Addr} {d_do_clash : FuncData}
    {f_clash_of : Addr} {d_clash_of : FuncData}
    {f_note_one : Addr} {d_note_one : FuncData}
    {f_first_clash : Addr} {d_first_clash : FuncData}
    {f_is_clean : Addr} {d_is_clean : FuncData}
    {f_words_moved : Addr} {d_words_moved : FuncData}
    {f_one_order : Addr} {d_one_order : FuncData}
    {f_events_by_lane : Addr} {d_events_by_lane : FuncData}
    {f__law_begun : Addr} {d__law_begun : FuncData}
    {f__law_draw : Addr} {d__law_draw : FuncData}
    {f__law_names : Addr} {d__law_names : FuncData}
    {f__law_kernel : Addr} {d__law_kernel : FuncData}
    {f__law_events : Addr} {d__law_events : FuncData}
    {f__law_is_near : Addr} {d__law_is_near : FuncData}
    {f__law_clashing : Addr} {d__law_clashing : FuncData}
    {f__law_first_clash : Addr} {d__law_first_clash : FuncData}
    {f__law_merged : Addr} {d__law_merged : FuncData}
    {f__law_others : Addr} {d__law_others : FuncData}
    {f__law_by_lanes : Addr} {d__law_by_lanes : FuncData}
    {f__law_row_right : Addr} {d__law_row_right : FuncData}
    {f_law : Addr} {d_law : FuncData}
    {ti_MANY : Tok}
    (h_near_names : AtF K "near_names" s_near_names f_near_names d_near_names)
    (h_place_of : AtF K "place_of" s_place_of f_place_of d_place_of)
    (h_do_clash : AtF K "do_clash" s_do_clash f_do_clash d_do_clash)
    (h_clash_of : AtF K "clash_of" s_clash_of f_clash_of d_clash_of)
    (h_note_one : AtF K "note_one" s_note_one f_note_one d_note_one)
    (h_first_clash : AtF K "first_clash" s_first_clash f_first_clash d_first_clash)
    (h_is_clean : AtF K "is_clean" s_is_clean f_is_clean d_is_clean)
    (h_words_moved : AtF K "words_moved" s_words_moved f_words_moved d_words_moved)
    (h_one_order : AtF K "one_order" s_one_order f_one_order d_one_order)
    (h_events_by_lane : AtF K "events_by_lane" s_events_by_lane f_events_by_lane d_events_by_lane)
    (h__law_begun : AtF K "_law_begun" s__law_begun f__law_begun d__law_begun)
    (h__law_draw : AtF K "_law_draw" s__law_draw f__law_draw d__law_draw)
    (h__law_names : AtF K "_law_names" s__law_names f__law_names d__law_names)
    (h__law_kernel : AtF K "_law_kernel" s__law_kernel f__law_kernel d__law_kernel)
    (h__law_events : AtF K "_law_events" s__law_events f__law_events d__law_events)
    (h__law_is_near : AtF K "_law_is_near" s__law_is_near f__law_is_near d__law_is_near)
    (h__law_clashing : AtF K "_law_clashing" s__law_clashing f__law_clashing d__law_clashing)
    (h__law_first_clash : AtF K "_law_first_clash" s__law_first_clash f__law_first_clash d__law_first_clash)
    (h__law_merged : AtF K "_law_merged" s__law_merged f__law_merged d__law_merged)
    (h__law_others : AtF K "_law_others" s__law_others f__law_others d__law_others)
    (h__law_by_lanes : AtF K "_law_by_lanes" s__law_by_lanes f__law_by_lanes d__law_by_lanes)
    (h__law_row_right : AtF K "_law_row_right" s__law_row_right f__law_row_right d__law_row_right)
    (h_law : AtF K "law" s_law f_law d_law)
    (z_enumerate : PySem.W.nsIn K mainGlobals "enumerate" = some none)
    (z_len : PySem.W.nsIn K mainGlobals "len" = some none)
    (z_list : PySem.W.nsIn K mainGlobals "list" = some none)
    (z_max : PySem.W.nsIn K mainGlobals "max" = some none)
    (z_range : PySem.W.nsIn K mainGlobals "range" = some none)
    (z_repr : PySem.W.nsIn K mainGlobals "repr" = some none)
    (z_set : PySem.W.nsIn K mainGlobals "set" = some none)
    (z_sorted : PySem.W.nsIn K mainGlobals "sorted" = some none)
    (z_tuple : PySem.W.nsIn K mainGlobals "tuple" = some none)
    (y_MANY : PySem.W.nsIn K mainGlobals "MANY" = some (some (.str "many" ti_MANY))) :
    ∃ fd : FuncData, (∀ (s : Shared) (u : Value), BindsTo s fd ⟨[u], []⟩ [("script", u)]) ∧ ∀ base : Heap, K.In base → base.Ns mainGlobals mg → KG.FnG l.prog w K mg base 7 fa0 fd ["script"] (spLaw K) := by
  have e := hfa.symm.trans (PySem.W.mg_of X G h_law.a)
  cases e
  obtain ⟨oL, pL, qL, rL, sL, tL, uL, vL, wL, dL, lL, cL⟩ := h_law.l
  subst dL
  have b_near_names := Fun.binds (ps := ["kernel"]) h_near_names.F fun _ _ _ _ _ _ us hl => match us, hl with | [_], _ => rfl
  have b_place_of := Fun.binds (ps := ["near", "event"]) h_place_of.F fun _ _ _ _ _ _ us hl => match us, hl with | [_, _], _ => rfl
  have b_do_clash := Fun.binds (ps := ["near", "one", "other"]) h_do_clash.F fun _ _ _ _ _ _ us hl => match us, hl with | [_, _, _], _ => rfl
  have b_clash_of := Fun.binds (ps := ["kernel", "events"]) h_clash_of.F fun _ _ _ _ _ _ us hl => match us, hl with | [_, _], _ => rfl
  have b_note_one := Fun.binds (ps := ["seen", "key", "who"]) h_note_one.F fun _ _ _ _ _ _ us hl => match us, hl with | [_, _, _], _ => rfl
  have b_first_clash := Fun.binds (ps := ["near", "events", "number"]) h_first_clash.F fun _ _ _ _ _ _ us hl => match us, hl with | [_, _, _], _ => rfl
  have b_is_clean := Fun.binds (ps := ["kernel", "events"]) h_is_clean.F fun _ _ _ _ _ _ us hl => match us, hl with | [_, _], _ => rfl
  have b_words_moved := Fun.binds (ps := ["kernel", "events"]) h_words_moved.F fun _ _ _ _ _ _ us hl => match us, hl with | [_, _], _ => rfl
  have b_one_order := Fun.binds (ps := ["events", "others"]) h_one_order.F fun _ _ _ _ _ _ us hl => match us, hl with | [_, _], _ => rfl
  have b_events_by_lane := Fun.binds (ps := ["events"]) h_events_by_lane.F fun _ _ _ _ _ _ us hl => match us, hl with | [_], _ => rfl
  have b__law_begun := Fun.binds (ps := ["script"]) h__law_begun.F fun _ _ _ _ _ _ us hl => match us, hl with | [_], _ => rfl
  have b__law_draw := Fun.binds (ps := ["m", "count"]) h__law_draw.F fun _ _ _ _ _ _ us hl => match us, hl with | [_, _], _ => rfl
  have b__law_names := Fun.binds (ps := ["m"]) h__law_names.F fun _ _ _ _ _ _ us hl => match us, hl with | [_], _ => rfl
  have b__law_kernel := Fun.binds (ps := ["m", "names"]) h__law_kernel.F fun _ _ _ _ _ _ us hl => match us, hl with | [_, _], _ => rfl
  have b__law_events := Fun.binds (ps := ["m", "names", "many"]) h__law_events.F fun _ _ _ _ _ _ us hl => match us, hl with | [_, _, _], _ => rfl
  have b__law_is_near := Fun.binds (ps := ["kern", "name"]) h__law_is_near.F fun _ _ _ _ _ _ us hl => match us, hl with | [_, _], _ => rfl
  have b__law_clashing := Fun.binds (ps := ["kern", "one", "two"]) h__law_clashing.F fun _ _ _ _ _ _ us hl => match us, hl with | [_, _, _], _ => rfl
  have b__law_first_clash := Fun.binds (ps := ["kern", "some"]) h__law_first_clash.F fun _ _ _ _ _ _ us hl => match us, hl with | [_, _], _ => rfl
  have b__law_merged := Fun.binds (ps := ["m", "some"]) h__law_merged.F fun _ _ _ _ _ _ us hl => match us, hl with | [_, _], _ => rfl
  have b__law_others := Fun.binds (ps := ["m", "some"]) h__law_others.F fun _ _ _ _ _ _ us hl => match us, hl with | [_, _], _ => rfl
  have b__law_by_lanes := Fun.binds (ps := ["some"]) h__law_by_lanes.F fun _ _ _ _ _ _ us hl => match us, hl with | [_], _ => rfl
  have b__law_row_right := Fun.binds (ps := ["m", "kern", "some"]) h__law_row_right.F fun _ _ _ _ _ _ us hl => match us, hl with | [_, _, _], _ => rfl
  have b_law := Fun.binds (ps := ["script"]) h_law.F fun _ _ _ _ _ _ us hl => match us, hl with | [_], _ => rfl
  let TL : TxL K mg := { near_names := { f := f_near_names, d := _, F := h_near_names.F, g := PySem.W.mg_of X G h_near_names.a, b := b_near_names }, place_of := { f := f_place_of, d := _, F := h_place_of.F, g := PySem.W.mg_of X G h_place_of.a, b := b_place_of }, do_clash := { f := f_do_clash, d := _, F := h_do_clash.F, g := PySem.W.mg_of X G h_do_clash.a, b := b_do_clash }, clash_of := { f := f_clash_of, d := _, F := h_clash_of.F, g := PySem.W.mg_of X G h_clash_of.a, b := b_clash_of }, note_one := { f := f_note_one, d := _, F := h_note_one.F, g := PySem.W.mg_of X G h_note_one.a, b := b_note_one }, first_clash := { f := f_first_clash, d := _, F := h_first_clash.F, g := PySem.W.mg_of X G h_first_clash.a, b := b_first_clash }, is_clean := { f := f_is_clean, d := _, F := h_is_clean.F, g := PySem.W.mg_of X G h_is_clean.a, b := b_is_clean }, words_moved := { f := f_words_moved, d := _, F := h_words_moved.F, g := PySem.W.mg_of X G h_words_moved.a, b := b_words_moved }, one_order := { f := f_one_order, d := _, F := h_one_order.F, g := PySem.W.mg_of X G h_one_order.a, b := b_one_order }, events_by_lane := { f := f_events_by_lane, d := _, F := h_events_by_lane.F, g := PySem.W.mg_of X G h_events_by_lane.a, b := b_events_by_lane }, _law_begun := { f := f__law_begun, d := _, F := h__law_begun.F, g := PySem.W.mg_of X G h__law_begun.a, b := b__law_begun }, _law_draw := { f := f__law_draw, d := _, F := h__law_draw.F, g := PySem.W.mg_of X G h__law_draw.a, b := b__law_draw }, _law_names := { f := f__law_names, d := _, F := h__law_names.F, g := PySem.W.mg_of X G h__law_names.a, b := b__law_names }, _law_kernel := { f := f__law_kernel, d := _, F := h__law_kernel.F, g := PySem.W.mg_of X G h__law_kernel.a, b := b__law_kernel }, _law_events := { f := f__law_events, d := _, F := h__law_events.F, g := PySem.W.mg_of X G h__law_events.a, b := b__law_events }, _law_is_near := { f := f__law_is_near, d := _, F := h__law_is_near.F, g := PySem.W.mg_of X G h__law_is_near.a, b := b__law_is_near }, _law_clashing := { f := f__law_clashing, d := _, F := h__law_clashing.F, g := PySem.W.mg_of X G h__law_clashing.a, b := b__law_clashing }, _law_first_clash := { f := f__law_first_clash, d := _, F := h__law_first_clash.F, g := PySem.W.mg_of X G h__law_first_clash.a, b := b__law_first_clash }, _law_merged := { f := f__law_merged, d := _, F := h__law_merged.F, g := PySem.W.mg_of X G h__law_merged.a, b := b__law_merged }, _law_others := { f := f__law_others, d := _, F := h__law_others.F, g := PySem.W.mg_of X G h__law_others.a, b := b__law_others }, _law_by_lanes := { f := f__law_by_lanes, d := _, F := h__law_by_lanes.F, g := PySem.W.mg_of X G h__law_by_lanes.a, b := b__law_by_lanes }, _law_row_right := { f := f__law_row_right, d := _, F := h__law_row_right.F, g := PySem.W.mg_of X G h__law_row_right.a, b := b__law_row_right }, law := { f := fa0, d := _, F := h_law.F, g := PySem.W.mg_of X G h_law.a, b := b_law }, n_enumerate := PySem.W.mg_none_of X G z_enumerate, n_len := PySem.W.mg_none_of X G z_len, n_list := PySem.W.mg_none_of X G z_list, n_max := PySem.W.mg_none_of X G z_max, n_range := PySem.W.mg_none_of X G z_range, n_repr := PySem.W.mg_none_of X G z_repr, n_set := PySem.W.mg_none_of X G z_set, n_sorted := PySem.W.mg_none_of X G z_sorted, n_tuple := PySem.W.mg_none_of X G z_tuple, c_MANY := ⟨_, PySem.W.mg_of X G y_MANY⟩ }
  exact ⟨TL.law.d, fun s v => .of_eq rfl, fun base _ _ => ok_law TL⟩
end LW

set_option Elab.async false
set_option linter.all false
set_option maxRecDepth 100000
open PySem PySem.W PyProof.Rows
set_option maxHeartbeats 0 in
theorem PySem.Challenge.cw_lanewright_k62_clashes_and_words_told_holds : PySem.Challenge.rw_lanewright_k62_clashes_and_words_told.Holds := by
  w_on; o_law; k_head; (case hw => w_witness2)
  k_fill
  refine KG.walk_end (l := PySem.Challenge.rw_lanewright_k62_clashes_and_words_told) (n := 63) (k := 7) (x := "script") (sp := fun w => LW.spLaw _) rfl (by decide) rfl ⟨rfl, by decide, by decide⟩ (fun w h Y => PySem.W.kIn_of Y) ?F (fun _ _ a ns hl ho hS => ⟨a, ns, rfl, LW.only_sqF ho hS, hl, fun _ => rfl⟩)
  case F =>
    intro w mg fa h KX G hmg
    replace hmg : mg "law" = some (.ref fa) := hmg
    refine' LW.all_mk KX G hmg ?zz0 ?zz1 ?zz2 ?zz3 ?zz4 ?zz5 ?zz6 ?zz7 ?zz8 ?zz9 ?zz10 ?zz11 ?zz12 ?zz13 ?zz14 ?zz15 ?zz16 ?zz17 ?zz18 ?zz19 ?zz20 ?zz21 ?zz22 ?zz23 ?zz24 ?zz25 ?zz26 ?zz27 ?zz28 ?zz29 ?zz30 ?zz31 ?zz32
    (case zz0 => refine' ⟨?fa, ⟨_, _, _, _, _, _, _, _, _, rfl, ?fl, ?fc⟩, ?fk⟩; (case fa => first | (k_is; done) | decide +kernel | rfl); (case fl => first | (k_is; done) | decide +kernel | rfl); (case fc => first | (k_is; done) | decide +kernel | rfl); (case fk => first | (k_is; done) | decide +kernel | rfl)); (case zz1 => refine' ⟨?fa, ⟨_, _, _, _, _, _, _, _, _, rfl, ?fl, ?fc⟩, ?fk⟩; (case fa => first | (k_is; done) | decide +kernel | rfl); (case fl => first | (k_is; done) | decide +kernel | rfl); (case fc => first | (k_is; done) | decide +kernel | rfl); (case fk => first | (k_is; done) | decide +kernel | rfl)); (case zz2 => refine' ⟨?fa, ⟨_, _, _, _, _, _, _, _, _, rfl, ?fl, ?fc⟩, ?fk⟩; (case fa => first | (k_is; done) | decide +kernel | rfl); (case fl => first | (k_is; done) | decide +kernel | rfl); (case fc => first | (k_is; done) | decide +kernel | rfl); (case fk => first | (k_is; done) | decide +kernel | rfl)); (case zz3 => refine' ⟨?fa, ⟨_, _, _, _, _, _, _, _, _, rfl, ?fl, ?fc⟩, ?fk⟩; (case fa => first | (k_is; done) | decide +kernel | rfl); (case fl => first | (k_is; done) | decide +kernel | rfl); (case fc => first | (k_is; done) | decide +kernel | rfl); (case fk => first | (k_is; done) | decide +kernel | rfl)); (case zz4 => refine' ⟨?fa, ⟨_, _, _, _, _, _, _, _, _, rfl, ?fl, ?fc⟩, ?fk⟩; (case fa => first | (k_is; done) | decide +kernel | rfl); (case fl => first | (k_is; done) | decide +kernel | rfl); (case fc => first | (k_is; done) | decide +kernel | rfl); (case fk => first | (k_is; done) | decide +kernel | rfl)); (case zz5 => refine' ⟨?fa, ⟨_, _, _, _, _, _, _, _, _, rfl, ?fl, ?fc⟩, ?fk⟩; (case fa => first | (k_is; done) | decide +kernel | rfl); (case fl => first | (k_is; done) | decide +kernel | rfl); (case fc => first | (k_is; done) | decide +kernel | rfl); (case fk => first | (k_is; done) | decide +kernel | rfl)); (case zz6 => refine' ⟨?fa, ⟨_, _, _, _, _, _, _, _, _, rfl, ?fl, ?fc⟩, ?fk⟩; (case fa => first | (k_is; done) | decide +kernel | rfl); (case fl => first | (k_is; done) | decide +kernel | rfl); (case fc => first | (k_is; done) | decide +kernel | rfl); (case fk => first | (k_is; done) | decide +kernel | rfl)); (case zz7 => refine' ⟨?fa, ⟨_, _, _, _, _, _, _, _, _, rfl, ?fl, ?fc⟩, ?fk⟩; (case fa => first | (k_is; done) | decide +kernel | rfl); (case fl => first | (k_is; done) | decide +kernel | rfl); (case fc => first | (k_is; done) | decide +kernel | rfl); (case fk => first | (k_is; done) | decide +kernel | rfl)); (case zz8 => refine' ⟨?fa, ⟨_, _, _, _, _, _, _, _, _, rfl, ?fl, ?fc⟩, ?fk⟩; (case fa => first | (k_is; done) | decide +kernel | rfl); (case fl => first | (k_is; done) | decide +kernel | rfl); (case fc => first | (k_is; done) | decide +kernel | rfl); (case fk => first | (k_is; done) | decide +kernel | rfl)); (case zz9 => refine' ⟨?fa, ⟨_, _, _, _, _, _, _, _, _, rfl, ?fl, ?fc⟩, ?fk⟩; (case fa => first | (k_is; done) | decide +kernel | rfl); (case fl => first | (k_is; done) | decide +kernel | rfl); (case fc => first | (k_is; done) | decide +kernel | rfl); (case fk => first | (k_is; done) | decide +kernel | rfl)); (case zz10 => refine' ⟨?fa, ⟨_, _, _, _, _, _, _, _, _, rfl, ?fl, ?fc⟩, ?fk⟩; (case fa => first | (k_is; done) | decide +kernel | rfl); (case fl => first | (k_is; done) | decide +kernel | rfl); (case fc => first | (k_is; done) | decide +kernel | rfl); (case fk => first | (k_is; done) | decide +kernel | rfl)); (case zz11 => refine' ⟨?fa, ⟨_, _, _, _, _, _, _, _, _, rfl, ?fl, ?fc⟩, ?fk⟩; (case fa => first | (k_is; done) | decide +kernel | rfl); (case fl => first | (k_is; done) | decide +kernel | rfl); (case fc => first | (k_is; done) | decide +kernel | rfl); (case fk => first | (k_is; done) | decide +kernel | rfl)); (case zz12 => refine' ⟨?fa, ⟨_, _, _, _, _, _, _, _, _, rfl, ?fl, ?fc⟩, ?fk⟩; (case fa => first | (k_is; done) | decide +kernel | rfl); (case fl => first | (k_is; done) | decide +kernel | rfl); (case fc => first | (k_is; done) | decide +kernel | rfl); (case fk => first | (k_is; done) | decide +kernel | rfl)); (case zz13 => refine' ⟨?fa, ⟨_, _, _, _, _, _, _, _, _, rfl, ?fl, ?fc⟩, ?fk⟩; (case fa => first | (k_is; done) | decide +kernel | rfl); (case fl => first | (k_is; done) | decide +kernel | rfl); (case fc => first | (k_is; done) | decide +kernel | rfl); (case fk => first | (k_is; done) | decide +kernel | rfl)); (case zz14 => refine' ⟨?fa, ⟨_, _, _, _, _, _, _, _, _, rfl, ?fl, ?fc⟩, ?fk⟩; (case fa => first | (k_is; done) | decide +kernel | rfl); (case fl => first | (k_is; done) | decide +kernel | rfl); (case fc => first | (k_is; done) | decide +kernel | rfl); (case fk => first | (k_is; done) | decide +kernel | rfl)); (case zz15 => refine' ⟨?fa, ⟨_, _, _, _, _, _, _, _, _, rfl, ?fl, ?fc⟩, ?fk⟩; (case fa => first | (k_is; done) | decide +kernel | rfl); (case fl => first | (k_is; done) | decide +kernel | rfl); (case fc => first | (k_is; done) | decide +kernel | rfl); (case fk => first | (k_is; done) | decide +kernel | rfl)); (case zz16 => refine' ⟨?fa, ⟨_, _, _, _, _, _, _, _, _, rfl, ?fl, ?fc⟩, ?fk⟩; (case fa => first | (k_is; done) | decide +kernel | rfl); (case fl => first | (k_is; done) | decide +kernel | rfl); (case fc => first | (k_is; done) | decide +kernel | rfl); (case fk => first | (k_is; done) | decide +kernel | rfl)); (case zz17 => refine' ⟨?fa, ⟨_, _, _, _, _, _, _, _, _, rfl, ?fl, ?fc⟩, ?fk⟩; (case fa => first | (k_is; done) | decide +kernel | rfl); (case fl => first | (k_is; done) | decide +kernel | rfl); (case fc => first | (k_is; done) | decide +kernel | rfl); (case fk => first | (k_is; done) | decide +kernel | rfl)); (case zz18 => refine' ⟨?fa, ⟨_, _, _, _, _, _, _, _, _, rfl, ?fl, ?fc⟩, ?fk⟩; (case fa => first | (k_is; done) | decide +kernel | rfl); (case fl => first | (k_is; done) | decide +kernel | rfl); (case fc => first | (k_is; done) | decide +kernel | rfl); (case fk => first | (k_is; done) | decide +kernel | rfl)); (case zz19 => refine' ⟨?fa, ⟨_, _, _, _, _, _, _, _, _, rfl, ?fl, ?fc⟩, ?fk⟩; (case fa => first | (k_is; done) | decide +kernel | rfl); (case fl => first | (k_is; done) | decide +kernel | rfl); (case fc => first | (k_is; done) | decide +kernel | rfl); (case fk => first | (k_is; done) | decide +kernel | rfl)); (case zz20 => refine' ⟨?fa, ⟨_, _, _, _, _, _, _, _, _, rfl, ?fl, ?fc⟩, ?fk⟩; (case fa => first | (k_is; done) | decide +kernel | rfl); (case fl => first | (k_is; done) | decide +kernel | rfl); (case fc => first | (k_is; done) | decide +kernel | rfl); (case fk => first | (k_is; done) | decide +kernel | rfl)); (case zz21 => refine' ⟨?fa, ⟨_, _, _, _, _, _, _, _, _, rfl, ?fl, ?fc⟩, ?fk⟩; (case fa => first | (k_is; done) | decide +kernel | rfl); (case fl => first | (k_is; done) | decide +kernel | rfl); (case fc => first | (k_is; done) | decide +kernel | rfl); (case fk => first | (k_is; done) | decide +kernel | rfl)); (case zz22 => refine' ⟨?fa, ⟨_, _, _, _, _, _, _, _, _, rfl, ?fl, ?fc⟩, ?fk⟩; (case fa => first | (k_is; done) | decide +kernel | rfl); (case fl => first | (k_is; done) | decide +kernel | rfl); (case fc => first | (k_is; done) | decide +kernel | rfl); (case fk => first | (k_is; done) | decide +kernel | rfl)); (case zz23 => first | (k_is; done) | decide +kernel | rfl); (case zz24 => first | (k_is; done) | decide +kernel | rfl); (case zz25 => first | (k_is; done) | decide +kernel | rfl); (case zz26 => first | (k_is; done) | decide +kernel | rfl); (case zz27 => first | (k_is; done) | decide +kernel | rfl); (case zz28 => first | (k_is; done) | decide +kernel | rfl); (case zz29 => first | (k_is; done) | decide +kernel | rfl); (case zz30 => first | (k_is; done) | decide +kernel | rfl); (case zz31 => first | (k_is; done) | decide +kernel | rfl); (case zz32 => first | (k_is; done) | decide +kernel | rfl)
#print axioms PySem.Challenge.cw_lanewright_k62_clashes_and_words_told_holds
