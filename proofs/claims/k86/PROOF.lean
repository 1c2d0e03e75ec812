import PyProof.Rows.All
import Wide.All
import OpenK.AllK
import Wide.FinOn
import HandS.ForMost
import HandS.Zip
import KE.GoesZip
import KE.GoesMore
import KE.GoesEnum
import HandS.Conv
import HandS.Wide
import HandS.More
import HandS.SortRule
import HandS.IterVal
import PyProof.Rows.SetFrom
import HandS.IsInst
import HandS.ExcCtx
import HandS.RaiseMore
import PyProof.ReprRoads
import PyProof.ReprBulk
import PyProof.Rows.StrMul
import KE.KxIndex
import PyProof.FitsInt
import PyProof.Rows.ReprShort
import HandS.TupAny
import HandS.Strs
import HandS.Sort
import HandS.HotCalls
import HandS.ExcInit
import HandS.ExcField
import KE.KExcIs
import KE.KTryMore
import HandS.Style
import PyProof.P3Eq
import HandS.ExcIs
import PyProof.Rows.StrJoinRep
import HandS.ReCall
import HandS.OwnEq
import HandS.NoneIn
import PyProof.ListNew
import PyProof.WalksMore
import HandS.Property
import HandS.TupMul
import HandS.Rev
import HandS.ExcOwn
import HandS.Lambda
import HandS.EndTab
import KE.KNestM
import PyProof.EqKinds
import KE.KEqDict
import HandS.ExcValue
import PyProof.NeKinds
import HandS.Small
import HandS.CallLocal
import PySem.Challenge.RW_pupilpairs_k86_arrangements_behind_calls
import KE.DataCmp
import HandS.Deep
set_option Elab.async false
set_option maxRecDepth 100000
set_option maxHeartbeats 2000000
namespace Zst
open PySem PySem.Spec PyProof.Rows L2

/-- what a zip of the text x and the tuple at b yields -/
def ItzS (K : PySem.W.Frag) (x : Str) (b : Addr) : It :=
  ⟨fun i H => ∃ (ys : List V) (c : Nat) (y : V), SqT K H b ys ∧ x.cps[i]? = some c ∧ ys[i]? = some y,
    fun i H v H' => ∃ (T : Addr) (c : Nat) (y : V), v = .ref T ∧ H T = none ∧ H' = upd H T (.tup [.str ⟨#[c]⟩, y]) ∧ x.cps[i]? = some c ∧ ∀ ys, SqT K H b ys → ys[i]? = some y,
    fun i H => ∃ ys : List V, SqT K H b ys ∧ ((x.cps.size = i ∧ i ≤ ys.length) ∨ (ys.length = i ∧ i ≤ x.cps.size))⟩

def tnS (z TI TO i1 i2 b : Addr) (x : Str) (t : Tok) (i : Nat) (h : Heap) : Prop :=
  IsZip h z TI TO .none ∧ IsTupOf2 h TI (.ref i1) (.ref i2) ∧ (∃ u v, IsTupOf2 h TO u v) ∧ h.IsStrIter i1 (strIterType x) x t i ∧ h.IsTupleIter i2 b i

theorem turnS {P : Program} {w : World} {K : PySem.W.Frag} {elts : List Expr} {kk : Nat} {tpos : Pos} {z TI TO i1 i2 b : Addr} {x : Str} {t : Tok} (D : ZipSep2 z TI TO i1 i2 [i1] [i2, b]) (hbi : b ≠ i2) :
    Turn P w K (.Tuple elts kk tpos) (ItzS K x b) [z, TI, TO, i1, i2] z (tnS z TI TO i1 i2 b x t) where
  mem := by simp
  obj := by
    rintro i h ⟨g1, g2, ⟨u, v, g3⟩, ⟨o4, g4, _, d4⟩, ⟨o5, g5, _, d5⟩⟩ c hc
    have hc' : c = z ∨ c = TI ∨ c = TO ∨ c = i1 ∨ c = i2 := by simpa using hc
    rcases hc' with rfl | rfl | rfl | rfl | rfl
    · exact ⟨_, g1, fun _ q => nomatch q⟩
    · exact ⟨_, g2, fun _ q => nomatch q⟩
    · exact ⟨_, g3, fun _ q => nomatch q⟩
    · exact ⟨_, g4, fun _ q => by rw [d4] at q; cases q⟩
    · exact ⟨_, g5, fun _ q => by rw [d5] at q; cases q⟩
  keep := by
    rintro i h h' ⟨g1, g2, ⟨u, v, g3⟩, ⟨o4, g4, r4⟩, g5⟩ k
    exact ⟨k z (by simp) _ g1, k TI (by simp) _ g2, ⟨u, v, k TO (by simp) _ g3⟩, ⟨o4, k i1 (by simp) _ g4, r4⟩, g5.at fun o q => k i2 (by simp) o q⟩
  item := by
    intro X hP hw hK hc i pins s σ H E I hf st hg
    subst hP hw hK
    obtain ⟨g1, g2, ⟨u, v, g3⟩, g4, g5⟩ := st
    obtain ⟨ys, c, y, hq, hcx, hy⟩ := hg
    obtain ⟨its, rv, p, _⟩ := I.tuple hq
    have hd : X.A.handled = none := I.ok.hd hc
    have hi1 : i < x.cps.size := (Array.getElem?_eq_some_iff.mp hcx).1
    have hi2 : i < its.toArray.size := by
      have q1 := (List.getElem?_eq_some_iff.mp hy).1
      have q2 := rv.length
      simp
      omega
    have D1 := Draws.text (prog := X.prog) (w := X.w) (A := X.A.in1) hd i1 x t
    have D2 := Draws.tuple (prog := X.prog) (w := X.w) (A := X.A.in1) hd i2 b hbi its.toArray
    refine wpAny_pyNext_zipD2_item D D1 D2 g1 g2 g3 g4 ⟨g5, p⟩ hi1 hi2 fun x1 x2 h' tk e1 e2 b1 b2 d1 d2 b5 b6 b7 => ?_
    have zlt : z < s.heap.objs.size := Heap.lt_size g1
    refine ⟨_, rfl, wpAny_letOwnedTupleGo_zip (s := { s with heap := h', toks := tk }) b1 fun h'' c1 sb => ?_⟩
    obtain ⟨cc, tt, hcc, rfl⟩ := e1
    have ecc : cc = c := Option.some.inj (hcc.symm.trans hcx)
    subst ecc
    obtain ⟨u2, hu2, ru2⟩ := rv.get hy
    have eu : x2 = u2 := by
      have q : its.toArray[i]? = some x2 := e2
      rw [List.getElem?_toArray, hu2] at q
      exact (Option.some.inj q).symm
    subst eu
    have hT : h''.get? s.heap.objs.size = some { cls := .type "tuple", data := .seq #[Value.str ⟨#[cc]⟩ tt, x2] } := (sb.2 _ (Nat.ne_of_gt zlt)).trans b5
    have new : ObjOk X.prog X.w (upd H s.heap.objs.size (.tup [.str ⟨#[cc]⟩, y])) h'' s.heap.objs.size (.tup [.str ⟨#[cc]⟩, y]) :=
      ⟨by show 2 ≤ sizeLine; decide, [Value.str ⟨#[cc]⟩ tt, x2], .cons ⟨tt, rfl⟩ (.cons ru2 .nil), ⟨_, hT, rfl, _, rfl⟩⟩
    have keepAll : ∀ a o, a ≠ z → a ≠ TO → a ≠ i1 → a ≠ i2 → s.heap.get? a = some o → h''.get? a = some o := fun a o n1 n2 n3 n4 q => (sb.2 a n1).trans (b7 a o n1 n2 n3 n4 q)
    have I1 : Inv X pins σ (upd H s.heap.objs.size (.tup [.str ⟨#[cc]⟩, y])) { s with heap := h'', toks := tk } :=
      I.turnedNew (t' := tk) (ch := [z, TI, TO, i1, i2]) (fun a o ha q => keepAll a o (fun q' => ha (by simp [q'])) (fun q' => ha (by simp [q'])) (fun q' => ha (by simp [q'])) (fun q' => ha (by simp [q'])) q) hf (Nat.le_refl _) new
    have d2' := d2.1
    refine ⟨.ref s.heap.objs.size, _, I1, rfl, ⟨_, cc, y, rfl, I.hok.fresh (Nat.le_refl _), rfl, hcx, fun l hl => by rw [I.tuple_inj hl hq]; exact hy⟩, ⟨c1, ?_, ⟨_, _, (sb.2 _ D.TOz).trans b2⟩, ?_, ?_⟩, fun a ha => ?_⟩
    · exact keepAll TI _ D.TIz D.TITO D.TIi1 D.TIi2 g2
    · obtain ⟨o4, q4, r4⟩ := d1
      exact ⟨o4, (sb.2 _ D.zi1.symm).trans q4, r4⟩
    · exact d2'.at fun o q => (sb.2 _ D.zi2.symm).trans q
    · have alt : a < s.heap.objs.size := by
        have ha' : a = z ∨ a = TI ∨ a = TO ∨ a = i1 ∨ a = i2 := by simpa using ha
        rcases ha' with rfl | rfl | rfl | rfl | rfl
        · exact zlt
        · exact Heap.lt_size g2
        · exact Heap.lt_size g3
        · obtain ⟨_, q, _⟩ := g4; exact Heap.lt_size q
        · obtain ⟨_, q, _⟩ := g5; exact Heap.lt_size q
      rw [upd_ne (Nat.ne_of_lt alt)]
      exact (hf a ha).1
  done := by
    intro X hP hw hK hc i pins s σ H E I hf st hg
    subst hP hw hK
    obtain ⟨g1, g2, ⟨u, v, g3⟩, g4, g5⟩ := st
    obtain ⟨ys, hq, hend⟩ := hg
    obtain ⟨its, rv, p, _⟩ := I.tuple hq
    have hd : X.A.handled = none := I.ok.hd hc
    have l2 := rv.length
    have D1 := Draws.text (prog := X.prog) (w := X.w) (A := X.A.in1) hd i1 x t
    have D2 := Draws.tuple (prog := X.prog) (w := X.w) (A := X.A.in1) hd i2 b hbi its.toArray
    have sz : its.toArray.size = ys.length := by simp [l2]
    refine wpAny_pyNext_zipD2_end D D1 D2 g1 g2 g3 g4 ⟨g5, p⟩ (by omega) (by omega) (by omega) fun h' tk hk => ⟨rfl, ?_⟩
    exact I.turnedL (t' := tk) (ch := [z, TI, TO, i1, i2]) (fun a o ha q => hk a o (fun q' => ha (by simp [q'])) (fun q' => ha (by simp [q'])) (fun q' => ha (by simp [q'])) (fun q' => ha (by simp [q'])) q) hf
  self := fun A i s Q E st h => wpAny_pyIter_zip st.1 h

def iZipS (K : PySem.W.Frag) (ta : TA) : TI := fun σ H R => ta σ H fun vs H1 => ∃ (x : Str) (b : Addr) (ys : List V), vs = [.str x, .ref b] ∧ SqT K H1 b ys ∧ R (ItzS K x b) H1

theorem pi_zipS {X : Cx} {e e2 : Expr} {ta : TA} {p pos tpos : Pos} {elts : List Expr} {kk : Nat} (hg : Gl X "zip") (hm : X.mg "zip" = none) (ha : PA X [e, e2] ta)
    (hs : starEach [e, e2] X.env = (false, eval e X.env) :: starEach [e2] X.env := by rfl) (hpl : (backTo pos (starEach [e2] X.env)).any (·.1) = false := by rfl) :
    PI X (.Tuple elts kk tpos) (.Call (.Name "zip" p) [e, e2] [] pos) (iZipS X.K ta) := by
  constructor
  intro pins s σ H R I h
  refine Call_ (ld_blt I hg hm PyProof.Rows.boot_zip (PyProof.Rows.callWith_type1 (thn (ha.run pos pins s σ H _ I h) ?_) hs hpl))
  rintro us s1 ⟨vs, H1, I1, r1, x, b, ys, rfl, hq, q⟩
  match us, r1 with
  | _, .cons (b := u1) ⟨t, e1⟩ (.cons (b := u2) e2 .nil) =>
    subst e1
    have e2' : u2 = Value.ref b := e2
    subst e2'
    obtain ⟨its, rv, p1, _⟩ := I1.tuple hq
    have p1' : s1.heap.IsTuple b its.toArray := p1
    have blt : b < s1.heap.objs.size := by
      obtain ⟨_, q1, _⟩ := id p1
      exact Heap.lt_size q1
    refine zip_begins2 (begins_text x t) (begins_tuple b its.toArray) trivial p1' fun h' c1 c2 c3 c4 c5 hsz hk => wpAny_pyIter_zip c1 ?_
    have I2 : Inv X pins σ H1 { s1 with heap := h' } := I1.kept (t' := s1.toks) hk
    have D : ZipSep2 (s1.heap.objs.size + 4) (s1.heap.objs.size + 2) (s1.heap.objs.size + 3) s1.heap.objs.size (s1.heap.objs.size + 1) [s1.heap.objs.size] [s1.heap.objs.size + 1, b] :=
      zip_sep2 (fp1 := []) (fp2 := [b]) (fun c hc => nomatch hc) (fun c hc => by rw [List.mem_singleton.mp hc]; exact blt)
    refine ⟨s1.heap.objs.size + 4, [s1.heap.objs.size + 4, s1.heap.objs.size + 2, s1.heap.objs.size + 3, s1.heap.objs.size, s1.heap.objs.size + 1], _, _, H1, rfl, I2, turnS (x := x) (t := t) D (Nat.ne_of_lt (Nat.lt_succ_of_lt blt)), ⟨c1, c2, ⟨_, _, c3⟩, ⟨_, c4, rfl, rfl⟩, ⟨_, c5, rfl, rfl⟩⟩, fun c hc => ?_, q⟩
    have hc' : c = s1.heap.objs.size + 4 ∨ c = s1.heap.objs.size + 2 ∨ c = s1.heap.objs.size + 3 ∨ c = s1.heap.objs.size ∨ c = s1.heap.objs.size + 1 := by simpa using hc
    have hle : s1.heap.objs.size ≤ c := by
      rcases hc' with e | e | e | e | e
      all_goals first | exact e ▸ Nat.le_add_right _ _ | exact e ▸ Nat.le_refl _
    exact I1.fpOk hle (I1.hok.fresh hle)
end Zst

set_option Elab.async false
set_option maxRecDepth 100000
set_option maxHeartbeats 2000000
set_option linter.all false
/-! symbolic execution over the hand layer: what stays (Ex), and one rule a reading -/
namespace Sx
open PySem PySem.Spec PyProof.Rows L2

/-- not the four cells of a bag -/
def NB (o : HO) : Prop := ∀ x y z c, o ≠ .lst [.int x, .int y, .int z, .ref c]
theorem NB.tup {xs : List V} : NB (.tup xs) := fun _ _ _ _ h => nomatch h
theorem NB.len {xs : List V} (h : xs.length ≠ 4) : NB (.lst xs) := fun _ _ _ _ e => h (by injection e with e; rw [e]; rfl)
theorem NB.at0 {v : V} {xs : List V} (h : ∀ i, v ≠ .int i) : NB (.lst (v :: xs)) := fun _ _ _ _ e => by
  injection e with e
  exact h _ (List.cons.inj e).1
theorem NB.at3 {a b c v : V} {xs : List V} (h : ∀ i, v ≠ .ref i) : NB (.lst (a :: b :: c :: v :: xs)) := fun _ _ _ _ e => by
  injection e with e
  exact h _ (List.cons.inj (List.cons.inj (List.cons.inj (List.cons.inj e).2).2).2).1
theorem NB.ints {ns : List Int} : NB (.lst (ns.map V.int)) := fun x y z c e => by
  injection e with e
  have h := congrArg (fun l : List V => l[3]?) e
  simp only [List.getElem?_map] at h
  cases q : ns[3]? with
  | none => rw [q] at h; cases h
  | some n => rw [q] at h; cases h
theorem NB.refs {l : List V} (h : ∀ v ∈ l, ∃ a, v = .ref a) : NB (.lst l) := fun x y z c e => by
  injection e with e
  obtain ⟨a, q⟩ := h (.int x) (by rw [e]; simp)
  cases q
theorem NB.frz {o : Obj} {u : HO} : NB (.frz o u) := fun _ _ _ _ h => nomatch h
theorem NB.ins {C dx : Addr} {fs : List (Str × V)} : NB (.ins C dx fs) := fun _ _ _ _ h => nomatch h
theorem NB.own {x : Addr} : NB (.own x) := fun _ _ _ _ h => nomatch h

structure BagC (b c : Addr) (H : Hp) : Prop where
  ex : ∃ (x y z : Int) (ns : List Int), H b = some (.lst [.int x, .int y, .int z, .ref c]) ∧ H c = some (.lst (ns.map V.int)) ∧ 0 ≤ x ∧ 0 ≤ y ∧ y < 2147483647 ∧ 0 ≤ z
def Bag (b : Addr) (H : Hp) : Prop := ∃ c, BagC b c H
/-- all but bags stands as it stood, bags are bags -/
structure Ex (H H' : Hp) : Prop where
  kp : ∀ a o, H a = some o → NB o → H' a = some o
  bg : ∀ b c, BagC b c H → BagC b c H'
section
variable {H H' H1 H2 : Hp} {p a b c l : Addr} {o u : HO}
theorem Ex.refl (H : Hp) : Ex H H := ⟨fun _ _ h _ => h, fun _ _ h => h⟩
theorem Ex.trans (e : Ex H H1) (f : Ex H1 H2) : Ex H H2 := ⟨fun a o h n => f.kp a o (e.kp a o h n) n, fun b c h => f.bg b c (e.bg b c h)⟩
theorem Ex.bag (e : Ex H H1) (h : Bag b H) : Bag b H1 := let ⟨c, q⟩ := h; ⟨c, e.bg b c q⟩
theorem Ex.new (h : H p = none) : Ex H (upd H p o) := by
  have all : ∀ a o', H a = some o' → upd H p o a = some o' := fun a o' e => by rw [upd_ne (ne_of_none e h)]; exact e
  exact ⟨fun a o' e _ => all a o' e, fun b c ⟨x, y, z, ns, e1, e2, r⟩ => ⟨x, y, z, ns, all _ _ e1, all _ _ e2, r⟩⟩
theorem Ex.mut (e : Ex H H1) (h : H l = none) : Ex H (upd H1 l o) := by
  refine ⟨fun a o' q n => ?_, fun b c q => ?_⟩
  · rw [upd_ne (ne_of_none q h)]
    exact e.kp a o' q n
  · obtain ⟨x0, y0, z0, ns0, k1, k2, _⟩ := id q
    obtain ⟨x, y, z, ns, e1, e2, r⟩ := e.bg b c q
    exact ⟨x, y, z, ns, by rw [upd_ne (ne_of_none k1 h)]; exact e1, by rw [upd_ne (ne_of_none k2 h)]; exact e2, r⟩
theorem Ex.fresh (e : Ex H H1) (h : H1 a = none) (n : NB o) : H a ≠ some o := fun q => by
  rw [e.kp a o q n] at h
  cases h
/-! ### one rule a reading -/
variable {K : PySem.W.Frag} {σ : L2.St} {Q : VK} {v w : V} {D : Ends} {t u : TT} {ta tb te : TE} {A B : Prop}
theorem x_var {i : Nat} (hx : σ[i]? = some (some v)) (k : Q v H) : tVar i σ H Q := ⟨v, hx, k⟩
theorem x_c (k : Q v H) : tC v σ H Q := k
theorem x_op {r : R2} (k : ta σ H fun x H1 => tb σ H1 fun y H2 => r x y H2 Q) : tOp r ta tb σ H Q := k
theorem x_un {r : V → Hp → VK → Prop} (k : ta σ H fun x H1 => r x H1 Q) : tUn r ta σ H Q := k
theorem x_I0 {g : Int → Int → V} {i j : Int} (k : Q (g i j) H) : rI0 g (.int i) (.int j) H Q := ⟨i, j, rfl, rfl, k⟩
theorem x_I {C : Int → Int → Prop} {g : Int → Int → V} {i j : Int} (c : C i j) (k : Q (g i j) H) : rI C g (.int i) (.int j) H Q := ⟨i, j, rfl, rfl, c, k⟩
theorem x_U {g : Int → V} {i : Int} (k : Q (g i) H) : rU g (.int i) H Q := ⟨i, rfl, k⟩
theorem x_EqI {i j : Int} (k : Q (.bl (decide (i = j))) H) : rEq (.int i) (.int j) H Q := ⟨rfl, by
  rw [show decide ((V.int i) = .int j) = decide (i = j) from decide_eq_decide.mpr ⟨fun h => V.int.inj h, fun h => by rw [h]⟩]; exact k⟩
theorem x_NeI {i j : Int} (k : Q (.bl (!decide (i = j))) H) : rNe (.int i) (.int j) H Q := ⟨rfl, by
  rw [show decide ((V.int i) = .int j) = decide (i = j) from decide_eq_decide.mpr ⟨fun h => V.int.inj h, fun h => by rw [h]⟩]; exact k⟩
theorem x_EqS {i j : Str} (k : Q (.bl (decide (i = j))) H) : rEq (.str i) (.str j) H Q := ⟨rfl, by
  rw [show decide ((V.str i) = .str j) = decide (i = j) from decide_eq_decide.mpr ⟨fun h => V.str.inj h, fun h => by rw [h]⟩]; exact k⟩
theorem x_NeS {i j : Str} (k : Q (.bl (!decide (i = j))) H) : rNe (.str i) (.str j) H Q := ⟨rfl, by
  rw [show decide ((V.str i) = .str j) = decide (i = j) from decide_eq_decide.mpr ⟨fun h => V.str.inj h, fun h => by rw [h]⟩]; exact k⟩
theorem x_NeD {d e : PyData} (h1 : Dp K H v d) (h2 : Dp K H w e) (s1 : SeqAt.shaped d = true) (s2 : SeqAt.shaped e = true) (k : Q (.bl (!PyData.eqv d e)) H) : rNeD K v w H Q := ⟨d, e, h1, h2, s1, s2, k⟩
theorem x_chain {r r' : R2} {tc : TE} (k : ta σ H fun x H1 => tb σ H1 fun y H2 => r x y H2 fun z H3 => ∃ k, z = .bl k ∧ (if k = true then tc σ H3 fun z' H4 => r' y z' H4 Q else Q (.bl false) H3)) : tChain r r' ta tb tc σ H Q := k
-- lists, tuples
theorem x_ixL {xs : List V} {i : Int} (h : H p = some (.lst xs)) (hi : atI xs i = some v) (k : Q v H) : rIxL K (.ref p) (.int i) H Q := ⟨p, xs, i, v, rfl, rfl, SqL.of h, hi, k⟩
theorem x_ixT {xs : List V} {i : Int} (h : H p = some (.tup xs)) (hi : atI xs i = some v) (k : Q v H) : rIxT K (.ref p) (.int i) H Q := ⟨p, xs, i, v, rfl, rfl, SqT.of h, hi, k⟩
/-- a new object -/
def LenNew (xs : List V) (o : HO) (H : Hp) (Q : VK) : Prop := xs.length ≤ sizeLine ∧ ∀ p, H p = none → Q (.ref p) (upd H p o)
def JustNew (o : HO) (H : Hp) (Q : VK) : Prop := ∀ p, H p = none → Q (.ref p) (upd H p o)
theorem x_lenNew {xs : List V} (hl : xs.length ≤ sizeLine) (k : ∀ p H1, Ex H H1 → H p = none → H1 p = some o → Q (.ref p) H1) : LenNew xs o H Q := ⟨hl, fun p hp => k p _ (Ex.new hp) hp upd_same⟩
theorem x_new (k : ∀ p H1, Ex H H1 → H p = none → H1 p = some o → Q (.ref p) H1) : JustNew o H Q := fun p hp => k p _ (Ex.new hp) hp upd_same
theorem x_tup {a : TA} (k : a σ H fun xs H1 => LenNew xs (.tup xs) H1 Q) : tTup a σ H Q := k
theorem x_lst {a : TA} (k : a σ H fun xs H1 => LenNew xs (.lst xs) H1 Q) : tLst a σ H Q := k
theorem x_sl {r : V → Option Int → Option Int → Hp → VK → Prop} {tl th : TO} (k : ta σ H fun x H1 => tl σ H1 fun l H2 => th σ H2 fun u H3 => r x l u H3 Q) : tSl r ta tl th σ H Q := k
theorem x_noPart {q : Option Int → Hp → Prop} (k : q none H) : tNoPart σ H q := k
theorem x_part {q : Option Int → Hp → Prop} (k : ta σ H fun x H1 => ∃ i, x = .int i ∧ q (some i) H1) : tPart ta σ H q := k
theorem x_ex_int {P : Int → Prop} {i : Int} (k : P i) : ∃ j, V.int i = .int j ∧ P j := ⟨i, rfl, k⟩
theorem x_slL {xs : List V} {lo hi : Option Int} (h : H a = some (.lst xs)) (k : JustNew (.lst (cutV xs lo hi)) H Q) : rSlL K (.ref a) lo hi H Q := ⟨a, xs, rfl, SqL.of h, k⟩
-- tests, statements
theorem x_ex_bl {P : Bool → Prop} {b : Bool} (k : P b) : ∃ c, V.bl b = .bl c ∧ P c := ⟨b, rfl, k⟩
theorem x_test {q : Bool → Hp → Prop} (k : ta σ H fun x H' => ∃ b, x = .bl b ∧ q b H') : tTest ta σ H q := k
theorem x_B {q : Bool → Hp → Prop} (k : ta σ H fun x H' => ∃ b, x = .bl b ∧ q b H') : tB ta σ H q := k
theorem x_and {q : Bool → Hp → Prop} (k : t σ H fun c H1 => if c = true then u σ H1 q else q false H1) : tAnd t u σ H q := k
theorem x_or {q : Bool → Hp → Prop} (k : t σ H fun c H1 => if c = true then q true H1 else u σ H1 q) : tOr t u σ H q := k
theorem x_not {q : Bool → Hp → Prop} (k : t σ H fun c H1 => q (!c) H1) : tNot t σ H q := k
theorem x_andV (k : ta σ H fun x H1 => ∃ c, x = .bl c ∧ if c = true then tb σ H1 Q else Q (.bl false) H1) : tAndV ta tb σ H Q := k
theorem x_orV (k : ta σ H fun x H1 => ∃ c, x = .bl c ∧ if c = true then Q (.bl true) H1 else tb σ H1 Q) : tOrV ta tb σ H Q := k
theorem x_notV (k : ta σ H fun x H1 => ∃ c, x = .bl c ∧ Q (.bl (!c)) H1) : tNotV ta σ H Q := k
theorem x_ifE (k : t σ H fun c H1 => if c = true then ta σ H1 Q else tb σ H1 Q) : tIf t ta tb σ H Q := k
theorem x_iteT (k : A) : if true = true then A else B := by rw [if_pos rfl]; exact k
theorem x_iteF (k : B) : if false = true then A else B := by rw [if_neg Bool.false_ne_true]; exact k
theorem x_iteD {c : Prop} [Decidable c] (k1 : c → A) (k2 : ¬ c → B) : if decide c = true then A else B := by
  by_cases h : c
  · rw [decide_eq_true h, if_pos rfl]; exact k1 h
  · rw [decide_eq_false h, if_neg Bool.false_ne_true]; exact k2 h
theorem x_iteN {c : Prop} [Decidable c] (k1 : ¬ c → A) (k2 : c → B) : if (!decide c) = true then A else B := by
  by_cases h : c
  · rw [decide_eq_true h]; exact x_iteF (k2 h)
  · rw [decide_eq_false h]; exact x_iteT (k1 h)
theorem x_iteB {c : Bool} (k1 : c = true → A) (k2 : c = false → B) : if c = true then A else B := by
  cases c with
  | true => exact x_iteT (k1 rfl)
  | false => exact x_iteF (k2 rfl)
theorem x_if {tu tw : TS} (k : t σ H fun b H1 => if b = true then tu D σ H1 else tw D σ H1) : tIfS t tu tw D σ H := k
theorem x_seq {tu tw : TS} (k : tu { D with nx := tw D } σ H) : tSeq tu tw D σ H := k
theorem x_next (k : D.nx σ H) : tNext D σ H := k
theorem x_asg {g : TG} (k : ta σ H fun x H1 => g x σ H1 D.nx) : tAsg ta g D σ H := k
theorem x_gName {i : Nat} {q : L2.St → Hp → Prop} (k : q (σ.set i (some v)) H) : gName i v σ H q := k
theorem x_gTup {n : Nat} {g : TGs} {q : L2.St → Hp → Prop} {xs : List V} (h : H p = some (.tup xs)) (hn : xs.length = n) (k : g xs σ H q) : gTup K n g (.ref p) σ H q := ⟨p, xs, rfl, SqT.of h, hn, k⟩
theorem x_gCons {g : TG} {gs : TGs} {vs : List V} {q : L2.St → Hp → Prop} (k : g v σ H fun σ' H' => gs vs σ' H' q) : gCons g gs (v :: vs) σ H q := ⟨v, vs, rfl, k⟩
theorem x_gNil {q : L2.St → Hp → Prop} (k : q σ H) : gNil [] σ H q := ⟨rfl, k⟩
theorem x_ret (k : ta σ H D.rt) : tRet ta D σ H := k
theorem x_drop (k : ta σ H fun _ H1 => D.nx σ H1) : tDrop ta D σ H := k
theorem x_par {i j : Nat} {a : TA} (k : a σ H fun vs H1 => ∃ v w, vs = [v, w] ∧ D.nx ((σ.set i (some v)).set j (some w)) H1) : tPar i j a D σ H := k
theorem x_ex_2 {P : V → V → Prop} (k : P v w) : ∃ a b, [v, w] = [a, b] ∧ P a b := ⟨v, w, rfl, k⟩
theorem x_aug {i : Nat} {ti : TIp} (hx : σ[i]? = some (some v)) (k : ta σ H fun y H1 => ti v y H1 fun z H2 => D.nx (σ.set i (some z)) H2) : tAug i ta ti D σ H := ⟨v, hx, k⟩
theorem x_ipI {f : Int → Int → Int} {i j : Int} (k : Q (.int (f i j)) H) : ipI f (.int i) (.int j) H Q := ⟨i, j, rfl, rfl, k⟩
theorem x_augS {to ti te : TE} {tget : V → V → Hp → VK → Prop} {tip : TIp} {tset : TSet} (k : to σ H fun o H1 => ti σ H1 fun i H2 => tget o i H2 fun x H3 => te σ H3 fun y H4 => tip x y H4 fun z H5 => tset o i z H5 fun H6 => D.nx σ H6) : tAugS to ti te tget tip tset D σ H := k
theorem x_gSub {to ti : TE} {s : TSet} {q : L2.St → Hp → Prop} (k : to σ H fun o H1 => ti σ H1 fun i H2 => s o i v H2 fun H3 => q σ H3) : gSub to ti s v σ H q := k
theorem x_setL {xs : List V} {i : Int} {j : Nat} {q : Hp → Prop} (h : H p = some (.lst xs)) (hi : ixN xs.length i = some j) (k : q (upd H p (.lst (xs.set j v)))) : rSetL (.ref p) (.int i) v H q := ⟨p, xs, i, j, rfl, rfl, h, hi, k⟩
theorem at_nat {xs : List V} {i : Int} (h0 : 0 ≤ i) (h : xs[i.toNat]? = some v) : atI xs i = some v := by
  have e : i = ((i.toNat : Nat) : Int) := by omega
  rw [e]
  exact atI_nat h
theorem at_map {ns : List Int} {i : Int} (h0 : 0 ≤ i) (h : i < ((ns.map V.int).length : Int)) : ∃ n, atI (ns.map V.int) i = some (.int n) := by
  rw [List.length_map] at h
  have hl : i.toNat < ns.length := by omega
  exact ⟨ns[i.toNat], at_nat h0 (by simp [hl])⟩
theorem Ex.bagTo {x0 y0 z0 x y z : Int} (hb : H b = some (.lst [.int x0, .int y0, .int z0, .ref c])) (same : ∀ a, a ≠ b → H' a = H a) (hb' : H' b = some (.lst [.int x, .int y, .int z, .ref c])) (hx : 0 ≤ x) (hy : 0 ≤ y) (hy2 : y < 2147483647) (hz : 0 ≤ z) : Ex H H' := by
  refine ⟨fun a o q n => ?_, fun b1 c1 q => ?_⟩
  · by_cases e : a = b
    · subst e
      rw [hb] at q
      exact absurd (Option.some.inj q).symm (n _ _ _ _)
    · rw [same a e]; exact q
  · obtain ⟨x1, y1, z1, ns1, k1, k2, k3⟩ := q
    have n2 : c1 ≠ b := fun e => by
      subst e
      rw [hb] at k2
      exact NB.ints _ _ _ _ (Option.some.inj k2).symm
    by_cases e : b1 = b
    · subst e
      rw [hb] at k1
      have ec : c = c1 := by
        injection k1 with k1
        injection k1 with k1
        exact V.ref.inj (List.cons.inj (List.cons.inj (List.cons.inj (List.cons.inj k1).2).2).2).1
      subst ec
      exact ⟨x, y, z, ns1, hb', by rw [same _ n2]; exact k2, hx, hy, hy2, hz⟩
    · exact ⟨x1, y1, z1, ns1, by rw [same _ e]; exact k1, by rw [same _ n2]; exact k2, k3⟩
-- calls
theorem x_cons {a : TA} {q : List V → Hp → Prop} (k : ta σ H fun x H1 => a σ H1 fun xs H2 => q (x :: xs) H2) : tCons ta a σ H q := k
theorem x_nil {q : List V → Hp → Prop} (k : q [] H) : tNil σ H q := k
theorem x_CB {r : List V → Hp → VK → Prop} {a : TA} (k : a σ H fun vs H1 => r vs H1 Q) : tCB r a σ H Q := k
/-- a promise: what it asks, what it gives -/
def Prom (pre : List V → Hp → Prop) (post : List V → V → Hp → Prop) : Sp := fun vs H Q _ => pre vs H ∧ ∀ v H1, Ex H H1 → post vs v H1 → Q v H1
-- built-ins by name
def rAbs : List V → Hp → VK → Prop := fun xs H Q => ∃ i, xs = [.int i] ∧ Q (.int (if i < 0 then -i else i)) H
def rInt : List V → Hp → VK → Prop := fun xs H Q => (∃ i, xs = [.int i] ∧ Q (.int i) H) ∨ ∃ k, xs = [.bl k] ∧ Q (.int (if k then 1 else 0)) H
def rLen (K : PySem.W.Frag) : List V → Hp → VK → Prop := fun xs H Q => ∃ p ys, xs = [.ref p] ∧ (SqL K H p ys ∨ SqT K H p ys) ∧ Q (.int ys.length) H
theorem x_abs {i : Int} (k : Q (.int (if i < 0 then -i else i)) H) : rAbs [.int i] H Q := ⟨i, rfl, k⟩
theorem x_intI {i : Int} (k : Q (.int i) H) : rInt [.int i] H Q := .inl ⟨i, rfl, k⟩
theorem x_intB {b : Bool} (k : Q (.int (if b then 1 else 0)) H) : rInt [.bl b] H Q := .inr ⟨b, rfl, k⟩
theorem x_lenL {xs : List V} (h : H p = some (.lst xs)) (k : Q (.int xs.length) H) : rLen K [.ref p] H Q := ⟨p, xs, rfl, .inl (SqL.of h), k⟩
theorem x_lenT {xs : List V} (h : H p = some (.tup xs)) (k : Q (.int xs.length) H) : rLen K [.ref p] H Q := ⟨p, xs, rfl, .inr (SqT.of h), k⟩
end
section
variable {X : Cx}
theorem c_abs : CallR X (.builtin "abs") rAbs := call_abs
theorem c_int : CallR X (.type "int") rInt := call_int1
theorem c_len : CallR X (.builtin "len") (rLen X.K) := call_len_seq
/-- xs[i] read for xs[i] op= e -/
theorem get_list : PGet X (rIxL X.K) := by
  intro pins s σ H o i ov iv Q I ro ri h
  obtain ⟨p, xs, n, z, rfl, rfl, hq, he, q⟩ := h
  cases ro
  obtain ⟨t, rfl⟩ := ri
  obtain ⟨its, r, pl, hz⟩ := I.list hq
  obtain ⟨j, h1, h2, h3, h4, h5⟩ := atI_get he
  obtain ⟨w, ew, rw'⟩ := r.get h2
  have hl := r.length
  have hn := line63
  have fin : EP X pins σ Q w s := ⟨z, H, I, rw', q⟩
  by_cases h0 : 0 ≤ n
  · have hj : n.toNat = j := by
      rw [seqIndex_of h0 h5] at h1
      exact Option.some.inj h1
    exact wpAny_getItem_list pl.isList h0 (by omega) (by rw [hj]; simpa using ew) fin
  · have hj : (n + (its.toArray.size : Int)).toNat = j := by
      rw [seqIndex_neg (by omega) h4] at h1
      rw [List.size_toArray, ← hl]
      exact Option.some.inj h1
    exact wpAny_getItem_list_neg pl.isList (by omega) (by rw [List.size_toArray]; omega) (by omega) (by rw [hj]; simpa using ew) fin
end
end Sx

set_option Elab.async false
set_option linter.all false
set_option maxRecDepth 100000
set_option maxHeartbeats 2000000
namespace Sx
open PySem PySem.Spec PyProof.Rows L2

def isI : V → Bool
  | .int _ => true
  | _ => false
def isR : V → Bool
  | .ref _ => true
  | _ => false
theorem NB.at0b {v : V} {xs : List V} (h : isI v = false) : NB (.lst (v :: xs)) := NB.at0 fun i e => by rw [e] at h; cases h
theorem NB.at3b {a b c v : V} {xs : List V} (h : isR v = false) : NB (.lst (a :: b :: c :: v :: xs)) := NB.at3 fun i e => by rw [e] at h; cases h
/-- tuples stay -/
def Tx (H H' : Hp) : Prop := ∀ a xs, H a = some (.tup xs) → H' a = some (.tup xs)
section
variable {H H' H1 H2 : Hp} {p a b c l : Addr} {o u : HO} {K : PySem.W.Frag} {σ : L2.St} {Q : VK} {v w : V} {D : Ends} {t : TT} {ta tb te : TE} {A B : Prop}
theorem Ex.tx (e : Ex H H1) : Tx H H1 := fun a xs h => e.kp a _ h NB.tup
theorem Tx.set {d : Addr} {ys : List V} (h : H d = some (.lst ys)) : Tx H (upd H d o) := fun a xs q => by
  rw [upd_ne (ne_of q h (by intro z; cases z))]
  exact q
theorem Tx.new (h : H d = none) : Tx H (upd H d o) := fun a xs q => by
  rw [upd_ne (ne_of_none q h)]
  exact q
theorem Tx.trans (e : Tx H H1) (f : Tx H1 H2) : Tx H H2 := fun a xs h => f a xs (e a xs h)

/-- a comprehension: I tells the turn and what is made so far -/
theorem lc_any {J : It} {n : Nat} {g : TG} {vs : List Nat} (I : Nat → List V → Hp → Prop) (h0 : I 0 [] H1)
    (mono : ∀ i acc H H', Tx H H' → I i acc H → I i acc H') (nb : ∀ i acc H, I i acc H → NB (.lst acc) ∧ acc.length < sizeLine)
    (go : ∀ i H', i < n → Ex H1 H' → J.go i H') (stop : ∀ H', Ex H1 H' → J.stop n H')
    (turn : ∀ i acc x H' H'', i < n → Ex H1 H' → I i acc H' → J.yld i H' x H'' → ∀ kk : Option V → Hp → Prop, (∀ y H4, Ex H' H4 → I (i + 1) (acc ++ [y]) H4 → kk (some y) H4) → (∀ H4, Ex H' H4 → I (i + 1) acc H4 → kk none H4) →
      g x (wipe σ vs) H'' fun σ2 H2 => wipe σ2 vs = wipe σ vs ∧ t σ2 H2 fun b H3 => if b = true then te σ2 H3 (fun y H4 => kk (some y) H4) else kk none H3)
    (k : ∀ p ys H2, Ex H1 H2 → H1 p = none → H2 p = some (.lst ys) → I n ys H2 → Q (.ref p) H2) :
    ∀ D, H1 D = none → ∃ W : Nat → Nat → Hp → Prop, (∃ m, W 0 m (upd H1 D (.lst []))) ∧ ∀ i m H, W i m H →
      (J.stop i H ∧ Q (.ref D) H) ∨ (J.go i H ∧ ∃ Nx : Hp → Prop, (∀ H', Nx H' → ∃ m', m' < m ∧ W (i + 1) m' H') ∧ ∀ x H', J.yld i H x H' → g x (wipe σ vs) H' fun σ2 H2 => wipe σ2 vs = wipe σ vs ∧ t σ2 H2 fun b H3 =>
        if b = true then te σ2 H3 fun y H4 => ∃ acc, H4 D = some (.lst acc) ∧ acc.length < sizeLine ∧ Nx (upd H4 D (.lst (acc ++ [y]))) else Nx H3) := by
  intro D hD
  refine ⟨fun i m H => m = n - i ∧ i ≤ n ∧ Ex H1 H ∧ ∃ acc, H D = some (.lst acc) ∧ I i acc H, ⟨n, rfl, Nat.zero_le _, Ex.new hD, [], upd_same, mono _ _ _ _ (Tx.new hD) h0⟩, ?_⟩
  rintro i m H ⟨rfl, hi, e, acc, hd, hI⟩
  by_cases hlt : i < n
  · refine .inr ⟨go i H hlt e, fun H' => i + 1 ≤ n ∧ Ex H1 H' ∧ ∃ acc, H' D = some (.lst acc) ∧ I (i + 1) acc H', fun H' q => ⟨n - (i + 1), by omega, rfl, q⟩, fun x H' y => ?_⟩
    have nbA := nb _ _ _ hI
    refine turn i acc x H H' hlt e hI y (fun o H4 => match o with
      | some y => ∃ acc, H4 D = some (.lst acc) ∧ acc.length < sizeLine ∧ (i + 1 ≤ n ∧ Ex H1 (upd H4 D (.lst (acc ++ [y]))) ∧ ∃ acc', upd H4 D (.lst (acc ++ [y])) D = some (.lst acc') ∧ I (i + 1) acc' (upd H4 D (.lst (acc ++ [y]))))
      | none => i + 1 ≤ n ∧ Ex H1 H4 ∧ ∃ acc, H4 D = some (.lst acc) ∧ I (i + 1) acc H4) (fun y H4 e4 q => ?_) (fun H4 e4 q => ?_)
    · have hd4 := e4.kp _ _ hd nbA.1
      exact ⟨acc, hd4, nbA.2, hlt, Ex.mut (e.trans e4) hD, acc ++ [y], upd_same, mono _ _ _ _ (Tx.set hd4) q⟩
    · exact ⟨hlt, e.trans e4, acc, e4.kp _ _ hd nbA.1, q⟩
  · have ei : i = n := by omega
    subst ei
    exact .inl ⟨stop H e, k D acc H e hD hd hI⟩

def LcGo (J : It) (g : TG) (t : TT) (te : TE) (vs : List Nat) (σ : L2.St) (H1 : Hp) (Q : VK) : Prop := ∀ D, H1 D = none → ∃ W : Nat → Nat → Hp → Prop, (∃ m, W 0 m (upd H1 D (.lst []))) ∧ ∀ i m H, W i m H →
      (J.stop i H ∧ Q (.ref D) H) ∨ (J.go i H ∧ ∃ Nx : Hp → Prop, (∀ H', Nx H' → ∃ m', m' < m ∧ W (i + 1) m' H') ∧ ∀ x H', J.yld i H x H' → g x (wipe σ vs) H' fun σ2 H2 => wipe σ2 vs = wipe σ vs ∧ t σ2 H2 fun b H3 =>
        if b = true then te σ2 H3 fun y H4 => ∃ acc, H4 D = some (.lst acc) ∧ acc.length < sizeLine ∧ Nx (upd H4 D (.lst (acc ++ [y]))) else Nx H3)
theorem x_lc {wi : TI} {g : TG} {vs : List Nat} (k : wi σ H fun J H1 => LcGo J g t te vs σ H1 Q) : tLc wi g t te vs σ H Q := k
def R1K (xs : List V) (H1 : Hp) (R : It → Hp → Prop) : Prop := ∃ j : Int, xs = [.int j] ∧ -(2 ^ 62) ≤ j ∧ j < 2 ^ 62 ∧ R (Itr 0 j.toNat) H1
def LK (K : PySem.W.Frag) (x : V) (H1 : Hp) (R : It → Hp → Prop) : Prop := ∃ a, x = .ref a ∧ (∃ xs, SqL K H1 a xs) ∧ R (Itl K a) H1
def ZK (K : PySem.W.Frag) (vs : List V) (H1 : Hp) (R : It → Hp → Prop) : Prop := ∃ (x : Str) (b : Addr) (ys : List V), vs = [.str x, .ref b] ∧ SqT K H1 b ys ∧ R (Zst.ItzS K x b) H1
theorem x_iR1 {a : TA} {R : It → Hp → Prop} (k : a σ H fun xs H1 => R1K xs H1 R) : iRng1 a σ H R := k
theorem x_iL {R : It → Hp → Prop} (k : ta σ H fun x H1 => LK K x H1 R) : iList K ta σ H R := k
theorem x_iZ {a : TA} {R : It → Hp → Prop} (k : a σ H fun xs H1 => ZK K xs H1 R) : Zst.iZipS K a σ H R := k
theorem x_yes {q : Bool → Hp → Prop} (k : q true H) : tYes σ H q := k

theorem lc_rng {m : Int} {j : Nat} {vs : List Nat} (hm : m < 2 ^ 62) (hm0 : -(2 ^ 62) ≤ m) (I : Nat → List V → Hp → Prop) (h0 : I 0 [] H1) (mono : ∀ i acc H H', Tx H H' → I i acc H → I i acc H') (nb : ∀ i acc H, I i acc H → NB (.lst acc) ∧ acc.length < sizeLine)
    (hw : ∀ x, wipe ((wipe σ vs).set j (some x)) vs = wipe σ vs)
    (turn : ∀ (i : Nat) acc H', (i : Int) < m → Ex H1 H' → I i acc H' → ∀ kk : Option V → Hp → Prop, (∀ y H4, Ex H' H4 → I (i + 1) (acc ++ [y]) H4 → kk (some y) H4) → (∀ H4, Ex H' H4 → I (i + 1) acc H4 → kk none H4) →
      t ((wipe σ vs).set j (some (.int (i : Int)))) H' fun b H3 => if b = true then te ((wipe σ vs).set j (some (.int (i : Int)))) H3 (fun y H4 => kk (some y) H4) else kk none H3)
    (k : ∀ p ys H2, Ex H1 H2 → H1 p = none → H2 p = some (.lst ys) → I m.toNat ys H2 → Q (.ref p) H2) : R1K [.int m] H1 fun J H2 => LcGo J (gName j) t te vs σ H2 Q := by
  refine ⟨m, rfl, hm0, hm, lc_any I h0 mono nb (fun i H' hi _ => hi) (fun H' _ => Nat.le_refl _) (fun i acc x H' H'' hi e q y kk k1 k2 => ?_) k⟩
  obtain ⟨rfl, rfl⟩ := y
  have e0 : (0 : Int) + (i : Int) = (i : Int) := Int.zero_add _
  rw [e0]
  exact ⟨hw _, turn i acc _ (by omega) e q kk k1 k2⟩
theorem lc_lst {xs : List V} {j : Nat} {vs : List Nat} (hx : H1 a = some (.lst xs)) (nbx : NB (.lst xs)) (I : Nat → List V → Hp → Prop) (h0 : I 0 [] H1) (mono : ∀ i acc H H', Tx H H' → I i acc H → I i acc H') (nb : ∀ i acc H, I i acc H → NB (.lst acc) ∧ acc.length < sizeLine)
    (hw : ∀ x, wipe ((wipe σ vs).set j (some x)) vs = wipe σ vs)
    (turn : ∀ (i : Nat) x acc H', xs[i]? = some x → Ex H1 H' → I i acc H' → ∀ kk : Option V → Hp → Prop, (∀ y H4, Ex H' H4 → I (i + 1) (acc ++ [y]) H4 → kk (some y) H4) → (∀ H4, Ex H' H4 → I (i + 1) acc H4 → kk none H4) →
      t ((wipe σ vs).set j (some x)) H' fun b H3 => if b = true then te ((wipe σ vs).set j (some x)) H3 (fun y H4 => kk (some y) H4) else kk none H3)
    (k : ∀ p ys H2, Ex H1 H2 → H1 p = none → H2 p = some (.lst ys) → I xs.length ys H2 → Q (.ref p) H2) : LK K (.ref a) H1 fun J H2 => LcGo J (gName j) t te vs σ H2 Q := by
  have hq : ∀ H', Ex H1 H' → SqL K H' a xs := fun H' e => SqL.of (e.kp _ _ hx nbx)
  refine ⟨a, rfl, ⟨xs, SqL.of hx⟩, lc_any (n := xs.length) I h0 mono nb (fun i H' hi e => ⟨xs, xs[i], hq H' e, by simp [hi]⟩) (fun H' e => ⟨xs, hq H' e, Nat.le_refl _⟩) (fun i acc x H' H'' hi e q y kk k1 k2 => ?_) k⟩
  obtain ⟨rfl, y⟩ := y
  exact ⟨hw _, turn i x acc _ (y xs (hq _ e)) e q kk k1 k2⟩
theorem lc_zip {x : Str} {ys : List V} {j1 j2 n : Nat} {vs : List Nat} (hn : (x.cps.size = n ∧ n ≤ ys.length) ∨ (ys.length = n ∧ n ≤ x.cps.size)) (hx : H1 a = some (.tup ys)) (I : Nat → List V → Hp → Prop) (h0 : I 0 [] H1) (mono : ∀ i acc H H', Tx H H' → I i acc H → I i acc H') (nb : ∀ i acc H, I i acc H → NB (.lst acc) ∧ acc.length < sizeLine)
    (hw : ∀ x y, wipe (((wipe σ vs).set j1 (some x)).set j2 (some y)) vs = wipe σ vs)
    (turn : ∀ (i : Nat) c y acc H', x.cps[i]? = some c → ys[i]? = some y → Ex H1 H' → I i acc H' → ∀ kk : Option V → Hp → Prop, (∀ y H4, Ex H' H4 → I (i + 1) (acc ++ [y]) H4 → kk (some y) H4) → (∀ H4, Ex H' H4 → I (i + 1) acc H4 → kk none H4) →
      t (((wipe σ vs).set j1 (some (.str ⟨#[c]⟩))).set j2 (some y)) H' fun b H3 => if b = true then te (((wipe σ vs).set j1 (some (.str ⟨#[c]⟩))).set j2 (some y)) H3 (fun y H4 => kk (some y) H4) else kk none H3)
    (k : ∀ p ys H2, Ex H1 H2 → H1 p = none → H2 p = some (.lst ys) → I n ys H2 → Q (.ref p) H2) : ZK K [.str x, .ref a] H1 fun J H2 => LcGo J (gTup K 2 (gCons (gName j1) (gCons (gName j2) gNil))) t te vs σ H2 Q := by
  have hq : ∀ H', Ex H1 H' → SqT K H' a ys := fun H' e => SqT.of (e.kp _ _ hx NB.tup)
  refine ⟨x, a, ys, rfl, SqT.of hx, lc_any (n := n) I h0 mono nb (fun i H' hi e => ?_) (fun H' e => ⟨ys, hq H' e, hn⟩) (fun i acc v H' H'' hi e q y kk k1 k2 => ?_) k⟩
  · have h1 : i < x.cps.size := by omega
    have h2 : i < ys.length := by omega
    exact ⟨ys, x.cps[i], ys[i], hq H' e, by simp [h1], by simp [h2]⟩
  · obtain ⟨T, c, y, rfl, hT, rfl, hc, hy⟩ := y
    have e2 : Ex H' (upd H' T (.tup [.str ⟨#[c]⟩, y])) := Ex.new hT
    refine ⟨T, _, rfl, SqT.of upd_same, rfl, _, _, rfl, _, _, rfl, rfl, hw _ _, ?_⟩
    exact turn i c y acc _ hc (hy ys (hq _ e)) (e.trans e2) (mono _ _ _ _ e2.tx q) kk (fun y H4 f g => k1 y H4 (e2.trans f) g) (fun H4 f g => k2 H4 (e2.trans f) g)

/-! ### dicts of the module -/
def rNID (K : PySem.W.Frag) (d : Addr) : R2 := fun x y H Q => ∃ (z : Str) (r : Option Value), x = .str z ∧ y = .ref d ∧ PySem.W.nsIn K d z = some r ∧ Q (.bl (!r.isSome)) H
def rIID (K : PySem.W.Frag) (d : Addr) : R2 := fun x y H Q => ∃ (z : Str) (r : Option Value), x = .str z ∧ y = .ref d ∧ PySem.W.nsIn K d z = some r ∧ Q (.bl r.isSome) H
theorem kdct_of {w : World} {d : Addr} {es : Array DictEntry} {n : Nat} {z : Str} {u : Value} (D : KDict K w d es n) (h : PySem.W.nsIn K d z = some (some u)) (r : RelV v u) : KDct K w d z v := ⟨es, n, u, D.at_, D.lit, h, r⟩
theorem x_NIDt {d : Addr} {z : Str} (h : PySem.W.nsIn K d z = some none) (k : Q (.bl true) H) : rNID K d (.str z) (.ref d) H Q := ⟨z, none, rfl, rfl, h, k⟩
theorem x_NIDf {d : Addr} {z : Str} {u : Value} (h : PySem.W.nsIn K d z = some (some u)) (k : Q (.bl false) H) : rNID K d (.str z) (.ref d) H Q := ⟨z, some u, rfl, rfl, h, k⟩
theorem x_IIDt {d : Addr} {z : Str} {u : Value} (h : PySem.W.nsIn K d z = some (some u)) (k : Q (.bl true) H) : rIID K d (.str z) (.ref d) H Q := ⟨z, some u, rfl, rfl, h, k⟩
theorem x_IIDf {d : Addr} {z : Str} (h : PySem.W.nsIn K d z = some none) (k : Q (.bl false) H) : rIID K d (.str z) (.ref d) H Q := ⟨z, none, rfl, rfl, h, k⟩
theorem x_ixDs {w : World} {d : Addr} {z y : Str} {es : Array DictEntry} {n : Nat} (D : KDict K w d es n) (h : ∃ t, PySem.W.nsIn K d z = some (some (.str y t))) (k : Q (.str y) H) : rIxD K w (.ref d) (.str z) H Q := by
  obtain ⟨t, h⟩ := h
  exact ⟨d, z, .str y, rfl, rfl, kdct_of (v := .str y) D h ⟨t, rfl⟩, k⟩
/-! ### in -/
def rInS : R2 := fun x y H Q => ∃ i j, x = .str i ∧ y = .str j ∧ Q (.bl (!(Builtin.Str.occurrences j i 0 j.length 1).isEmpty)) H
theorem x_InSt {i j : Str} (h : (Builtin.Str.occurrences j i 0 j.length 1).isEmpty = false) (k : Q (.bl true) H) : rInS (.str i) (.str j) H Q := ⟨i, j, rfl, rfl, by rw [h]; exact k⟩
theorem x_InSf {i j : Str} (h : (Builtin.Str.occurrences j i 0 j.length 1).isEmpty = true) (k : Q (.bl false) H) : rInS (.str i) (.str j) H Q := ⟨i, j, rfl, rfl, by rw [h]; exact k⟩
theorem x_EqSt {i j : Str} (h : i = j) (k : Q (.bl true) H) : rEq (.str i) (.str j) H Q := ⟨rfl, by rw [decide_eq_true (by rw [h])]; exact k⟩
theorem x_EqSf {i j : Str} (h : i ≠ j) (k : Q (.bl false) H) : rEq (.str i) (.str j) H Q := ⟨rfl, by rw [decide_eq_false (fun e => h (V.str.inj e))]; exact k⟩
theorem x_NeSt {i j : Str} (h : i ≠ j) (k : Q (.bl true) H) : rNe (.str i) (.str j) H Q := ⟨rfl, by rw [decide_eq_false (fun e => h (V.str.inj e))]; exact k⟩
theorem x_NeSf {i j : Str} (h : i = j) (k : Q (.bl false) H) : rNe (.str i) (.str j) H Q := ⟨rfl, by rw [decide_eq_true (by rw [h])]; exact k⟩
theorem inV_ints {n : Int} {ns : List Int} : inV (.int n) (ns.map V.int) = decide (n ∈ ns) := by
  unfold inV
  rw [List.any_map]
  rw [Bool.eq_iff_iff, List.any_eq_true, decide_eq_true_eq]
  constructor
  · rintro ⟨m, h1, h2⟩
    have e : m = n := by simpa [eqV] using h2
    exact e ▸ h1
  · intro h
    exact ⟨n, h, by simp [eqV]⟩
theorem flat_ints {ns : List Int} : (ns.map V.int).all flatV = true := by
  rw [List.all_map]
  exact List.all_eq_true.mpr fun _ _ => rfl
theorem x_notInI {n : Int} {ns : List Int} (h : H p = some (.lst (ns.map V.int))) (k : Q (.bl (!decide (n ∈ ns))) H) : rIn K true (.int n) (.ref p) H Q :=
  ⟨p, _, rfl, .inl (SqL.of h), rfl, flat_ints, by rw [if_pos rfl, inV_ints]; exact k⟩
theorem x_inTt {xs : List V} (h : H p = some (.tup xs)) (hv : flatV v = true) (ha : xs.all flatV = true) (e : inV v xs = true) (k : Q (.bl true) H) : rIn K false v (.ref p) H Q := ⟨p, _, rfl, .inr (SqT.of h), hv, ha, by rw [if_neg Bool.false_ne_true, e]; exact k⟩
theorem x_inTf {xs : List V} (h : H p = some (.tup xs)) (hv : flatV v = true) (ha : xs.all flatV = true) (e : inV v xs = false) (k : Q (.bl false) H) : rIn K false v (.ref p) H Q := ⟨p, _, rfl, .inr (SqT.of h), hv, ha, by rw [if_neg Bool.false_ne_true, e]; exact k⟩
/-! ### tuples, lists -/
theorem x_slT {xs : List V} {lo hi : Option Int} (h : H a = some (.tup xs)) (hw : ¬ (HT.sIx xs.length 0 lo = 0 ∧ HT.sIx xs.length xs.length hi = xs.length)) (k : JustNew (.tup (cutV xs lo hi)) H Q) : rSlT K (.ref a) lo hi H Q := ⟨a, xs, rfl, SqT.of h, hw, k⟩
theorem x_catT {xs ys : List V} (h : H a = some (.tup xs)) (h' : H b = some (.tup ys)) (n1 : xs ≠ []) (n2 : ys ≠ []) (l : xs.length + ys.length ≤ sizeLine) (k : JustNew (.tup (xs ++ ys)) H Q) : rCatT K (.ref a) (.ref b) H Q := ⟨a, b, xs, ys, rfl, rfl, SqT.of h, SqT.of h', n1, l, fun e => absurd e n2, fun _ => k⟩
theorem x_cat {xs ys : List V} (h : H a = some (.lst xs)) (h' : H b = some (.lst ys)) (l : xs.length + ys.length ≤ sizeLine) (k : JustNew (.lst (xs ++ ys)) H Q) : rCat (.ref a) (.ref b) H Q := ⟨a, b, xs, ys, rfl, rfl, h, h', l, k⟩
def SortK (ns : List Int) (H : Hp) (Q : VK) : Prop := ∀ (ns' : List Int) (p : Addr), ns'.Perm ns → ns'.Pairwise (· ≤ ·) → H p = none → Q (.ref p) (upd H p (.lst (ns'.map V.int)))
theorem x_sorted {ns : List Int} (h : H a = some (.lst (ns.map V.int))) (l : ns.length < 64) (k : ∀ (ns' : List Int) (p : Addr) (H1 : Hp), ns'.Perm ns → ns'.Pairwise (· ≤ ·) → Ex H H1 → H p = none → H1 p = some (.lst (ns'.map V.int)) → Q (.ref p) H1) : rSorted K [.ref a] H Q :=
  ⟨a, ns, rfl, SqL.of h, l, fun ns' p h1 h2 hp => k ns' p _ h1 h2 (Ex.new hp) hp upd_same⟩
/-! ### loops -/
def ForGo (J : It) (g : TG) (tb : TS) (D : Ends) (σ : L2.St) (H1 : Hp) : Prop := ∃ W : Nat → Nat → L2.St → Hp → Prop, (∃ m, W 0 m σ H1) ∧ ∀ i m σ H, W i m σ H →
      (J.stop i H ∧ D.nx σ H) ∨ (J.go i H ∧ ∃ N : L2.St → Hp → Prop, (∀ σ' H', N σ' H' → ∃ m', m' < m ∧ W (i + 1) m' σ' H') ∧ ∀ v H', J.yld i H v H' → g v σ H' fun σ2 H2 => tb { D with nx := N, ct := N, bk := D.nx } σ2 H2)
theorem x_for {wi : TI} {g : TG} {tb : TS} (k : wi σ H fun J H1 => ForGo J g tb D σ H1) : tFor wi g tb D σ H := k
theorem for_rng {m : Int} {j : Nat} {tb : TS} (hm : m < 2 ^ 62) (hm0 : -(2 ^ 62) ≤ m) (Pv : Nat → L2.St → Hp → Prop) (h0 : Pv 0 σ H1)
    (hs : ∀ (i : Nat) σ H, (i : Int) < m → Pv i σ H → tb { D with nx := Pv (i + 1), ct := Pv (i + 1), bk := D.nx } (σ.set j (some (.int (i : Int)))) H) (hd : ∀ σ H, Pv m.toNat σ H → D.nx σ H) : R1K [.int m] H1 fun J H2 => ForGo J (gName j) tb D σ H2 := by
  refine ⟨m, rfl, hm0, hm, for_range Pv h0 (fun i σ H hi q => ?_) hd⟩
  have e0 : (0 : Int) + (i : Int) = (i : Int) := Int.zero_add _
  show tb { D with nx := Pv (i + 1), ct := Pv (i + 1), bk := D.nx } (σ.set j (some (.int ((0 : Int) + (i : Int))))) H
  rw [e0]
  exact hs i σ H (by omega) q
theorem for_lst {xs : List V} {j : Nat} {tb : TS} (hx : H1 a = some (.lst xs)) (Pv : Nat → L2.St → Hp → Prop) (h0 : Pv 0 σ H1) (hl : ∀ i σ H, i ≤ xs.length → Pv i σ H → H a = some (.lst xs))
    (hs : ∀ (i : Nat) x σ H, xs[i]? = some x → Pv i σ H → tb { D with nx := Pv (i + 1), ct := Pv (i + 1), bk := D.nx } (σ.set j (some x)) H) (hd : ∀ σ H, Pv xs.length σ H → D.nx σ H) : LK K (.ref a) H1 fun J H2 => ForGo J (gName j) tb D σ H2 :=
  ⟨a, rfl, ⟨xs, SqL.of hx⟩, for_list Pv h0 (fun i σ H hi q => SqL.of (hl i σ H hi q)) (fun i x σ H h q => hs i x σ H h q) hd⟩
/-! ### methods -/
theorem x_bm {T : String} {r : V → List V → Hp → VK → Prop} {a : TA} (k : ta σ H fun x H1 => tyV K T x H1 ∧ a σ H1 fun xs H2 => r x xs H2 Q) : tBM K T r ta a σ H Q := k
theorem tyL {xs : List V} (h : H p = some (.lst xs)) : tyV K "list" (.ref p) H := .inl ⟨rfl, _, SqL.of h⟩
def rInsert : V → List V → Hp → VK → Prop := fun x vs H Q => ∃ (l : Addr) (xs : List V) (i : Int) (y : V), x = .ref l ∧ vs = [.int i, y] ∧ H l = some (.lst xs) ∧ xs.length < sizeLine ∧ 0 ≤ i ∧ i < 2 ^ 63 ∧ Q .non (upd H l (.lst (xs.take i.toNat ++ [y] ++ xs.drop i.toNat)))
theorem x_insert {xs : List V} {i : Int} (h : H l = some (.lst xs)) (n : xs.length < sizeLine) (h0 : 0 ≤ i) (h1 : i < 2 ^ 63) (k : Q .non (upd H l (.lst (xs.take i.toNat ++ [v] ++ xs.drop i.toNat)))) : rInsert (.ref l) [.int i, v] H Q := ⟨l, xs, i, v, rfl, rfl, h, n, h0, h1, k⟩
/-! ### list(range(n)) -/
theorem x_lstRg {te : L2.St → Hp → (Int → Int → Hp → Prop) → Prop} (k : te σ H fun a b H1 => RgOk a b ∧ JustNew (.lst (rgV a b)) H1 Q) : tLstRg te σ H Q := k
theorem x_callS {sp : Sp} {E : XK} {a : TA} (k : a σ H fun vs H1 => sp vs H1 Q E) : tCall sp [] E a σ H Q := by
  show a σ H fun vs H1 => sp (vs ++ []) H1 Q E
  have e : (fun (vs : List V) (H1 : Hp) => sp (vs ++ []) H1 Q E) = fun vs H1 => sp vs H1 Q E := by
    funext vs H1
    rw [List.append_nil]
  rw [e]
  exact k
theorem x_gConsE {g : TG} {gs : TGs} {ws vs : List V} {q : L2.St → Hp → Prop} (h : ws = v :: vs) (k : g v σ H fun σ' H' => gs vs σ' H' q) : gCons g gs ws σ H q := by rw [h]; exact x_gCons k
theorem x_gNilE {ws : List V} {q : L2.St → Hp → Prop} (h : ws = []) (k : q σ H) : gNil ws σ H q := by rw [h]; exact x_gNil k
theorem x_iteTe {c : Bool} (h : c = true) (k : A) : if c = true then A else B := by rw [if_pos h]; exact k
theorem x_iteFe {c : Bool} (h : c = false) (k : B) : if c = true then A else B := by rw [if_neg (by rw [h]; exact Bool.false_ne_true)]; exact k
theorem x_rg1 {q : Int → Int → Hp → Prop} (k : ta σ H fun x H1 => ∃ n, x = .int n ∧ q 0 n H1) : tRg1 ta σ H q := k
end
section
variable {X : Cx}
theorem c_notInD {d : Addr} {es : Array DictEntry} {n : Nat} (D : KDict X.K X.w d es n) : OpR X (compareOp .NotIn) (rNID X.K d) := op_notIn_kd D
theorem pg_tupB {sB : Shared} {HB : Hp} {scope : Scope} {cenv : Env} {fp : List Addr} {es : List Expr} {k : Nat} {t : TGs} {n : Nat} {pos : Pos} (hc : X.calm = true) (h : PGs (X.blk sB HB scope cenv fp) es t)
    (hn : (assignEach es (X.blk sB HB scope cenv fp).env).length = n := by rfl) (hst : (assignEach es (X.blk sB HB scope cenv fp).env).findIdx? (·.1) = none := by rfl) : PG (X.blk sB HB scope cenv fp) (.Tuple es k pos) (gTup X.K n t) := pg_tup (X := X.blk sB HB scope cenv fp) hc h hn hst
theorem c_insert : MtR X "list.insert" rInsert := mt_insert
end
end Sx

set_option Elab.async false
set_option linter.all false
set_option maxRecDepth 100000
set_option maxHeartbeats 2000000
namespace Ow
open PySem PySem.Spec PyProof.Rows L2 ItX

/-! ### len(set(xs)), xs a list of ints -/
def dis (ns : List Int) : Nat := (PyProof.Rows.firstMet (fun i => ns.getD i 0) ns.length).length
def tLenSetI (K : PySem.W.Frag) (ta : TE) : TE := fun σ H Q => ta σ H fun x H1 => ∃ (l : Addr) (ns : List Int), x = .ref l ∧ SqL K H1 l (ns.map V.int) ∧ ns.length ≤ 1000 ∧ Q (.int (dis ns)) H1
section
variable {X : Cx}
theorem pe_lenSetI {a : Expr} {ta : TE} {p p2 q pos : Pos} (hc : X.calm = true) (hg : Gl X "len") (hm : X.mg "len" = none) (hg2 : Gl X "set") (hm2 : X.mg "set" = none) (ha : PE X a ta)
    (na : starEach [a] X.env = (false, eval a X.env) :: starEach [] X.env := by rfl) : PE X (.Call (.Name "len" p) [.Call (.Name "set" p2) [a] [] q] [] pos) (tLenSetI X.K ta) := by
  constructor
  intro pins s σ H Q I h
  refine Call_ (ld_blt I hg hm boot_len (PyProof.Rows.callWith_builtin1 (PyProof.Rows.args_cons ?_ rfl) rfl rfl))
  refine Call_ (ld_blt I hg2 hm2 boot_set (PyProof.Rows.callWith_type1 (PyProof.Rows.args_cons (thn (ha.run pins s σ H _ I h) ?_) na) na rfl))
  rintro v s1 ⟨x, H1, I1, r1, l, ns, rfl, hq, h1, q1⟩
  refine PyProof.Rows.args_nil ?_
  cases r1
  obtain ⟨its, r, pl, hz⟩ := I1.list hq
  have hl : its.toArray.size = ns.length := by rw [List.size_toArray, ← r.length, List.length_map]
  refine PySem.call_set_list (I1.ok.hd hc) pl.isList (by simpa using intsAre_of r) (by rw [hl]; exact Nat.lt_of_le_of_lt (Nat.succ_le_succ h1) (by decide)) fun h' tk hS hk => PyProof.Rows.args_nil ?_
  rw [hl] at hS
  obtain ⟨o, es, ep, t, ho, hex, hd, _, _, _, hf, hn⟩ := hS
  have I2 : Inv X pins σ H1 { s1 with heap := h', toks := tk } := I1.kept fun b o e => hk b o (Heap.lt_size e) e
  have hle : es.size ≤ 100000 := by
    rw [hn]
    refine Nat.le_trans (PyProof.Rows.firstMet_length_le _ _) (by omega)
  exact call_len_set ho hex hd hf (by omega) ⟨.int (dis ns), H1, I2.tok _, ⟨_, by rw [hn]; rfl⟩, q1⟩
end

/-! ### the iterator of a tuple -/
def itT (l : Addr) : Obj := { cls := .type "tuple_iterator", data := .fields #[.ref l, .int 0 0] }
def ItT (l it : Addr) : HO := .ext fun h => h.get? it = some (itT l)
def rIterT (K : PySem.W.Frag) (n : Nat) : List V → Hp → VK → Prop := fun xs H Q => ∃ (l : Addr) (zs : List V), xs = [.ref l] ∧ SqT K H l zs ∧ ∀ it, H it = none → n ≤ it → Q (.ref it) (upd H it (ItT l it))
section
variable {X : Cx}
end

/-- a def called at ONE state: what its body's reading ends in may speak of that state -/
theorem fn_at {CX : CXT} {P : Program} {w : World} {K : PySem.W.Frag} {mg : Str → Option Value} {base : Heap} {k : Nat} {f : Addr} {x qual : Str} {st : Stmt} {fd : FuncData} {N ps : List Str} (F : Fun K x qual st f fd) (S : FnScope N ps (defScope st))
    {A : Around} {outer : List Env} {s : Shared} {H : Hp} {args : Args} {us : List Value} {vs : List V} {Q : VK} {E : XK} (hl : vs.length = ps.length) (hr : Room (k + 1) A) (e0 : Env0 P w K mg base A outer s H) (hb : BindsTo s fd args (ps.zip us)) (r : Vals vs us)
    (hbody : ∀ cdv, ∃ t, PSs (cxOf CX P w K mg base N qual (defScope st) f cdv A outer s H E) (defBody st) t ∧ t { nx := fun _ H' => Q .non H', rt := Q } (start N vs) H) :
    codeAny (model P w) A (.call (.ref f) args) (CR CX outer P w H s Q E) s := by
  obtain ⟨oc, od, kV, doc, pm, an, cdv, ct, osl, rfl, lk, hcd⟩ := F.ex
  have sub : ∀ b o, base.get? b = some o → s.heap.get? b = some o := fun b o e => (e0.bs b o e).1
  have KS := e0.mod.kin.keeps sub
  refine codeAny_call_function hr.depth (KS _ _ lk) rfl S.co S.gen rfl (PySem.W.codeRec_of KS hcd) (hb _ _ _ _ ?_)
  refine wpAny_newFunctionEnv_cells S.kind (fun y hy => ?_) fun env he sB call => ?_
  · have m := S.par y.1 (List.of_mem_zip (show (y.1, y.2) ∈ _ from hy)).1
    exact m.imp id fun q => ⟨q, PySem.W.cellsFrom_some _ _ _ (.inl q)⟩
  · subst he
    obtain ⟨t, ht, hq⟩ := hbody cdv
    refine ⟨(e0.mod.nolimit.keeps sub).keeps call.toInCall.keep, codeAny_func (wpAny_mono (ht.run [] sB _ H _ (inv_start S hr.hd e0 hl r call) hq) (fun way sE z => ?_) fun _ _ z => z)⟩
    match way, z with
    | .ret _, ⟨v, _, H', J, rv, q⟩ => exact ⟨v, H', J.os, J.bare, J.base, J.hok, rv, q⟩
    | .next, ⟨_, H', J, q⟩ => exact ⟨.non, H', J.os, J.bare, J.base, J.hok, rfl, q⟩
    | .brk, ⟨_, _, _, q⟩ => exact q.elim
    | .cont, ⟨_, _, _, q⟩ => exact q.elim

/-! ### for x in o, o of a class whose __iter__ hands a tuple's iterator out -/
/-- a def of one parameter (st, at fi), asked for an object of the class, hands out the iterator of the tuple that its field holds, young at that call -/
def ItDef (P : Program) (w : World) (K : PySem.W.Frag) (mg : Str → Option Value) (base : Heap) (k : Nat) (C fi : Addr) (fld qual : Str) (st : Stmt) (N : List Str) : Prop :=
  ∀ (cdv : Value) (A : Around) (outer : List Env) (s : Shared) (H : Hp) (E : XK) (a dx : Addr) (fs : List (Str × V)) (l : Addr) (zs : List V) (Q : VK), Room k (A.deeper (envOfC qual (defScope st) s.heap.objs.size fi cdv)) →
    H a = some (.ins C dx fs) → fs.lookup fld = some (.ref l) → SqT K H l zs → (∀ it, H it = none → s.heap.objs.size ≤ it → Q (.ref it) (upd H it (ItT l it))) →
      ∃ t, PSs (cxOf CX0 P w K mg base N qual (defScope st) fi cdv A outer s H E).nox (defBody st) t ∧ t { nx := fun _ H' => Q .non H', rt := Q } (start N [.ref a]) H
def iOwnT (K : PySem.W.Frag) (C : Addr) (fld : Str) (ta : TE) : TI := fun σ H R => ta σ H fun x H1 => ∃ (a dx : Addr) (fs : List (Str × V)) (l : Addr) (zs : List V), x = .ref a ∧ H1 a = some (.ins C dx fs) ∧ fs.lookup fld = some (.ref l) ∧ SqT K H1 l zs ∧ R (Itt K l) H1
section
variable {X : Cx} {k : Nat} {C fi : Addr} {fld x qual p1 : Str} {st : Stmt} {N : List Str} {fd : FuncData} {tg e : Expr} {ta : TE}
end
end Ow

set_option Elab.async false
set_option linter.all false
set_option maxRecDepth 100000
set_option maxHeartbeats 2000000
namespace Sx
open PySem PySem.Spec PyProof.Rows L2
section
variable {H H' H1 H2 : Hp} {p a b c l : Addr} {o u : HO} {K : PySem.W.Frag} {σ : L2.St} {Q : VK} {v w : V} {D : Ends} {t : TT} {ta tb te : TE} {A B : Prop}
theorem x_iteDt {i j : Int} (h : decide (i = j) = true) (k : A) : if decide (i = j) = true then A else B := by rw [if_pos h]; exact k
theorem x_iteDf {i j : Int} (h : decide (i = j) = false) (k : B) : if decide (i = j) = true then A else B := by rw [if_neg (by rw [h]; exact Bool.false_ne_true)]; exact k
theorem x_iteNt {i j : Int} (h : decide (i = j) = false) (k : A) : if (!decide (i = j)) = true then A else B := by rw [h]; exact x_iteT k
theorem x_iteNf {i j : Int} (h : decide (i = j) = true) (k : B) : if (!decide (i = j)) = true then A else B := by rw [h]; exact x_iteF k
/-! ### isinstance -/
theorem x_isiI {i : Int} {n : String} {r : Bool} (h : kitB "int" n = some r) (k : Q (.bl r) H) : rIsi K [.int i, .ty n] H Q := ⟨_, _, _, _, r, rfl, .ty n, .base (.int i), kit_ty h, k⟩
theorem x_isiS {x : Str} {n : String} {r : Bool} (h : kitB "str" n = some r) (k : Q (.bl r) H) : rIsi K [.str x, .ty n] H Q := ⟨_, _, _, _, r, rfl, .ty n, .base (.str x), kit_ty h, k⟩
theorem x_isiB {x : Bool} {n : String} {r : Bool} (h : kitB "bool" n = some r) (k : Q (.bl r) H) : rIsi K [.bl x, .ty n] H Q := ⟨_, _, _, _, r, rfl, .ty n, .base (.bl x), kit_ty h, k⟩
theorem x_isiT {xs : List V} {n : String} {r : Bool} (hp : H p = some (.tup xs)) (h : kitB "tuple" n = some r) (k : Q (.bl r) H) : rIsi K [.ref p, .ty n] H Q := ⟨_, _, _, _, r, rfl, .ty n, .base (.tup hp), kit_ty h, k⟩
theorem x_isiL {xs : List V} {n : String} {r : Bool} (hp : H p = some (.lst xs)) (h : kitB "list" n = some r) (k : Q (.bl r) H) : rIsi K [.ref p, .ty n] H Q := ⟨_, _, _, _, r, rfl, .ty n, .base (.lst hp), kit_ty h, k⟩
/-- isinstance(a list or a tuple, (list, tuple)) -/
theorem kit_lt : PySem.W.kitAny K (.type "list") [.type "list", .type "tuple"] = some true := kitAny_cons (b := true) (kit_ty (by decide +kernel)) (fun h => nomatch h) (fun _ => rfl)
theorem kit_tt : PySem.W.kitAny K (.type "tuple") [.type "list", .type "tuple"] = some true := kitAny_cons (b := false) (kit_ty (by decide +kernel)) (fun _ => kitAny_cons (b := true) (kit_ty (by decide +kernel)) (fun h => nomatch h) (fun _ => rfl)) (fun h => nomatch h)
theorem x_isi2L {xs : List V} (hp : H p = some (.lst xs)) (hl : H l = some (.tup [.ty "list", .ty "tuple"])) (k : Q (.bl true) H) : rIsiT K [.ref p, .ref l] H Q :=
  ⟨_, l, _, _, _, true, rfl, hl, .cons (.ty _) (.cons (.ty _) .nil), .base (.lst hp), kit_lt, k⟩
theorem x_isi2T {xs : List V} (hp : H p = some (.tup xs)) (hl : H l = some (.tup [.ty "list", .ty "tuple"])) (k : Q (.bl true) H) : rIsiT K [.ref p, .ref l] H Q :=
  ⟨_, l, _, _, _, true, rfl, hl, .cons (.ty _) (.cons (.ty _) .nil), .base (.tup hp), kit_tt, k⟩
/-! ### all, tuple, len -/
theorem x_all {bs : List Bool} (h : H p = some (.lst (bs.map V.bl))) (k : Q (.bl (bs.all id)) H) : rAll K [.ref p] H Q := ⟨p, bs, rfl, SqL.of h, k⟩
theorem x_allT {n : Nat} (h : H p = some (.lst (List.replicate n (.bl true)))) (k : Q (.bl true) H) : rAll K [.ref p] H Q := by
  refine ⟨p, List.replicate n true, rfl, SqL.of (by rw [h, List.map_replicate]), ?_⟩
  rw [show (List.replicate n true).all id = true by simp]
  exact k
def rTupOf (K : PySem.W.Frag) : List V → Hp → VK → Prop := fun xs H Q => ∃ p ys, xs = [.ref p] ∧ ((SqL K H p ys ∧ ∀ l, H l = none → Q (.ref l) (upd H l (.tup ys))) ∨ (SqT K H p ys ∧ Q (.ref p) H))
theorem x_tupOfL {xs : List V} (h : H p = some (.lst xs)) (k : JustNew (.tup xs) H Q) : rTupOf K [.ref p] H Q := ⟨p, xs, rfl, .inl ⟨SqL.of h, k⟩⟩
theorem x_tupOfT {xs : List V} (h : H p = some (.tup xs)) (k : Q (.ref p) H) : rTupOf K [.ref p] H Q := ⟨p, xs, rfl, .inr ⟨SqT.of h, k⟩⟩
def rLenS : List V → Hp → VK → Prop := fun xs H Q => ∃ z, xs = [.str z] ∧ z.length ≤ sizeLine ∧ Q (.int z.length) H
theorem x_lenS {z : Str} (h : z.length ≤ sizeLine) (k : Q (.int z.length) H) : rLenS [.str z] H Q := ⟨z, rfl, h, k⟩
def LenSetK (K : PySem.W.Frag) (x : V) (H1 : Hp) (Q : VK) : Prop := ∃ (l : Addr) (ns : List Int), x = .ref l ∧ SqL K H1 l (ns.map V.int) ∧ ns.length ≤ 1000 ∧ Q (.int (Ow.dis ns)) H1
theorem x_lenSet (k : ta σ H fun x H1 => LenSetK K x H1 Q) : Ow.tLenSetI K ta σ H Q := k
theorem x_lenSetK {ns : List Int} (h : H l = some (.lst (ns.map V.int))) (hl : ns.length ≤ 1000) (k : Q (.int (Ow.dis ns)) H) : LenSetK K (.ref l) H Q := ⟨l, ns, rfl, SqL.of h, hl, k⟩
end
section
variable {X : Cx}
theorem c_tupOf : CallR X (.type "tuple") (rTupOf X.K) := call_tuple_of
theorem c_lenS : CallR X (.builtin "len") rLenS := call_len_str
end
section
variable {H H1 : Hp} {b a : Addr} {K : PySem.W.Frag} {σ : L2.St} {Q : VK} {te : TE}
theorem NB.bls {bs : List Bool} : NB (.lst (bs.map V.bl)) := by
  cases bs with
  | nil => exact NB.len (by decide)
  | cons x xs => exact NB.at0b rfl
/-- a comprehension over zip(a text, a tuple of ints), by what one turn gives -/
theorem zip_gen {x : Str} {ys : List Int} {f : Nat → Int → V} {j1 j2 : Nat} {vs : List Nat} (hx : H1 b = some (.tup (ys.map V.int))) (hn : x.cps.size = ys.length) (h4 : ys.length ≤ 1000)
    (hnb : ∀ i, NB (.lst ((List.zipWith f x.cps.toList ys).take i))) (hw : ∀ u v, wipe (((wipe σ vs).set j1 (some u)).set j2 (some v)) vs = wipe σ vs)
    (hte : ∀ (i c : Nat) (y : Int) (H' : Hp) (Q' : VK), x.cps.toList[i]? = some c → ys[i]? = some y → Q' (f c y) H' → te (((wipe σ vs).set j1 (some (.str ⟨#[c]⟩))).set j2 (some (.int y))) H' Q')
    (k : ∀ p H2, Ex H1 H2 → H1 p = none → H2 p = some (.lst (List.zipWith f x.cps.toList ys)) → Q (.ref p) H2) :
    ZK K [.str x, .ref b] H1 fun J H2 => LcGo J (gTup K 2 (gCons (gName j1) (gCons (gName j2) gNil))) tYes te vs σ H2 Q := by
  have hz : (List.zipWith f x.cps.toList ys).length = ys.length := by rw [List.length_zipWith, Array.length_toList, hn, Nat.min_self]
  refine lc_zip (n := ys.length) (.inl ⟨hn, by rw [List.length_map]; exact Nat.le_refl _⟩) hx (fun i acc _ => acc = (List.zipWith f x.cps.toList ys).take i) (by rw [List.take_zero]) (fun _ _ _ _ _ h => h) (fun i acc _ h => ?_) hw (fun i c y acc H' hc hy e hI kk k1 k2 => ?_) (fun p zs H2 e hp hzs hI => ?_)
  · subst h
    refine ⟨hnb i, Nat.lt_of_le_of_lt (Nat.le_trans (List.length_take_le' _ _) (by rw [hz]; exact h4)) (by decide)⟩
  · rw [List.getElem?_map] at hy
    cases hy' : ys[i]? with
    | none => rw [hy'] at hy; cases hy
    | some n =>
      rw [hy'] at hy
      have en : V.int n = y := Option.some.inj hy
      subst en
      have hc' : x.cps.toList[i]? = some c := by simpa using hc
      refine x_yes (x_iteT (hte i c n H' _ hc' hy' (k1 _ _ (Ex.refl _) ?_)))
      rw [List.take_add_one, hI]
      congr 1
      rw [List.getElem?_zipWith, hc', hy']
      rfl
  · refine k p H2 e hp ?_
    rw [hzs, hI, ← hz, List.take_length]
end
/-- a list without repetition has as many different ones as it is long -/
theorem step_new {ns : List Int} {v : Int} (h : v ∉ ns) : step_dedup ns v = ns ++ [v] := by
  unfold step_dedup
  rw [if_neg]
  intro e
  obtain ⟨x, hx, q⟩ := List.any_eq_true.mp e
  have : x = v := by simpa using q
  exact h (this ▸ hx)
theorem fold_new : ∀ (ns acc : List Int), (acc ++ ns).Nodup → ns.foldl step_dedup acc = acc ++ ns
  | [], acc, _ => (List.append_nil acc).symm
  | n :: ns, acc, h => by
    have h2 : n ∉ acc := fun q => by
      have := (List.nodup_append.mp h).2.2 n q n (by simp)
      exact this rfl
    rw [List.foldl_cons, step_new h2, fold_new ns (acc ++ [n]) (by rw [List.append_assoc]; exact h), List.append_assoc]
    rfl
theorem dis_nodup {ns : List Int} (h : ns.Nodup) : Ow.dis ns = ns.length := by
  unfold Ow.dis firstMet
  have e : (List.range ns.length).map (fun i => ns.getD i 0) = ns := by
    apply List.ext_getElem
    · simp
    · intro i h1 h2
      simp at h1
      simp [h1]
  rw [e, fold_new ns [] h, List.nil_append]
theorem x_lenSetN {H : Hp} {K : PySem.W.Frag} {Q : VK} {l : Addr} {ns m : List Int} (h : H l = some (.lst (ns.map V.int))) (pm : ns.Perm m) (nd : m.Nodup) (hl : m.length ≤ 1000) (k : Q (.int ns.length) H) : LenSetK K (.ref l) H Q :=
  x_lenSetK h (by rw [pm.length_eq]; exact hl) (by rw [dis_nodup (pm.nodup_iff.mpr nd)]; exact k)
end Sx

set_option Elab.async false
set_option linter.all false
set_option maxRecDepth 100000
set_option maxHeartbeats 2000000
namespace Ow
open PySem PySem.Spec PyProof.Rows L2 ItX

/-! ### promises of defs that are called where no repr is under way -/
structure FnG (P : Program) (w : World) (K : PySem.W.Frag) (mg : Str → Option Value) (base : Heap) (CX : CXT) (k : Nat) (f : Addr) (fd : FuncData) (ps : List Str) (sp : Sp) : Prop where
  same : ∀ vs H Q E, sp vs H Q E → vs.length = ps.length
  go : ∀ (A : Around) (outer : List Env) (s : Shared) (H : Hp) (args : Args) (us : List Value) (vs : List V) (Q : VK) (E : XK), A.guards = some [] → Room k A → Env0 P w K mg base A outer s H →
    BindsTo s fd args (ps.zip us) → Vals vs us → sp vs H Q E → codeAny (model P w) A (.call (.ref f) args) (CR CX outer P w H s Q E) s
section
variable {P : Program} {w : World} {K : PySem.W.Frag} {mg : Str → Option Value} {base : Heap} {CX : CXT} {k : Nat} {f : Addr} {fd : FuncData} {ps N : List Str} {sp : Sp} {x qual : Str} {st : Stmt}
theorem fnG_of (F : Fun K x qual st f fd) (S : FnScope N ps (defScope st)) (same : ∀ vs H Q E, sp vs H Q E → vs.length = ps.length)
    (body : ∀ (cdv : Value) (A : Around) (outer : List Env) (s : Shared) (H : Hp) (vs : List V) (Q : VK) (E : XK), A.guards = some [] → Room k (A.deeper (envOfC qual (defScope st) s.heap.objs.size f cdv)) → sp vs H Q E →
      ∃ t, PSs (cxOf CX0 P w K mg base N qual (defScope st) f cdv A outer s H E).nox (defBody st) t ∧ t { nx := fun _ H' => Q .non H', rt := Q } (start N vs) H) : FnG P w K mg base CX0 (k + 1) f fd ps sp :=
  ⟨same, fun A outer s H args us vs Q E hg hr e0 hb r h => fn_at F S (same _ _ _ _ h) hr e0 hb r fun cdv => by
    obtain ⟨t, p, q⟩ := body cdv A outer s H vs Q E hg (hr.deeper _) h
    exact ⟨t, p.nox, q⟩⟩
theorem FnG.up {j : Nat} (F : FnG P w K mg base CX j f fd ps sp) (h : j ≤ k) : FnG P w K mg base CX k f fd ps sp := ⟨F.same, fun A outer s H args us vs Q E hg hr => F.go A outer s H args us vs Q E hg (hr.mono h)⟩
theorem FnOk.g (F : FnOk P w K mg base CX k f fd ps sp) : FnG P w K mg base CX k f fd ps sp := ⟨F.len, fun A outer s H args us vs Q E _ => F.run A outer s H args us vs Q E⟩
end
section
variable {X : Cx} {CX : CXT} {k : Nat} {f : Addr} {fd : FuncData} {ps : List Str} {sp : Sp} {dvs : List V} {ds : List Value} {E : XK} {x : Str} {p pos : Pos} {e : Expr} {es : List Expr} {t : TA}
theorem go_fnG {pins : List (Addr × Obj)} {σ : L2.St} {H : Hp} {s : Shared} {Q : VK} {us : List Value} {vs : List V} (hG : X.A.guards = some []) (F : FnG X.prog X.w X.K X.mg X.base CX k f fd ps sp) (hr : Room k X.A) (hb : Binds X.K fd ps ds) (hd : Vals dvs ds)
    (hx : Passes CX X E) (I : Inv X pins σ H s) (r : Vals vs us) (h : sp (vs ++ dvs) H Q E) : wpAny (model X.prog X.w) X.A (call (.ref f) us) (EP X pins σ Q) X.xe s := by
  have both : Vals (vs ++ dvs) (us ++ ds) := r.append hd
  have bb := hb s us I.kIn (both.length.symm.trans (F.same _ _ _ _ h))
  refine wpAny_call (codeAny_mono (F.go X.A X.stack s H ⟨us, []⟩ _ _ Q E hG hr I.env0 bb both h) fun way sE z => ?_)
  match way, z with
  | .error er, z => exact hx pins σ H s er sE I z
  | .ok (.ret u), z => exact I.after z
theorem pe_callG (hG : X.A.guards = some []) (F : FnG X.prog X.w X.K X.mg X.base CX k f fd ps sp) (hr : Room k X.A) (hg : Gl X x) (hm : X.mg x = some (.ref f)) (hk : PySem.W.keepIn X.K (.ref f) = true) (hb : Binds X.K fd ps ds) (hd : Vals dvs ds) (hx : Passes CX X E)
    (ha : PA X (e :: es) t) (nd : (x == ("__debug__" : Str)) = false := by decide) (h1 : starEach (e :: es) X.env = (false, eval e X.env) :: starEach es X.env := by rfl) (h2 : (backTo pos (starEach es X.env)).any (·.1) = false := by rfl) :
    PE X (.Call (.Name x p) (e :: es) [] pos) (tCall sp dvs E t) := by
  constructor
  intro pins s σ H Q I h
  refine wpAny_Call_Name_kw (ld_glob I hg hm ?_ nd)
  have args := ha.run pos pins s σ H _ I h
  refine PySem.W.callWith_K (h₀ := X.base) I.ok.mod.kin hk (thn args ?_) h1 h2
  rintro us s1 ⟨vs, H1, I1, r1, q1⟩
  exact ⟨I1.kIn, go_fnG hG F hr hb hd hx I1 r1 q1⟩
/-! ### repr -/
structure Shw (d : PyData) : Prop where
  able : d.showable = true
  nodict : d.hasDict = false
  short : d.leavesShort 60 = true
  bulk : d.bulk ≤ 100000
  deep : d.depth ≤ 40
theorem Shw.fits {d : PyData} (h : Shw d) : d.shown.length ≤ sizeLine := by
  have a := PyData.shown_le_bulk 60 (by decide) d h.short
  have b := h.bulk
  exact Nat.le_trans a (Nat.le_trans (show _ ≤ 62 * 100000 + 60 by omega) (by decide))
def rRepr (K : PySem.W.Frag) : List V → Hp → VK → Prop := fun xs H Q => ∃ (v : V) (d : PyData), xs = [v] ∧ Dp K H v d ∧ Shw d ∧ Q (.str d.shown) H
theorem call_repr (hG : X.A.guards = some []) (hu : X.A.units + 64 < cLine) : CallR X (.builtin "repr") (rRepr X.K) := by
  rintro pins s σ H xs us Q I r ⟨v, d, rfl, hd, hs, q⟩
  obtain ⟨u, rfl, ru⟩ := vals1 r
  obtain ⟨as, rd⟩ := Dp.reads I d v u hd ru
  have sz := hs.fits
  have dp := hs.deep
  cases rd with
  | none => exact PySem.P.repr_of_none ⟨.str _, H, I.tok _, ⟨_, rfl⟩, by rw [PyData.shown_none] at q; exact q⟩
  | bool b => exact PySem.P.repr_of_bool ⟨.str _, H, I.tok _, ⟨_, rfl⟩, by rw [PyData.shown_bool] at q; exact q⟩
  | int i t => exact PySem.P.repr_of_int (by simpa [PyData.showable] using hs.able) ⟨.str _, H, I.tok _, ⟨_, rfl⟩, by rw [PyData.shown_int] at q; exact q⟩
  | str z t => exact PySem.P.repr_of_str ⟨.str _, H, I.tok _, ⟨_, rfl⟩, by rw [PyData.shown_str] at q; exact q⟩ (by rw [PyData.shown_str] at sz; exact sz)
  | list h1 h2 h3 h4 =>
    exact PySem.repr_of_reads' (.list h1 h2 h3 h4) hs.able (PyData.noDict_hsm hs.nodict) hG (by omega) (fun b o e => e) (fun h' u tk keep => ⟨.str _, H, I.kept keep, ⟨_, rfl⟩, q⟩) sz
  | tuple h1 h2 h3 h4 =>
    exact PySem.repr_of_reads' (.tuple h1 h2 h3 h4) hs.able (PyData.noDict_hsm hs.nodict) hG (by omega) (fun b o e => e) (fun h' u tk keep => ⟨.str _, H, I.kept keep, ⟨_, rfl⟩, q⟩) sz
  | dict h1 h2 h3 h4 h5 => cases hd
end
/-! ### the end of a law that shows data: it is called where no repr is under way -/
section
variable {P : Program} {w : World} {K : PySem.W.Frag} {mg mb : Str → Option Value} {k : Nat} {fa a : Addr} {fd : FuncData} {x : Str} {sp : Sp} {s : Shared} {vs : List Value} {ns : List Int}
/-- from an abstract heap H that tracks at most the script -/
theorem law_from {H : Hp} (KX : K.In s.heap) (hns : s.heap.Ns mainGlobals mg) (hb : s.heap.Ns builtinsNs mb) (hbb : ∀ x : Str, x ≠ "__name__" → mb x = bootBuiltins x) (lim : s.heap.NoLimit) (hg : s.gens = #[])
    (at_ : s.heap.get? a = some { cls := .type "list", data := .seq vs.toArray }) (hr : Room k callerA)
    (F : ∀ base : Heap, K.In base → base.Ns mainGlobals mg → FnG P w K mg base CX0 k fa fd [x] sp) (bind : ∀ (s : Shared) (u : Value), BindsTo s fd ⟨[u], []⟩ [(x, u)])
    (hsp : sp [.ref a] H (fun v _ => v = .bl true) fun _ _ _ => False) (ok : HOk P w H s.heap) (here : ∀ b, H b ≠ none → b = a) (frz : ∀ u, H a = some u → ∃ o xs, u = .frz o (.lst xs)) (out : H a ≠ none → K.lookup a = none) :
    codeAny (model P w) callerA (.call (.ref fa) ⟨[.ref a], []⟩) (fun r s' => r = .ok (.ret (.bool true)) ∧ OldK s.heap s'.heap ∧ s'.os = s.os ∧ AllBare s'.gens) s := by
  have away : ∀ {b : Addr}, b ≠ a → H b = none := fun {b} n => by
    cases e : H b with
    | none => rfl
    | some u => exact absurd (here b (by rw [e]; exact nofun)) n
  -- dicts, and what the module wrote, are not the script
  have dict : ∀ {b : Addr} {o : Obj} {es : Array DictEntry} {n : Nat}, s.heap.get? b = some o → o.data = .dict es n → H b = none := fun {b o es n} e d => away fun z => by
    rw [z, at_] at e
    cases e
    cases d
  have kin : ∀ {b : Addr} {o : Obj}, K.lookup b = some o → H b = none := fun {b o} e => by
    by_cases z : b = a
    · cases q : H a with
      | none => rw [z]; exact q
      | some u =>
        have := out (by rw [q]; exact nofun)
        rw [z, this] at e
        cases e
    · exact away z
  have KB : K.In (hidT s.heap H) := fun b o e => hidT_get (KX b o e) (kin e)
  have nsB : ∀ {b : Addr} {m : Str → Option Value}, s.heap.Ns b m → (hidT s.heap H).Ns b m := fun {b m} ⟨o, es, n, e, d, r⟩ => ⟨o, es, n, hidT_get e (dict e d), d, r⟩
  have md : Mod K mg (hidT s.heap H) := ⟨KB, nsB hns, ⟨mb, nsB hb, hbb⟩, by obtain ⟨mc, l1, l2⟩ := lim; exact ⟨mc, nsB l1, l2⟩⟩
  have env : Env0 P w K mg (hidT s.heap H) callerA [] s H := ⟨rfl, md, fun b o e => of_hidT e, by rw [hidT_size]; exact Nat.le_refl _, trivial, fun b z => (nomatch z), ok, .of_eq hg⟩
  refine codeAny_mono ((F _ KB (nsB hns)).go callerA [] s H ⟨[.ref a], []⟩ [.ref a] [.ref a] _ _ rfl hr env (bind s _) (.cons rfl .nil) hsp) fun way sE z => ?_
  match way, z with
  | .ok (.ret u), ⟨v, H', e1, e2, un, ok', rv, (q : v = .bl true)⟩ =>
    subst q
    cases rv
    refine ⟨rfl, OldK.of_keep fun b o e => ?_, e1, e2⟩
    by_cases z : H b = none
    · exact un.keep b o e z (fun m => nomatch m) (fun m => nomatch m)
    · obtain rfl := here b z
      cases q : H b with
      | none => exact absurd q z
      | some u =>
        obtain ⟨o', xs, rfl⟩ := frz u q
        have f1 := (ok b _ q).1
        rw [e] at f1
        cases f1
        exact (ok' b _ (un.frzs b _ _ q)).1
/-- the promise of the law's def at the heap behind the top -/
theorem law_goes (KX : K.In s.heap) (hns : s.heap.Ns mainGlobals mg) (hb : s.heap.Ns builtinsNs mb) (hbb : ∀ x : Str, x ≠ "__name__" → mb x = bootBuiltins x) (lim : s.heap.NoLimit) (hg : s.gens = #[])
    (at_ : s.heap.get? a = some { cls := .type "list", data := .seq vs.toArray }) (hin : IntsAre vs ns) (hl : ns.length ≤ sizeLine) (hr : Room k callerA)
    (F : ∀ base : Heap, K.In base → base.Ns mainGlobals mg → FnG P w K mg base CX0 k fa fd [x] sp) (bind : ∀ (s : Shared) (u : Value), BindsTo s fd ⟨[u], []⟩ [(x, u)])
    (hsp : ∀ H : Hp, SqL K H a (ns.map V.int) → sp [.ref a] H (fun v _ => v = .bl true) fun _ _ _ => False) :
    codeAny (model P w) callerA (.call (.ref fa) ⟨[.ref a], []⟩) (fun r s' => r = .ok (.ret (.bool true)) ∧ OldK s.heap s'.heap ∧ s'.os = s.os ∧ AllBare s'.gens) s := by
  have rv := vals_ints hin
  cases e : K.lookup a with
  | some o =>
    have e2 := (KX a o e).symm.trans at_
    cases e2
    have sq : SqL K (fun _ => none) a (ns.map V.int) := .inr ⟨_, vs.toArray, _, e, rfl, rfl, rfl, by rw [List.size_toArray, hin.length]; exact hl, rv⟩
    exact law_from (H := fun _ => none) KX hns hb hbb lim hg at_ hr F bind (hsp _ sq) (fun b u q => nomatch q) (fun b q => absurd rfl q) (fun u q => nomatch q) fun q => absurd rfl q
  | none =>
    have one : ∀ {b u}, (fun b => if b = a then some (HO.frz { cls := .type "list", data := .seq vs.toArray } (.lst (ns.map V.int))) else none : Hp) b = some u → b = a ∧ u = .frz { cls := .type "list", data := .seq vs.toArray } (.lst (ns.map V.int)) := fun {b u} q => by
      dsimp only at q
      split at q
      · next h => exact ⟨h, (Option.some.inj q).symm⟩
      · cases q
    refine law_from (H := fun b => if b = a then some (.frz { cls := .type "list", data := .seq vs.toArray } (.lst (ns.map V.int))) else none) KX hns hb hbb lim hg at_ hr F bind (hsp _ (.inl (.inr ⟨_, if_pos rfl⟩))) (fun b u q => ?_) (fun b q => ?_) (fun u q => ?_) fun _ => e
    · obtain ⟨rfl, rfl⟩ := one q
      exact ⟨at_, by rw [List.length_map]; exact hl, vs, _, rv, at_⟩
    · cases z : (fun b => if b = a then some (HO.frz { cls := .type "list", data := .seq vs.toArray } (.lst (ns.map V.int))) else none : Hp) b with
      | none => exact absurd z q
      | some u => exact (one z).1
    · exact ⟨_, _, (one q).2⟩
end
theorem walk_G {l : PySem.W.OpenLaw} {n k : Nat} {q : Program} {loose : List Str} {XP : (Str → Option Value) → Heap → Prop} {YP : World → Heap → Prop} {d : DefRec} {K : Params → PySem.W.Frag} {sp : PySem.W.Frag → Sp} {x : Str}
    (hn : l.most = some n) (small : n ≤ sizeLine) (hdf : d.params.defaults = []) (hr : Room k callerA) (hY : ∀ (w : World) (h : Heap), YP w h → (K w.params).In h)
    (F : ∀ (w : World) (mg : Str → Option Value) (fa : Addr) (h : Heap), (K w.params).In h → h.Ns mainGlobals mg → mg d.name = some (.ref fa) →
      ∃ fd : FuncData, (∀ (s : Shared) (u : Value), BindsTo s fd ⟨[u], []⟩ [(x, u)]) ∧ ∀ base : Heap, (K w.params).In base → base.Ns mainGlobals mg → FnG l.prog w (K w.params) mg base CX0 k fa fd [x] (sp (K w.params)))
    (hsp : ∀ (K : PySem.W.Frag) (H : Hp) (a : Addr) (ns : List Int), ns.length ≤ n → SqL K H a (ns.map V.int) → sp K [.ref a] H (fun v _ => v = .bl true) fun _ _ _ => False) :
    PySem.W.WalkO q loose XP YP l.row.toRowW d [] (fun f vs => PySem.call f vs) := by
  refine Att.attach_call hn hdf fun w s₀ s₁ mg mb fa o pm cd doc a vs ns G Y _ _ _ hmg at_ hin hlen hg => ?_
  obtain ⟨fd, bind, go⟩ := F w mg fa _ (hY w _ Y) G.T.g hmg
  exact law_goes (hY w _ Y) G.T.g G.T.b G.T.builtins G.T.nolimit hg at_ hin (Nat.le_trans hlen small) hr go bind fun H h => hsp _ H a ns hlen h
end Ow

set_option Elab.async false
set_option linter.all false
set_option maxRecDepth 100000
set_option maxHeartbeats 2000000
namespace Sx
open PySem PySem.Spec PyProof.Rows L2
section
variable {H H' H1 H2 : Hp} {p a b c l C dx : Addr} {o u : HO} {K : PySem.W.Frag} {σ : L2.St} {Q : VK} {v w : V} {D : Ends} {t : TT} {ta tb te tv : TE} {A B : Prop} {f : Str} {fs : List (Str × V)}
/-! ### repr -/
/-! ### fields -/
def FldK (K : PySem.W.Frag) (f : Str) (x : V) (H1 : Hp) (Q : VK) : Prop := ∃ a C dx fs v, x = .ref a ∧ H1 a = some (.ins C dx fs) ∧ Cls K C ∧ NoAttr K C f ∧ fs.lookup f = some v ∧ Q v H1
theorem x_fld (k : ta σ H fun x H1 => FldK K f x H1 Q) : tFld K ta f σ H Q := k
theorem x_fldK (h : H a = some (.ins C dx fs)) (c : Cls K C) (n : NoAttr K C f) (l : fs.lookup f = some v) (k : Q v H) : FldK K f (.ref a) H Q := ⟨a, C, dx, fs, v, rfl, h, c, n, l, k⟩
def SetK (K : PySem.W.Frag) (f : Str) (y x : V) (H2 : Hp) (R : Hp → Prop) : Prop := ∃ a C dx fs, x = .ref a ∧ H2 a = some (.ins C dx fs) ∧ Cls K C ∧ NoAttr K C f ∧ fs.length < 1000 ∧ R (upd H2 a (.ins C dx (putF f y fs)))
theorem x_setF (k : tv σ H fun y H1 => ta σ H1 fun x H2 => SetK K f y x H2 fun H3 => D.nx σ H3) : sFld K ta tv f D σ H := k
theorem x_setK {y : V} {R : Hp → Prop} (h : H a = some (.ins C dx fs)) (c : Cls K C) (n : NoAttr K C f) (l : fs.length < 1000) (k : R (upd H a (.ins C dx (putF f y fs)))) : SetK K f y (.ref a) H R := ⟨a, C, dx, fs, rfl, h, c, n, l, k⟩
/-! ### a new instance -/
theorem x_make {sp : Sp} {E : XK} {ts : TA} (k : ts σ H fun vs H1 => ∀ x dx, H1 x = none → H1 dx = none → dx ≠ x → sp (.ref x :: vs) (upd (upd H1 dx (.own x)) x (.ins C dx [])) (fun v H2 => v = .non ∧ Q (.ref x) H2) E) : tMake C sp [] E ts σ H Q := by
  show ts σ H fun vs H1 => ∀ x dx, H1 x = none → H1 dx = none → dx ≠ x → sp (.ref x :: (vs ++ [])) (upd (upd H1 dx (.own x)) x (.ins C dx [])) (fun v H2 => v = .non ∧ Q (.ref x) H2) E
  have e : (fun (vs : List V) (H1 : Hp) => ∀ x dx, H1 x = none → H1 dx = none → dx ≠ x → sp (.ref x :: (vs ++ [])) (upd (upd H1 dx (.own x)) x (.ins C dx [])) (fun v H2 => v = .non ∧ Q (.ref x) H2) E) = fun vs H1 => ∀ x dx, H1 x = none → H1 dx = none → dx ≠ x → sp (.ref x :: vs) (upd (upd H1 dx (.own x)) x (.ins C dx [])) (fun v H2 => v = .non ∧ Q (.ref x) H2) E := by
    funext vs H1
    rw [List.append_nil]
  rw [e]
  exact k
/-! ### dicts, numbers, texts -/
theorem x_dict0 (k : JustNew (.dK []) H Q) : tDNewK σ H Q := k
theorem x_pow {i j : Int} (c : CPow i j) (k : Q (.int (i ^ j.toNat)) H) : rI CPow (fun i j => .int (i ^ j.toNat)) (.int i) (.int j) H Q := ⟨i, j, rfl, rfl, c, k⟩
/-- text * int -/
def rMulS : R2 := fun x y H Q => ∃ (z : Str) (i : Int), x = .str z ∧ y = .int i ∧ z.length ≤ 16 ∧ 0 ≤ i ∧ i ≤ 1048576 ∧ ∀ q : Str, Q (.str q) H
end
section
variable {X : Cx}
end
/-! ### things of any kind -/
/-- what an own class's instances want for isinstance -/
structure ClsT (K : PySem.W.Frag) (C : Addr) : Prop where
  cl : Cls K C
  ha : PySem.W.findIn K (.ref C) "__class__" = some (some (.builtin "object.__class__"))
  hn : PySem.W.specialIn K (.builtin "object.__class__") "__get__" = some (some (.builtin "getset_descriptor.__get__"))
  htk : PySem.W.takesIn K (.builtin "object.__class__") = some true
  hm : PySem.W.mroIn K C (.type "object") = some true
  kI : PySem.W.kitOne K (.ref C) (.type "int") = some false
  kB : PySem.W.kitOne K (.ref C) (.type "bool") = some false
  kT : PySem.W.kitOne K (.ref C) (.type "tuple") = some false
  kL : PySem.W.kitOne K (.ref C) (.type "list") = some false
  kD : PySem.W.kitOne K (.ref C) (.type "dict") = some false
  kS : PySem.W.kitOne K (.ref C) (.type "str") = some false
inductive Thing (K : PySem.W.Frag) (H : Hp) : V → Prop where
  | int (i : Int) : Thing K H (.int i)
  | bl (b : Bool) : Thing K H (.bl b)
  | non : Thing K H .non
  | str (z : Str) : Thing K H (.str z)
  | lst {a : Addr} {xs : List V} (e : H a = some (.lst xs)) (n : NB (.lst xs)) : Thing K H (.ref a)
  | tup {a : Addr} {xs : List V} (e : H a = some (.tup xs)) : Thing K H (.ref a)
  | dK {a : Addr} {kvs : List (Key × V)} (e : H a = some (.dK kvs)) : Thing K H (.ref a)
  | ins {a C dx : Addr} {fs : List (Str × V)} (e : H a = some (.ins C dx fs)) (c : ClsT K C) : Thing K H (.ref a)
theorem NB.dK {kvs : List (Key × V)} : NB (.dK kvs) := fun _ _ _ _ h => nomatch h
section
variable {H H1 : Hp} {K : PySem.W.Frag} {v : V} {Q : VK}
theorem Thing.mono (h : Thing K H v) (e : Ex H H1) : Thing K H1 v := by
  cases h with
  | int i => exact .int i
  | bl b => exact .bl b
  | non => exact .non
  | str z => exact .str z
  | lst h n => exact .lst (e.kp _ _ h n) n
  | tup h => exact .tup (e.kp _ _ h NB.tup)
  | dK h => exact .dK (e.kp _ _ h NB.dK)
  | ins h c => exact .ins (e.kp _ _ h NB.ins) c
/-- the type of a thing and what isinstance tells of it -/
structure Kinds (K : PySem.W.Frag) (H : Hp) (v : V) (bI bB bT bL bS bD : Bool) : Prop where
  ex : ∃ t, TyX K H v t ∧ PySem.W.kitOne K t (.type "int") = some bI ∧ PySem.W.kitOne K t (.type "bool") = some bB ∧ PySem.W.kitOne K t (.type "tuple") = some bT ∧ PySem.W.kitOne K t (.type "list") = some bL ∧ PySem.W.kitOne K t (.type "str") = some bS ∧ PySem.W.kitOne K t (.type "dict") = some bD
def isBl : V → Bool
  | .bl _ => true
  | _ => false
def isStr : V → Bool
  | .str _ => true
  | _ => false
theorem Kinds.int {i : Int} : Kinds K H (.int i) true false false false false false := ⟨_, .base (.int i), kit_ty (by decide +kernel), kit_ty (by decide +kernel), kit_ty (by decide +kernel), kit_ty (by decide +kernel), kit_ty (by decide +kernel), kit_ty (by decide +kernel)⟩
theorem Kinds.bl {i : Bool} : Kinds K H (.bl i) true true false false false false := ⟨_, .base (.bl i), kit_ty (by decide +kernel), kit_ty (by decide +kernel), kit_ty (by decide +kernel), kit_ty (by decide +kernel), kit_ty (by decide +kernel), kit_ty (by decide +kernel)⟩
theorem Kinds.non : Kinds K H .non false false false false false false := ⟨_, .base .non, kit_ty (by decide +kernel), kit_ty (by decide +kernel), kit_ty (by decide +kernel), kit_ty (by decide +kernel), kit_ty (by decide +kernel), kit_ty (by decide +kernel)⟩
theorem Kinds.str {z : Str} : Kinds K H (.str z) false false false false true false := ⟨_, .base (.str z), kit_ty (by decide +kernel), kit_ty (by decide +kernel), kit_ty (by decide +kernel), kit_ty (by decide +kernel), kit_ty (by decide +kernel), kit_ty (by decide +kernel)⟩
theorem Kinds.lst {a : Addr} {xs : List V} (e : H a = some (.lst xs)) : Kinds K H (.ref a) false false false true false false := ⟨_, .base (.lst e), kit_ty (by decide +kernel), kit_ty (by decide +kernel), kit_ty (by decide +kernel), kit_ty (by decide +kernel), kit_ty (by decide +kernel), kit_ty (by decide +kernel)⟩
theorem Kinds.tup {a : Addr} {xs : List V} (e : H a = some (.tup xs)) : Kinds K H (.ref a) false false true false false false := ⟨_, .base (.tup e), kit_ty (by decide +kernel), kit_ty (by decide +kernel), kit_ty (by decide +kernel), kit_ty (by decide +kernel), kit_ty (by decide +kernel), kit_ty (by decide +kernel)⟩
theorem Kinds.dK {a : Addr} {xs : List (Key × V)} (e : H a = some (.dK xs)) : Kinds K H (.ref a) false false false false false true := ⟨_, .base (.dK e), kit_ty (by decide +kernel), kit_ty (by decide +kernel), kit_ty (by decide +kernel), kit_ty (by decide +kernel), kit_ty (by decide +kernel), kit_ty (by decide +kernel)⟩
theorem Kinds.ins {a C dx : Addr} {fs : List (Str × V)} (e : H a = some (.ins C dx fs)) (c : ClsT K C) : Kinds K H (.ref a) false false false false false false := ⟨_, .base (.ins e c.cl c.ha c.hn c.htk c.hm), c.kI, c.kB, c.kT, c.kL, c.kS, c.kD⟩
theorem Thing.kinds (h : Thing K H v) : ∃ bT bL bD, Kinds K H v (isI v || isBl v) (isBl v) bT bL (isStr v) bD := by
  cases h with
  | int i => exact ⟨_, _, _, Kinds.int⟩
  | bl b => exact ⟨_, _, _, Kinds.bl⟩
  | non => exact ⟨_, _, _, Kinds.non⟩
  | str z => exact ⟨_, _, _, Kinds.str⟩
  | lst h n => exact ⟨_, _, _, Kinds.lst h⟩
  | tup h => exact ⟨_, _, _, Kinds.tup h⟩
  | dK h => exact ⟨_, _, _, Kinds.dK h⟩
  | ins h c => exact ⟨_, _, _, Kinds.ins h c⟩
end
/-! ### shown data -/
section
variable {H : Hp} {K : PySem.W.Frag} {a : Addr}
end
end Sx

set_option Elab.async false
set_option linter.all false
set_option maxRecDepth 100000
set_option maxHeartbeats 2000000
namespace Sx
open PySem PySem.Spec PyProof.Rows L2 StrLaws
section
variable {H H' H1 H2 : Hp} {p a b c l C dx : Addr} {o u : HO} {K : PySem.W.Frag} {σ : L2.St} {Q : VK} {v w : V} {D : Ends} {t : TT} {ta tb te tv : TE} {A B : Prop}
/-! ### loops over tuples -/
def TK (K : PySem.W.Frag) (x : V) (H1 : Hp) (R : It → Hp → Prop) : Prop := ∃ a, x = .ref a ∧ (∃ xs, SqT K H1 a xs) ∧ R (Itt K a) H1
theorem x_iT {R : It → Hp → Prop} (k : ta σ H fun x H1 => TK K x H1 R) : iTup K ta σ H R := k
theorem lc_tup {xs : List V} {j : Nat} {vs : List Nat} (hx : H1 a = some (.tup xs)) (I : Nat → List V → Hp → Prop) (h0 : I 0 [] H1) (mono : ∀ i acc H H', Tx H H' → I i acc H → I i acc H') (nb : ∀ i acc H, I i acc H → NB (.lst acc) ∧ acc.length < sizeLine)
    (hw : ∀ x, wipe ((wipe σ vs).set j (some x)) vs = wipe σ vs)
    (turn : ∀ (i : Nat) x acc H', xs[i]? = some x → Ex H1 H' → I i acc H' → ∀ kk : Option V → Hp → Prop, (∀ y H4, Ex H' H4 → I (i + 1) (acc ++ [y]) H4 → kk (some y) H4) → (∀ H4, Ex H' H4 → I (i + 1) acc H4 → kk none H4) →
      t ((wipe σ vs).set j (some x)) H' fun b H3 => if b = true then te ((wipe σ vs).set j (some x)) H3 (fun y H4 => kk (some y) H4) else kk none H3)
    (k : ∀ p ys H2, Ex H1 H2 → H1 p = none → H2 p = some (.lst ys) → I xs.length ys H2 → Q (.ref p) H2) : TK K (.ref a) H1 fun J H2 => LcGo J (gName j) t te vs σ H2 Q := by
  have hq : ∀ H', Ex H1 H' → SqT K H' a xs := fun H' e => SqT.of (e.kp _ _ hx NB.tup)
  refine ⟨a, rfl, ⟨xs, SqT.of hx⟩, lc_any (n := xs.length) I h0 mono nb (fun i H' hi e => ⟨xs, xs[i], hq H' e, by simp [hi]⟩) (fun H' e => ⟨xs, hq H' e, Nat.le_refl _⟩) (fun i acc x H' H'' hi e q y kk k1 k2 => ?_) k⟩
  obtain ⟨rfl, y⟩ := y
  exact ⟨hw _, turn i x acc _ (y xs (hq _ e)) e q kk k1 k2⟩
/-! ### a dict of one pair -/
def DispK (H : Hp) (p : Addr) (ps : List (V × V)) (H2 : Hp) (Q : VK) : Prop := H2 p = some (.dK []) ∧ ∃ kvs : List (Key × V), ps = kvs.map (fun kv => (kV kv.1, kv.2)) ∧ kvs.length ≤ 15 ∧ Q (.ref p) (upd H2 p (.dK (mergeK [] kvs)))
/-! ### things that are tuples or none -/
theorem Thing.tupOr (t : Thing K H v) : (∃ p xs, v = .ref p ∧ H p = some (.tup xs)) ∨ (∃ bI bB bL bS bD, Kinds K H v bI bB false bL bS bD) ∧ ∀ p xs, v = .ref p → H p ≠ some (.tup xs) := by
  cases t with
  | int i => exact .inr ⟨⟨_, _, _, _, _, Kinds.int⟩, fun p xs e => by cases e⟩
  | bl b => exact .inr ⟨⟨_, _, _, _, _, Kinds.bl⟩, fun p xs e => by cases e⟩
  | non => exact .inr ⟨⟨_, _, _, _, _, Kinds.non⟩, fun p xs e => by cases e⟩
  | str z => exact .inr ⟨⟨_, _, _, _, _, Kinds.str⟩, fun p xs e => by cases e⟩
  | lst h n => exact .inr ⟨⟨_, _, _, _, _, Kinds.lst h⟩, fun p xs e q => by cases e; rw [h] at q; cases q⟩
  | tup h => exact .inl ⟨_, _, rfl, h⟩
  | dK h => exact .inr ⟨⟨_, _, _, _, _, Kinds.dK h⟩, fun p xs e q => by cases e; rw [h] at q; cases q⟩
  | ins h c => exact .inr ⟨⟨_, _, _, _, _, Kinds.ins h c⟩, fun p xs e q => by cases e; rw [h] at q; cases q⟩
/-- a thing, and so are its items if it is a tuple -/
structure Deep (K : PySem.W.Frag) (H : Hp) (v : V) : Prop where
  th : Thing K H v
  it : ∀ p xs, v = .ref p → H p = some (.tup xs) → ∀ x ∈ xs, Thing K H x
theorem Deep.flat (t : Thing K H v) (n : ∀ p xs, v = .ref p → H p ≠ some (.tup xs)) : Deep K H v := ⟨t, fun p xs e h => absurd h (n p xs e)⟩
theorem Deep.tup {xs : List V} (h : H a = some (.tup xs)) (t : ∀ x ∈ xs, Thing K H x) : Deep K H (.ref a) := ⟨.tup h, fun p ys e q => by
  cases e
  rw [h] at q
  cases q
  exact t⟩
theorem Deep.mono (d : Deep K H v) (e : Ex H H1) : Deep K H1 v := by
  refine ⟨d.th.mono e, fun p xs ev h x hx => ?_⟩
  rcases d.th.tupOr with ⟨p', ys, e1, h1⟩ | ⟨_, no⟩
  · subst ev
    cases e1
    have h2 := e.kp _ _ h1 NB.tup
    rw [h] at h2
    cases h2
    exact (d.it _ _ rfl h1 x hx).mono e
  · subst ev
    have g := d.th
    cases g with
    | lst q n => have := e.kp _ _ q n; rw [h] at this; cases this
    | tup q => exact absurd q (no _ _ rfl)
    | dK q => have := e.kp _ _ q NB.dK; rw [h] at this; cases this
    | ins q c => have := e.kp _ _ q NB.ins; rw [h] at this; cases this
end
/-! ### shown numbers -/
theorem log2_small {n : Nat} (h : n < 10 ^ 59) : n.log2 < 1920 := by
  by_cases h0 : n = 0
  · subst h0; decide
  · rw [Nat.log2_lt h0]
    exact Nat.lt_of_lt_of_le h (Nat.le_trans (show 10 ^ 59 ≤ 2 ^ 200 by decide) (Nat.pow_le_pow_right (by decide) (by decide)))
theorem int_short {i : Int} (h : i.natAbs < 10 ^ 59) : PyData.leavesShort 60 (.int i) = true := by
  simp only [PyData.leavesShort, decide_eq_true_eq]
  have e := int_text_length_le10 (k := 59) (by decide) h
  show (Str.ofString (toString i)).length ≤ 60
  rw [PySem.ofString_length]
  exact e
theorem int_shows {i : Int} (h : i.natAbs < 10 ^ 59) : PyData.showable (.int i) = true := by
  simp only [PyData.showable, decide_eq_true_eq]
  exact log2_small h
end Sx

set_option Elab.async false
set_option linter.all false
set_option maxRecDepth 100000
set_option maxHeartbeats 2000000
namespace Sx
open PySem PySem.Spec PyProof.Rows L2
section
variable {H H' H1 H2 : Hp} {p a b c l C dx : Addr} {o u : HO} {K : PySem.W.Frag} {σ : L2.St} {Q : VK} {v w : V} {D : Ends} {t : TT} {ta tb te tv tx ty td : TE} {A B : Prop} {i j : Int} {xs ys : List V}
/-! ### min, max, list, index -/
def rMin2 : List V → Hp → VK → Prop := fun xs H Q => ∃ i j, xs = [.int i, .int j] ∧ Q (.int (if j < i then j else i)) H
def rMax2 : List V → Hp → VK → Prop := fun xs H Q => ∃ i j, xs = [.int i, .int j] ∧ Q (.int (if j > i then j else i)) H
def rListOf (K : PySem.W.Frag) : List V → Hp → VK → Prop := fun xs H Q => ∃ p ys, xs = [.ref p] ∧ (SqL K H p ys ∨ SqT K H p ys) ∧ JustNew (.lst ys) H Q
theorem x_listOfT (h : H p = some (.tup xs)) (k : JustNew (.lst xs) H Q) : rListOf K [.ref p] H Q := ⟨p, xs, rfl, .inr (SqT.of h), k⟩
theorem x_listOfL (h : H p = some (.lst xs)) (k : JustNew (.lst xs) H Q) : rListOf K [.ref p] H Q := ⟨p, xs, rfl, .inl (SqL.of h), k⟩
def rTupIdx (K : PySem.W.Frag) : V → List V → Hp → VK → Prop := fun x xs H Q => ∃ (p : Addr) (ns : List Int) (n : Int) (j : Nat), x = .ref p ∧ xs = [.int n] ∧ SqT K H p (ns.map V.int) ∧ ns[j]? = some n ∧ (∀ m, m < j → ns[m]? ≠ some n) ∧ Q (.int (j : Nat)) H
/-! ### tuples joined and cut, any -/
theorem x_catA (h : H a = some (.tup xs)) (h' : H b = some (.tup ys)) (l : xs.length + ys.length ≤ sizeLine) (k : ∀ p H1, Ex H H1 → H1 p = some (.tup (xs ++ ys)) → Q (.ref p) H1) : rCatA K (.ref a) (.ref b) H Q := by
  refine ⟨a, b, xs, ys, rfl, rfl, SqT.of h, SqT.of h', l, fun e => ?_, fun _ e => ?_, fun _ _ p hp => k p _ (Ex.new hp) upd_same⟩
  · exact k b H (Ex.refl H) (by rw [h', e]; rfl)
  · exact k a H (Ex.refl H) (by rw [h, e, List.append_nil])
theorem x_slA {lo hi : Option Int} (h : H a = some (.tup xs)) (k : ∀ p H1, Ex H H1 → H1 p = some (.tup (cutV xs lo hi)) → Q (.ref p) H1) : rSlA K (.ref a) lo hi H Q := by
  refine ⟨a, xs, rfl, SqT.of h, fun e => ?_, fun _ p hp => k p _ (Ex.new hp) upd_same⟩
  refine k a H (Ex.refl H) ?_
  rw [h]
  unfold cutV
  rw [e.1, e.2, List.drop_zero, Nat.sub_zero, List.take_length]
/-! ### a dict of four pairs, and get -/
theorem x_disp4 {k1 v1 k2 v2 k3 v3 k4 v4 : TE} (k : ∀ p H0, Ex H H0 → H p = none → H0 p = some (.dK []) → k1 σ H0 fun x1 H1 => v1 σ H1 fun y1 H1 => k2 σ H1 fun x2 H1 => v2 σ H1 fun y2 H1 => k3 σ H1 fun x3 H1 => v3 σ H1 fun y3 H1 => k4 σ H1 fun x4 H1 => v4 σ H1 fun y4 H1 => DispK H p [(x1, y1), (x2, y2), (x3, y3), (x4, y4)] H1 Q) :
    tDisp [(k1, v1), (k2, v2), (k3, v3), (k4, v4)] σ H Q := fun p hp => k p _ (Ex.new hp) hp upd_same
theorem merge4 {z1 z2 z3 z4 : Str} {y1 y2 y3 y4 : V} (h : ([z1, z2, z3, z4] : List Str).Nodup) : mergeK [] [((Sum.inr z1 : Key), y1), (Sum.inr z2, y2), (Sum.inr z3, y3), (Sum.inr z4, y4)] = [(Sum.inr z1, y1), (Sum.inr z2, y2), (Sum.inr z3, y3), (Sum.inr z4, y4)] := by
  simp only [List.nodup_cons, List.mem_cons, List.not_mem_nil, or_false, not_or, not_false_eq_true, List.nodup_nil, and_true] at h
  obtain ⟨⟨n12, n13, n14⟩, ⟨n23, n24⟩, n34⟩ := h
  simp [mergeK, putK, n12, n13, n14, n23, n24, n34]
theorem x_disp4S {z1 z2 z3 z4 : Str} {y1 y2 y3 y4 : V} (h : H2 p = some (.dK [])) (hp : H p = none) (e : Ex H H2) (nd : ([z1, z2, z3, z4] : List Str).Nodup)
    (k : ∀ H3, Ex H H3 → (∀ a xs, H2 a = some (.tup xs) → H3 a = some (.tup xs)) → H3 p = some (.dK [(Sum.inr z1, y1), (Sum.inr z2, y2), (Sum.inr z3, y3), (Sum.inr z4, y4)]) → Q (.ref p) H3) : DispK H p [(.str z1, y1), (.str z2, y2), (.str z3, y3), (.str z4, y4)] H2 Q := by
  refine ⟨h, [(Sum.inr z1, y1), (Sum.inr z2, y2), (Sum.inr z3, y3), (Sum.inr z4, y4)], rfl, (by show 4 ≤ 15; decide), ?_⟩
  refine k _ (Ex.mut e hp) (fun a xs ha => ?_) (by rw [upd_same, merge4 nd])
  rw [upd_ne (ne_of ha h (by intro z; cases z))]
  exact ha
end
end Sx

set_option Elab.async false
set_option linter.all false
set_option maxRecDepth 100000
set_option maxHeartbeats 2000000
/-! a tuple the other way round -/
namespace Rv
open PySem PySem.Spec PyProof.Rows L2
section
variable {prog : Program} {w : World} {A : Around} {E : Value → Shared → Prop} {s : Shared}
end
section
variable {X : Cx}
/-- t[::-1], t a tuple -/
def tBackT (K : PySem.W.Frag) (te : TE) : TE := fun σ H Q => te σ H fun x H1 => ∃ a xs, x = .ref a ∧ SqT K H1 a xs ∧ ∀ p, H1 p = none → Q (.ref p) (upd H1 p (.tup xs.reverse))
end
end Rv
namespace Rv
open PySem PySem.Spec PyProof.Rows L2
section
variable {X : Cx}
/-! ### a range as a value, and what is not in it -/
def rRange1 : List V → Hp → VK → Prop := fun vs H Q => ∃ j : Int, vs = [.int j] ∧ ∀ p, H p = none → Q (.ref p) (upd H p (.rng 0 j))
def rNotInRng : R2 := fun x y H Q => ∃ (i : Int) (a : Addr) (lo hi : Int), x = .int i ∧ y = .ref a ∧ H a = some (.rng lo hi) ∧ Q (.bl (!decide (lo ≤ i ∧ i < hi))) H
/-! ### repr, of an empty dict too -/
def rReprX (K : PySem.W.Frag) : List V → Hp → VK → Prop := fun xs H Q => Ow.rRepr K xs H Q ∨ ∃ a, xs = [.ref a] ∧ H a = some (.dK []) ∧ Q (.str (PyData.dict []).shown) H
theorem call_reprX (hG : X.A.guards = some []) (hu : X.A.units + 64 < cLine) : CallR X (.builtin "repr") (rReprX X.K) := by
  intro pins s σ H xs us Q I r h
  rcases h with h | ⟨a, rfl, ha, q⟩
  · exact Ow.call_repr hG hu pins s σ H xs us Q I r h
  · obtain ⟨u, rfl, ru⟩ := vals1 r
    cases ru
    obtain ⟨_, away, vs, kv, o, es, ep, at0, ex, dat, _, prs, _⟩ := I.hok a _ ha
    cases kv
    have none0 : es.toList = [] := by
      generalize es.toList = l at prs
      cases prs
      rfl
    have rd : Reads s.heap (.ref a) (.dict []) (a :: [] ++ []) := .dict (kvs := []) at0 ex.1 dat (by rw [none0]; exact .nil) (by rw [none0]; exact .nil)
    refine PySem.repr_of_reads' rd rfl (fun _ m => ?_) hG ?_ (fun b o e => e) (fun h' u tk keep => ⟨.str _, H, I.kept keep, ⟨_, rfl⟩, q⟩) ?_
    · rcases List.mem_singleton.mp (by simpa using m) with e
      rw [← e] at away
      simp at away
    · show X.A.units + (PyData.depth (.dict []) + 1) < cLine
      have : PyData.depth (.dict []) = 1 := rfl
      omega
    · show (PyData.dict []).shown.length ≤ sizeLine
      exact Nat.le_trans (show (PyData.dict []).shown.length ≤ 2 by decide) (by decide)
end
end Rv

set_option Elab.async false
set_option linter.all false
set_option maxRecDepth 100000
set_option maxHeartbeats 2000000
namespace Sx
open PySem PySem.Spec PyProof.Rows L2 StrLaws
/-! ### data that stays -/
mutual
def DN (H : Hp) : PyData → V → Prop
  | .none, v => v = .non
  | .bool b, v => v = .bl b
  | .int i, v => v = .int i
  | .str z, v => v = .str z
  | .list ds, v => ∃ a xs, v = .ref a ∧ H a = some (.lst xs) ∧ NB (.lst xs) ∧ DNs H ds xs
  | .tuple ds, v => ∃ a xs, v = .ref a ∧ H a = some (.tup xs) ∧ DNs H ds xs
  | .dict _, _ => False
def DNs (H : Hp) : List PyData → List V → Prop
  | [], xs => xs = []
  | d :: ds, xs => ∃ x r, xs = x :: r ∧ DN H d x ∧ DNs H ds r
end
mutual
theorem DN.dp {H : Hp} {K : PySem.W.Frag} : ∀ (d : PyData) (v : V), DN H d v → Dp K H v d
  | .none, _, h => by rw [DN] at h; rw [h]; exact .non
  | .bool b, _, h => by rw [DN] at h; rw [h]; exact .bl b
  | .int i, _, h => by rw [DN] at h; rw [h]; exact .int i
  | .str z, _, h => by rw [DN] at h; rw [h]; exact .str z
  | .list ds, _, h => by
    rw [DN] at h
    obtain ⟨a, xs, rfl, ha, _, hd⟩ := h
    exact .lst (SqL.of ha) (DNs.dp ds xs hd)
  | .tuple ds, _, h => by
    rw [DN] at h
    obtain ⟨a, xs, rfl, ha, hd⟩ := h
    exact .tup (SqT.of ha) (DNs.dp ds xs hd)
  | .dict _, _, h => by rw [DN] at h; exact h.elim
theorem DNs.dp {H : Hp} {K : PySem.W.Frag} : ∀ (ds : List PyData) (xs : List V), DNs H ds xs → DpAll K H xs ds
  | [], _, h => by rw [DNs] at h; rw [h]; exact .nil
  | d :: ds, _, h => by
    rw [DNs] at h
    obtain ⟨x, r, rfl, h1, h2⟩ := h
    exact .cons (DN.dp d x h1) (DNs.dp ds r h2)
end
mutual
theorem DN.mono {H H1 : Hp} (e : Ex H H1) : ∀ (d : PyData) (v : V), DN H d v → DN H1 d v
  | .none, _, h => by rw [DN] at h ⊢; exact h
  | .bool b, _, h => by rw [DN] at h ⊢; exact h
  | .int i, _, h => by rw [DN] at h ⊢; exact h
  | .str z, _, h => by rw [DN] at h ⊢; exact h
  | .list ds, _, h => by
    rw [DN] at h ⊢
    obtain ⟨a, xs, rfl, ha, nb, hd⟩ := h
    exact ⟨a, xs, rfl, e.kp _ _ ha nb, nb, DNs.mono e ds xs hd⟩
  | .tuple ds, _, h => by
    rw [DN] at h ⊢
    obtain ⟨a, xs, rfl, ha, hd⟩ := h
    exact ⟨a, xs, rfl, e.kp _ _ ha NB.tup, DNs.mono e ds xs hd⟩
  | .dict _, _, h => by rw [DN] at h; exact h.elim
theorem DNs.mono {H H1 : Hp} (e : Ex H H1) : ∀ (ds : List PyData) (xs : List V), DNs H ds xs → DNs H1 ds xs
  | [], _, h => by rw [DNs] at h ⊢; exact h
  | d :: ds, _, h => by
    rw [DNs] at h ⊢
    obtain ⟨x, r, rfl, h1, h2⟩ := h
    exact ⟨x, r, rfl, DN.mono e d x h1, DNs.mono e ds r h2⟩
end
theorem DNs.len {H : Hp} : ∀ {ds : List PyData} {xs : List V}, DNs H ds xs → ds.length = xs.length
  | [], _, h => by rw [DNs] at h; rw [h]; rfl
  | d :: ds, _, h => by
    rw [DNs] at h
    obtain ⟨x, r, rfl, h1, h2⟩ := h
    rw [List.length_cons, List.length_cons, DNs.len h2]
/-- small data -/
structure Sml (b e : Nat) (d : PyData) : Prop where
  able : d.showable = true
  nodict : d.hasDict = false
  short : d.leavesShort 60 = true
  lay : d.canLay0 = true
  bulk : d.bulk ≤ b
  deep : d.depth ≤ e
theorem Sml.up {b e b' e' : Nat} {d : PyData} (h : Sml b e d) (h1 : b ≤ b') (h2 : e ≤ e') : Sml b' e' d := ⟨h.able, h.nodict, h.short, h.lay, Nat.le_trans h.bulk h1, Nat.le_trans h.deep h2⟩
theorem Sml.shw {b e : Nat} {d : PyData} (h : Sml b e d) (h1 : b ≤ 100000) (h2 : e ≤ 40) : Ow.Shw d := ⟨h.able, h.nodict, h.short, Nat.le_trans h.bulk h1, Nat.le_trans h.deep h2⟩
theorem Sml.all {b e : Nat} : ∀ {ds : List PyData}, (∀ d ∈ ds, Sml b e d) → PyData.showableAll ds = true ∧ PyData.hasDictAll ds = false ∧ PyData.leavesShortAll 60 ds = true ∧ PyData.canLayAll0 ds = true ∧ PyData.bulkAll ds ≤ ds.length * (b + 1) ∧ PyData.depthAll ds ≤ e
  | [], _ => by simp [PyData.showableAll, PyData.hasDictAll, PyData.leavesShortAll, PyData.canLayAll0, PyData.bulkAll, PyData.depthAll]
  | d :: ds, h => by
    obtain ⟨h1, h2, h3, h4, h5, h6⟩ := h d (by simp)
    obtain ⟨k1, k2, k3, k4, k5, k6⟩ := Sml.all (ds := ds) fun x hx => h x (by simp [hx])
    refine ⟨?_, ?_, ?_, ?_, ?_, ?_⟩
    · simp [PyData.showableAll, h1, k1]
    · simp [PyData.hasDictAll, h2, k2]
    · simp [PyData.leavesShortAll, h3, k3]
    · simp [PyData.canLayAll0, h4, k4]
    · simp only [PyData.bulkAll, List.length_cons]
      rw [Nat.add_mul, Nat.one_mul]
      omega
    · simp only [PyData.depthAll]
      exact Nat.max_le.mpr ⟨h6, k6⟩
theorem Sml.tup {b e n : Nat} {ds : List PyData} (h : ∀ d ∈ ds, Sml b e d) (hn : ds.length ≤ n) : Sml (n * (b + 1)) (e + 1) (.tuple ds) := by
  obtain ⟨k1, k2, k3, k4, k5, k6⟩ := Sml.all h
  refine ⟨by simpa [PyData.showable] using k1, by simpa [PyData.hasDict] using k2, by simpa [PyData.leavesShort] using k3, by simpa [PyData.canLay0] using k4, ?_, ?_⟩
  · simp only [PyData.bulk]
    exact Nat.le_trans k5 (Nat.mul_le_mul_right _ hn)
  · simp only [PyData.depth]
    omega
theorem Sml.lst {b e n : Nat} {ds : List PyData} (h : ∀ d ∈ ds, Sml b e d) (hn : ds.length ≤ n) : Sml (n * (b + 1)) (e + 1) (.list ds) := by
  obtain ⟨k1, k2, k3, k4, k5, k6⟩ := Sml.all h
  refine ⟨by simpa [PyData.showable] using k1, by simpa [PyData.hasDict] using k2, by simpa [PyData.leavesShort] using k3, by simpa [PyData.canLay0] using k4, ?_, ?_⟩
  · simp only [PyData.bulk]
    exact Nat.le_trans k5 (Nat.mul_le_mul_right _ hn)
  · simp only [PyData.depth]
    omega
theorem Sml.int {i : Int} (h : i.natAbs < 10 ^ 59) : Sml 0 0 (.int i) := ⟨int_shows h, by simp [PyData.hasDict], int_short h, by simp [PyData.canLay0], by simp [PyData.bulk], by simp [PyData.depth]⟩
theorem Sml.bool {b : Bool} : Sml 0 0 (.bool b) := ⟨by simp [PyData.showable], by simp [PyData.hasDict], by simp [PyData.leavesShort], by simp [PyData.canLay0], by simp [PyData.bulk], by simp [PyData.depth]⟩
theorem Sml.none : Sml 0 0 .none := ⟨by simp [PyData.showable], by simp [PyData.hasDict], by simp [PyData.leavesShort], by simp [PyData.canLay0], by simp [PyData.bulk], by simp [PyData.depth]⟩
theorem Sml.str {z : Str} {n : Nat} (ok : PyData.strOk z = true) (h : (z.cps.toList.all fun c => decide (c < 16 ^ 8)) = true) (hn : z.cps.size ≤ n) : Sml n 0 (.str z) := ⟨by simp [PyData.showable], by simp [PyData.hasDict], by simpa only [PyData.leavesShort] using h, by simpa [PyData.canLay0] using ok, by simpa [PyData.bulk] using hn, by simp [PyData.depth]⟩
section
variable {H H1 : Hp} {b a : Addr} {K : PySem.W.Frag} {σ : L2.St} {Q : VK} {te : TE}
end
end Sx

set_option Elab.async false
set_option linter.all false
set_option maxRecDepth 100000
set_option maxHeartbeats 2000000
namespace Sx
open PySem PySem.Spec PyProof.Rows L2 StrLaws
section
variable {H H1 : Hp} {p b a : Addr} {K : PySem.W.Frag} {σ : L2.St} {Q : VK} {te : TE} {v w : V} {xs : List V}
theorem NB.rng {i j : Int} : NB (.rng i j) := fun _ _ _ _ h => nomatch h
end
section
variable {X : Cx}
theorem c_listOf : CallR X (.type "list") (rListOf X.K) := call_list_of
end
end Sx

set_option Elab.async false
set_option maxRecDepth 100000
set_option maxHeartbeats 2000000
set_option linter.all false
/-! errors of the program: try .. except C as e .. else -/
namespace Er
open PySem PySem.Spec PyProof.Rows L2
section
variable {X : Cx} {x n : Str} {c : Value} {i : Nat} {body suite : List Stmt} {b0 : Stmt} {np pos pos' : Pos}
variable {tb : WX → TS} {ts : Addr → Value → Option Addr → TS} {Wout : WX}
/-- what the handlers are to do with an exception -/
def Met (X : Cx) (pins : List (Addr × Obj)) (D : Ends) (hd : ExceptHandler) (v : Value) (s' : Shared) : Prop :=
  wpAny (model X.prog X.w) X.A (noteFrame v X.env) (fun _ s2 => wpAny (model X.prog X.w) X.A (setFlight v none) (fun _ s3 =>
    wpAny (model X.prog X.w) X.A (handleBy v X.env [hd]) (SP X pins D) X.xe s3) X.xe s2) X.xe s'
end
end Er

set_option Elab.async false
set_option maxRecDepth 100000
set_option maxHeartbeats 2000000
set_option linter.all false
/-! errors of the program: made, raised, asked for their class, read; defs called while one is handled -/
namespace Er
open PySem PySem.Spec PyProof.Rows L2
/-- what the top says of an error's class -/
structure XC (K : PySem.W.Frag) (C : Addr) : Prop where
  oex : OexC K C
  ga : PySem.W.findIn K (.ref C) "__getattribute__" = some (some (.builtin "BaseException.__getattribute__"))
  gg : PySem.W.findIn K (.ref C) "__getattr__" = some none
  hd : PySem.W.hasDictIn K C = true
  ha : PySem.W.findIn K (.ref C) "__class__" = some (some (.builtin "object.__class__"))
  hn : PySem.W.specialIn K (.builtin "object.__class__") "__get__" = some (some (.builtin "getset_descriptor.__get__"))
  ht : PySem.W.takesIn K (.builtin "object.__class__") = some true
  hm : PySem.W.mroIn K C (.type "object") = some true
section
variable {X : Cx} {CX : CXT} {x : Str} {C fI : Addr} {k : Nat} {fd : FuncData} {ps : List Str} {sp : Sp} {e : Expr} {es : List Expr} {ta : TA} {p pos : Pos}
end
/-! ### in the suite -/
section
variable {X : Cx} {a : Addr} {cls : Value} {d : Option Addr} {oe : Obj} {pn : List (Addr × Obj)}
/-- isinstance(e, c), e the error that the suite holds, of the class D -/
def rIsX (K : PySem.W.Frag) (cls : Value) (d : Option Addr) (a : Addr) : List V → Hp → VK → Prop := fun xs H Q =>
  ∃ (D : Addr) (c : V) (cv : Value) (b : Bool), cls = .ref D ∧ XC K D ∧ (d = none ∨ ∃ dd fs, d = some dd ∧ H dd = some (.xd fs)) ∧
    xs = [.ref a, c] ∧ (∀ u, RelV c u → u = cv) ∧ PySem.W.kitOne K (.ref D) cv = some b ∧ Q (.bl b) H
/-- e.f -/
def tXg (K : PySem.W.Frag) (a : Addr) (cls : Value) (d : Option Addr) (f : Str) (te : TE) : TE := fun σ H Q => te σ H fun x H1 =>
  x = .ref a ∧ ∃ (C dd : Addr) (fs : List (Str × V)) (v : V), cls = .ref C ∧ XC K C ∧ PySem.W.findIn K (.ref C) f = some none ∧
    d = some dd ∧ H1 dd = some (.xd fs) ∧ fs.lookup f = some v ∧ Q v H1
end
/-! ### defs called while an error is handled, no repr under way -/
structure FnGH (P : Program) (w : World) (K : PySem.W.Frag) (mg : Str → Option Value) (base : Heap) (CX : CXT) (k : Nat) (f : Addr) (fd : FuncData) (ps : List Str) (sp : Sp) : Prop where
  same : ∀ vs H Q E, sp vs H Q E → vs.length = ps.length
  go : ∀ (A : Around) (outer : List Env) (s : Shared) (H : Hp) (args : Args) (us : List Value) (vs : List V) (Q : VK) (E : XK) (p : Addr × Obj), A.guards = some [] → L2H.RoomH k A → L2H.Hot1 A p →
    L2H.PinOk outer H s p → Env0 P w K mg base A outer s H → BindsTo s fd args (ps.zip us) → Vals vs us → sp vs H Q E → codeAny (model P w) A (.call (.ref f) args) (CR CX outer P w H s Q E) s
section
variable {P : Program} {w : World} {K : PySem.W.Frag} {mg : Str → Option Value} {base : Heap} {CX : CXT} {k : Nat} {f : Addr} {fd : FuncData} {ps N : List Str} {sp : Sp} {x qual : Str} {st : Stmt}
theorem FnGH.up {j : Nat} (F : FnGH P w K mg base CX j f fd ps sp) (h : j ≤ k) : FnGH P w K mg base CX k f fd ps sp :=
  ⟨F.same, fun A outer s H args us vs Q E p hg hr => F.go A outer s H args us vs Q E p hg (hr.mono h)⟩
end
section
variable {X : Cx} {CX : CXT} {k : Nat} {f : Addr} {fd : FuncData} {ps : List Str} {sp : Sp} {E : XK} {x : Str} {p pos : Pos} {e : Expr} {es : List Expr} {t : TA}
end
end Er

set_option Elab.async false
set_option maxRecDepth 100000
set_option maxHeartbeats 2000000
set_option linter.all false
/-! errors of the program: what the readings ask -/
namespace Er
open PySem PySem.Spec PyProof.Rows L2 Sx
section
variable {P : Program} {w : World} {K : PySem.W.Frag} {mg : Str → Option Value} {base : Heap}
end
theorem _root_.Sx.NB.xd {fs : List (Str × V)} : NB (.xd fs) := fun _ _ _ _ h => nomatch h
section
variable {K : PySem.W.Frag} {σ : L2.St} {H H1 H2 : Hp} {Q : VK} {E : XK} {C a p : Addr} {f : Str} {v y z : V} {D : Ends} {W Wout : WX} {te : TE} {cls : Value} {d : Option Addr}
/-- what an error's __init__ of one field does -/
def sp_init (C : Addr) (f : Str) : Sp := fun vs H Q _ => ∃ (a : Addr) (y : V), vs = [.ref a, y] ∧ H a = some (exo a C none) ∧
  ∀ dx, H dx = none → dx ≠ a → Q .non (upd (upd H dx (exd dx [(f, y)])) a (exo a C (some dx)))
def MkK (C : Addr) (sp : Sp) (vs : List V) (H1 : Hp) (Q : XK) : Prop := vs.length ≤ 1000 ∧ ∀ a, H1 a = none → sp (.ref a :: (vs ++ [])) (upd H1 a (exo a C none))
  (fun v H2 => v = .non ∧ ∃ (d : Addr) (fs : List (Str × V)), H2 a = some (exo a C (some d)) ∧ H2 d = some (exd d fs) ∧ H1 d = none ∧ Q (.ref C) (some d) (upd (del H2 a) d (.xd fs))) (fun _ _ _ => False)
/-! while -/
def GoOn (Pv : L2.St → Hp → Prop) (μ : L2.St → Hp → Nat) (m : Nat) (tb : TS) (D : Ends) (σ : L2.St) (H : Hp) : Prop :=
  ∃ N : L2.St → Hp → Prop, (∀ σ' H', N σ' H' → ∃ m', m' < m ∧ (m' = μ σ' H' ∧ Pv σ' H')) ∧ tb { D with nx := N, ct := N, bk := D.nx } σ H
end
/-! three names at once, lists turned about, dicts asked -/
section
variable {K : PySem.W.Frag} {σ : L2.St} {H H1 H2 : Hp} {Q : VK} {a p : Addr} {u v w z : V} {D : Ends} {te : TE}
theorem x_par3 {i j l : Nat} {ta : TA} (k : ta σ H fun vs H1 => ∃ u v w, vs = [u, v, w] ∧ D.nx (((σ.set i (some u)).set j (some v)).set l (some w)) H1) : tPar3 i j l ta D σ H := k
theorem x_ex_3 {R : V → V → V → Prop} (k : R u v w) : ∃ a b c, [u, v, w] = [a, b, c] ∧ R a b c := ⟨u, v, w, rfl, k⟩
def RevL (K : PySem.W.Frag) (x : V) (H1 : Hp) (Q : VK) : Prop := ∃ a xs, x = .ref a ∧ SqL K H1 a xs ∧ ∀ p, H1 p = none → Q (.ref p) (upd H1 p (.lst xs.reverse))
theorem x_revL0 (k : te σ H fun x H1 => RevL K x H1 Q) : tRevL K te σ H Q := k
theorem x_revL {xs : List V} (h : H a = some (.lst xs)) (k : JustNew (.lst xs.reverse) H Q) : RevL K (.ref a) H Q := ⟨a, xs, rfl, SqL.of h, k⟩
def DGo (y z : V) (a : Addr) (H3 : Hp) (Q : VK) : Prop := ∃ o, DGet H3 a y o ∧ Q (o.getD z) H3
def DIs (x : V) (H1 : Hp) (R : Addr → Prop) : Prop := ∃ a, x = .ref a ∧ IsD H1 a ∧ R a
theorem x_dget2 {td ty tx : TE} (k : td σ H fun x H1 => DIs x H1 fun a => ty σ H1 fun y H2 => tx σ H2 fun z H3 => DGo y z a H3 Q) : tDGet2 td ty tx σ H Q := k
theorem x_dis {kvs : List (Key × V)} {R : Addr → Prop} (h : H a = some (.dK kvs)) (k : R a) : DIs (.ref a) H R := ⟨a, rfl, .inl ⟨kvs, .inl h⟩, k⟩
theorem x_dgo {kvs : List (Key × V)} {s : Str} (h : H a = some (.dK kvs)) (e : (valV kvs (Sum.inr s)).getD z = w) (k : Q w H) : DGo (.str s) z a H Q := ⟨_, .inl ⟨kvs, .inr s, .inl h, rfl, rfl⟩, by rw [e]; exact k⟩
end
/-! a loop over a list that is known, turn by turn; append -/
section
variable {K : PySem.W.Frag} {σ : L2.St} {H H1 H2 : Hp} {Q : VK} {a l p : Addr} {u v w z : V} {D : Ends}
def Unr (a : Addr) (xs : List V) (j : Nat) (tb : TS) (D : Ends) : List V → L2.St → Hp → Prop
  | [], σ, H => D.nx σ H
  | v :: vs, σ, H => tb { D with nx := fun σ' H' => H' a = some (.lst xs) ∧ Unr a xs j tb D vs σ' H', ct := fun σ' H' => H' a = some (.lst xs) ∧ Unr a xs j tb D vs σ' H', bk := D.nx } (σ.set j (some v)) H
theorem x_append {xs : List V} (h : H l = some (.lst xs)) (n : xs.length < sizeLine) (k : Q .non (upd H l (.lst (xs ++ [v])))) : L2.rAppend (.ref l) [v] H Q := ⟨l, xs, v, rfl, rfl, h, n, k⟩
end
/-! == of any two of the kinds below, repr of these -/
section
variable {X : Cx}
def rEqAny (K : PySem.W.Frag) : R2 := fun x y H Q => rEq x y H Q ∨ rEqD K x y H Q ∨
  ∃ a b kvs, x = .ref a ∧ y = .ref b ∧ H a = some (.dK kvs) ∧ H b = some (.dK kvs) ∧ (kvs.map (·.1)).Nodup ∧ (∀ p ∈ kvs, flatB p.2 = true) ∧ Q (.bl true) H
theorem op_eqAny (hu : X.A.units + 64 < cLine) : OpR X (compareOp .Eq) (rEqAny X.K) := by
  intro pins s σ H x y v u Q I rx ry h
  rcases h with h | h | h
  · exact op_eq pins s σ H x y v u Q I rx ry h
  · exact op_eqD hu pins s σ H x y v u Q I rx ry h
  · exact op_eq_dict (by omega) pins s σ H x y v u Q I rx ry h
end
end Er

set_option Elab.async false
set_option maxRecDepth 100000
set_option maxHeartbeats 2000000
set_option linter.all false
/-! two that are alike: == says so, and repr shows the same -/
namespace Er
open PySem PySem.Spec PyProof.Rows L2 Sx
/-! repr, of a dict of one text and one int too -/
def rReprY (K : PySem.W.Frag) : List V → Hp → VK → Prop := fun xs H Q => Rv.rReprX K xs H Q ∨ ∃ (a : Addr) (z : Str) (i : Int), xs = [.ref a] ∧ H a = some (.dK [(Sum.inr z, .int i)]) ∧ i.natAbs.log2 < 1920 ∧
  (PyData.dict [(.str z, .int i)]).shown.length ≤ 1000 ∧ Q (.str (PyData.dict [(.str z, .int i)]).shown) H
theorem call_reprY {X : Cx} (hG : X.A.guards = some []) (hu : X.A.units + 64 < cLine) : CallR X (.builtin "repr") (rReprY X.K) := by
  intro pins s σ H xs us Q I r h
  rcases h with h | ⟨a, z, i, rfl, ha, hi, hl, q⟩
  · exact Rv.call_reprX hG hu pins s σ H xs us Q I r h
  · obtain ⟨u, rfl, ru⟩ := vals1 r
    cases ru
    have ok : ObjOk X.prog X.w H s.heap a (.dK [(Sum.inr z, .int i)]) := I.hok a _ ha
    obtain ⟨_, away, vs, kv, o, es, ep, at0, ex, dat, _, prs, _⟩ := ok
    have one : ∃ (e : DictEntry) (t t' : Tok), es.toList = [e] ∧ e.key = .str z t ∧ e.val = .int i t' := by
      generalize es.toList = l at prs
      cases kv with
      | @cons p q ps qs h1 h2 =>
        cases h2
        obtain ⟨h3, h4⟩ := h1
        obtain ⟨q1, q2⟩ := q
        dsimp only at h3 h4
        subst h3
        obtain ⟨t', rfl⟩ := h4
        cases prs with
        | @cons e kv2 es2 kvs2 hk hv hr =>
          cases hr
          have hk' : keyIs (Sum.inr z) e.key = true := hk
          rcases keyIs_shape hk' with ⟨j, t, e1, e2⟩ | ⟨x, t, e1, e2⟩
          · cases e1
          · injection e1 with e3
            subst e3
            exact ⟨e, t, t', rfl, e2, hv⟩
    obtain ⟨e, t, t', e1, e2, e3⟩ := one
    have rd : Reads s.heap (.ref a) (.dict [(.str z, .int i)]) (a :: ([] ++ []) ++ ([] ++ [])) := by
      refine .dict (kvs := [(.str z, .int i)]) at0 ex.1 dat ?_ ?_
      · rw [e1]
        show ReadsAll _ [e.key] [.str z] _
        rw [e2]
        exact .cons (.str z t) .nil
      · rw [e1]
        show ReadsAll _ [e.val] [.int i] _
        rw [e3]
        exact .cons (.int i t') .nil
    refine PySem.repr_of_reads' rd ?_ (fun _ m => ?_) hG ?_ (fun b o e => e) (fun h' u tk keep => ⟨.str _, H, I.kept keep, ⟨_, rfl⟩, q⟩) ?_
    · simp [PyData.showable, PyData.showableKv, hi]
    · rcases List.mem_singleton.mp (by simpa using m) with e
      rw [← e] at away
      simp at away
    · show X.A.units + (PyData.depth (.dict [(.str z, .int i)]) + 1) < cLine
      have : PyData.depth (.dict [(.str z, .int i)]) ≤ 2 := by simp [PyData.depth, PyData.depthKv]
      omega
    · exact Nat.le_trans hl (by decide)
structure Alike (K : PySem.W.Frag) (H : Hp) (v w : V) : Prop where
  eq : ∀ H1 Q, Ex H H1 → Q (.bl true) H1 → rEqAny K v w H1 Q
  rp : ∃ z, (∀ H1 Q, Ex H H1 → Q (.str z) H1 → rReprY K [v] H1 Q) ∧ ∀ H1 Q, Ex H H1 → Q (.str z) H1 → rReprY K [w] H1 Q
section
variable {K : PySem.W.Frag} {H H1 : Hp} {v w : V}
theorem Alike.mono (h : Alike K H v w) (e : Ex H H1) : Alike K H1 v w := by
  obtain ⟨a, z, b, c⟩ := h
  exact ⟨fun H2 Q f => a H2 Q (e.trans f), z, fun H2 Q f => b H2 Q (e.trans f), fun H2 Q f => c H2 Q (e.trans f)⟩
theorem shows {d : PyData} {b e : Nat} (h : DN H d v) (s : Sml b e d) (hb : b ≤ 100000) (he : e ≤ 40) : ∀ H1 Q, Ex H H1 → Q (.str d.shown) H1 → rReprY K [v] H1 Q :=
  fun H1 Q f q => .inl (.inl ⟨v, d, rfl, DN.dp _ _ (DN.mono f _ _ h), s.shw hb he, q⟩)
theorem Alike.of {d : PyData} {b e : Nat} (h1 : DN H d v) (h2 : DN H d w) (s : Sml b e d) (hb : b ≤ 100000) (he : e ≤ 40) : Alike K H v w := by
  refine ⟨?_, d.shown, shows h1 s hb he, shows h2 s hb he⟩
  intro H1 Q f q
  have g1 := DN.mono f _ _ h1
  have g2 := DN.mono f _ _ h2
  have er := SeqAt.eqv_refl d s.lay
  have sh : SeqAt.shaped d = true := by unfold SeqAt.shaped; rw [s.lay]; have := s.deep; simp; omega
  have deep : rEqAny K v w H1 Q := .inr (.inl ⟨d, d, DN.dp _ _ g1, DN.dp _ _ g2, sh, sh, by rw [er]; exact q⟩)
  exact deep
end
section
variable {K : PySem.W.Frag} {H H1 : Hp} {v w : V} {a : Addr}
theorem dnInt {i : Int} : DN H (.int i) (.int i) := by rw [DN]
theorem dnBl {b : Bool} : DN H (.bool b) (.bl b) := by rw [DN]
theorem dnNon : DN H .none .non := by rw [DN]
theorem dnStr {z : Str} : DN H (.str z) (.str z) := by rw [DN]
theorem dnTup {xs : List V} {ds : List PyData} (h : H a = some (.tup xs)) (d : DNs H ds xs) : DN H (.tuple ds) (.ref a) := by rw [DN]; exact ⟨a, xs, rfl, h, d⟩
theorem dnNil : DNs H [] [] := by rw [DNs]
theorem dnCons {d : PyData} {ds : List PyData} {x : V} {xs : List V} (h : DN H d x) (r : DNs H ds xs) : DNs H (d :: ds) (x :: xs) := by rw [DNs]; exact ⟨x, xs, rfl, h, r⟩
/-- a thing that is alike itself -/
structure Both (K : PySem.W.Frag) (H : Hp) (v : V) : Prop where
  t : Thing K H v
  al : Alike K H v v
theorem Both.mono (h : Both K H v) (e : Ex H H1) : Both K H1 v := ⟨h.t.mono e, h.al.mono e⟩
theorem Both.of {d : PyData} {b e : Nat} (t : Thing K H v) (h : DN H d v) (s : Sml b e d) (hb : b ≤ 100000 := by decide) (he : e ≤ 40 := by decide) : Both K H v := ⟨t, .of h h s hb he⟩
theorem Both.int {i : Int} (h : i.natAbs < 10 ^ 59) : Both K H (.int i) := .of (.int i) dnInt (Sml.int h)
theorem Both.bl {b : Bool} : Both K H (.bl b) := .of (.bl b) dnBl Sml.bool
theorem Both.non : Both K H .non := .of .non dnNon Sml.none
theorem Both.str {z : Str} {n : Nat} (ok : PyData.strOk z = true) (h : (z.cps.toList.all fun c => decide (c < 16 ^ 8)) = true) (hn : z.cps.size ≤ n) (hb : n ≤ 100000) : Both K H (.str z) := .of (.str z) dnStr (Sml.str ok h hn) hb
theorem AllB.nil : ∀ v ∈ ([] : List V), Both K H v := fun _ h => nomatch h
theorem AllB.cons {v : V} {xs : List V} (t : Both K H v) (r : ∀ v ∈ xs, Both K H v) : ∀ u ∈ v :: xs, Both K H u := by
  intro u h
  rcases List.mem_cons.mp h with e | h
  · rw [e]; exact t
  · exact r u h
end
/-- text * int, the text told -/
def rMulS2 : R2 := fun x y H Q => ∃ (z : Str) (i : Int), x = .str z ∧ y = .int i ∧ z.length ≤ 16 ∧ 0 ≤ i ∧ i ≤ 1048576 ∧ Q (.str (Txt.mul z i)) H
theorem x_mulS2 {z : Str} {i : Int} {H : Hp} {Q : VK} (h : z.length ≤ 16) (h0 : 0 ≤ i) (h1 : i ≤ 1048576) (k : Q (.str (Txt.mul z i)) H) : rMulS2 (.str z) (.int i) H Q := ⟨z, i, rfl, rfl, h, h0, h1, k⟩
theorem x_callSS {sp : Sp} {σ : L2.St} {H : Hp} {Q : VK} {E : L2.St → XK} {t : TA} (k : t σ H fun vs H1 => sp vs H1 Q (E σ)) : tCallS sp E t σ H Q := k
end Er

set_option Elab.async false
set_option maxRecDepth 100000
set_option maxHeartbeats 2000000
set_option linter.all false
/-! flat items: ints, truths, None, short texts -/
namespace Er
open PySem PySem.Spec PyProof.Rows L2 Sx
def strB (z : Str) : Bool := PyData.strOk z && ((z.cps.toList.all fun c => decide (c < 16 ^ 8)) && decide (z.cps.size ≤ 10))
def okF : V → Prop
  | .int i => i.natAbs < 10 ^ 59
  | .bl _ => True
  | .non => True
  | .str z => strB z = true
  | _ => False
def toD : V → PyData
  | .int i => .int i
  | .bl b => .bool b
  | .str z => .str z
  | _ => .none
theorem All.nil {α : Type} {p : α → Prop} : ∀ x ∈ ([] : List α), p x := fun _ h => nomatch h
theorem All.cons {α : Type} {p : α → Prop} {x : α} {xs : List α} (h : p x) (r : ∀ y ∈ xs, p y) : ∀ y ∈ x :: xs, p y := by
  intro y m
  rcases List.mem_cons.mp m with e | m
  · rw [e]; exact h
  · exact r y m
section
variable {K : PySem.W.Frag} {H H1 : Hp} {v : V} {p : Addr} {xs : List V}
theorem okF.dn (h : okF v) : DN H (toD v) v := by
  cases v with
  | int i => exact dnInt
  | bl b => exact dnBl
  | non => exact dnNon
  | str z => exact dnStr
  | _ => exact h.elim
theorem okF.sml (h : okF v) : Sml 10 0 (toD v) := by
  cases v with
  | int i => exact (Sml.int h).up (by decide) (by decide)
  | bl b => exact Sml.bool.up (by decide) (by decide)
  | non => exact Sml.none.up (by decide) (by decide)
  | str z =>
    have h : strB z = true := h
    unfold strB at h
    rw [Bool.and_eq_true, Bool.and_eq_true] at h
    exact Sml.str h.1 h.2.1 (of_decide_eq_true h.2.2)
  | _ => exact h.elim
theorem okF.th (h : okF v) : Thing K H v := by
  cases v with
  | int i => exact .int i
  | bl b => exact .bl b
  | non => exact .non
  | str z => exact .str z
  | _ => exact h.elim
theorem okF.both (h : okF v) : Both K H v := .of h.th h.dn h.sml
theorem dns_map : ∀ {xs : List V}, (∀ x ∈ xs, okF x) → DNs H (xs.map toD) xs
  | [], _ => dnNil
  | x :: xs, h => dnCons (h x (by simp)).dn (dns_map fun y m => h y (by simp [m]))
theorem sml_map (h : ∀ x ∈ xs, okF x) : ∀ d ∈ xs.map toD, Sml 10 0 d := by
  intro d m
  obtain ⟨x, hx, rfl⟩ := List.mem_map.mp m
  exact (h x hx).sml
end
end Er

set_option Elab.async false
set_option linter.all false
set_option maxRecDepth 100000
set_option maxHeartbeats 2000000
namespace Ow
open PySem PySem.Spec PyProof.Rows L2 ItX

/-! ### t[a:b].index(i), the slice two ints -/
def twO (f g : Int) (t u : Tok) (n : Nat) : Obj := { cls := .type "tuple", data := .seq #[.int f t, .int g u] n }
def TwE (p : Addr) (f g : Int) : HO := .ext fun h => ∃ (t u : Tok) (n : Nat), h.get? p = some (twO f g t u n)
def rSlTE (K : PySem.W.Frag) : V → Option Int → Option Int → Hp → VK → Prop := fun x lo hi H Q => ∃ (a : Addr) (xs : List V) (f g : Int), x = .ref a ∧ SqT K H a xs ∧
  ¬ (HT.sIx xs.length 0 lo = 0 ∧ HT.sIx xs.length xs.length hi = xs.length) ∧ cutV xs lo hi = [.int f, .int g] ∧ ∀ p, H p = none → Q (.ref p) (upd H p (TwE p f g))
def tyE : V → Hp → Prop := fun x H => ∃ (p : Addr) (f g : Int), x = .ref p ∧ H p = some (TwE p f g)
def rIndexE : V → List V → Hp → VK → Prop := fun x xs H Q => ∃ (p : Addr) (f g i : Int), x = .ref p ∧ xs = [.int i] ∧ H p = some (TwE p f g) ∧ (i = f → Q (.int 0) H) ∧ (i ≠ f → i = g ∧ Q (.int 1) H)
end Ow

set_option Elab.async false
set_option linter.all false
set_option maxRecDepth 100000
set_option maxHeartbeats 2000000
namespace Ow
open PySem PySem.Spec PyProof.Rows L2 ItX
/-! ### == by an own __eq__, with both answers -/
/-- what stands on the other side: of the class itself, or of a class that is no child of it -/
def Oth (X : Cx) (C : Addr) (y : V) (H : Hp) : Prop := ∀ (pins : List (Addr × Obj)) (σ : L2.St) (s : Shared) (v : Value), L2.Inv X pins σ H s → RelV y v → ∃ tb, W.Looks (model X.prog X.w) s.heap (typeOf v) tb ∧ W.notFirst X.K C tb = true
def rEqC (X : Cx) (C : Addr) (sp : Sp) (E : XK) : R2 := fun x y H Q => ∃ (a dx : Addr) (fs : List (Str × V)), x = .ref a ∧ H a = some (.ins C dx fs) ∧ Oth X C y H ∧ sp [x, y] H (fun v H' => (∃ b, v = .bl b) ∧ Q v H') E
end Ow

set_option Elab.async false
set_option linter.all false
set_option maxRecDepth 100000
set_option maxHeartbeats 2000000
namespace Ow
open PySem PySem.Spec PyProof.Rows L2 ItX
def rNeC (X : Cx) (C : Addr) (sp : Sp) (E : XK) : R2 := fun x y H Q => ∃ (a dx : Addr) (fs : List (Str × V)), x = .ref a ∧ H a = some (.ins C dx fs) ∧ Oth X C y H ∧ sp [x, y] H (fun v H' => ∃ b, v = .bl b ∧ Q (.bl (!b)) H') E
end Ow

set_option Elab.async false
set_option linter.all false
set_option maxRecDepth 100000
set_option maxHeartbeats 2000000
namespace Ow
open PySem PySem.Spec PyProof.Rows L2 ItX
/-! ### len(o) by an own __len__ -/
def rLenC (X : Cx) (C : Addr) (sp : Sp) (E : XK) : List V → Hp → VK → Prop := fun xs H Q => ∃ (a dx : Addr) (fs : List (Str × V)), xs = [.ref a] ∧ H a = some (.ins C dx fs) ∧ sp [.ref a] H (fun v H' => ∃ n : Int, v = .int n ∧ 0 ≤ n ∧ n < 2 ^ 63 ∧ Q (.int n) H') E
end Ow

set_option Elab.async false
set_option linter.all false
set_option maxRecDepth 100000
set_option maxHeartbeats 2000000
namespace Ow
open PySem PySem.Spec PyProof.Rows L2 ItX
/-! ### list(o), o of a class whose __iter__ hands a tuple's iterator out and that has a __len__ -/
def rListC (X : Cx) (C : Addr) (fld : Str) (spL : Sp) : List V → Hp → VK → Prop := fun xs H Q => ∃ (a dx : Addr) (fs : List (Str × V)) (l : Addr) (zs : List V), xs = [.ref a] ∧ H a = some (.ins C dx fs) ∧ fs.lookup fld = some (.ref l) ∧ SqT X.K H l zs ∧
  (∀ H1, H1 a = some (.ins C dx fs) → SqT X.K H1 l zs → spL [.ref a] H1 (fun v H' => v = .int zs.length ∧ H' = H1) fun _ _ _ => False) ∧ ∀ p, H p = none → Q (.ref p) (upd H p (.lst zs))
end Ow

set_option Elab.async false
set_option linter.all false
set_option maxRecDepth 100000
set_option maxHeartbeats 2000000
namespace Ow
open PySem PySem.Spec PyProof.Rows L2 ItX Sx
/-! ### own classes: what the readings ask -/
/-- facts of an own class that stands beside built-in things -/
structure ClsX (K : W.Frag) (C : Addr) : Prop where
  t : ClsT K C
  kO : W.kitOne K (.ref C) (.ref C) = some true
  kI : W.kitOne K (.type "int") (.ref C) = some false
  kL : W.kitOne K (.type "list") (.ref C) = some false
  kT : W.kitOne K (.type "tuple") (.ref C) = some false
  ne : W.findIn K (.ref C) "__ne__" = some (some (.builtin "object.__ne__"))
  nI : W.notFirst K C (.type "int") = true
  nL : W.notFirst K C (.type "list") = true
  nT : W.notFirst K C (.type "tuple") = true
section
variable {K : W.Frag} {H H1 : Hp} {Q : VK} {p a l C dx : Addr} {fs : List (Str × V)} {xs : List V} {σ : L2.St} {te : TE}
/-! the other side of == -/
/-! readings -/
theorem x_lenC {X : Cx} {sp : Sp} {E : XK} (hp : H p = some (.ins C dx fs)) (k : sp [.ref p] H (fun v H' => ∃ n : Int, v = .int n ∧ 0 ≤ n ∧ n < 2 ^ 63 ∧ Q (.int n) H') E) : rLenC X C sp E [.ref p] H Q := ⟨p, dx, fs, rfl, hp, k⟩
theorem x_listC {X : Cx} {spL : Sp} {fld : Str} (hp : H p = some (.ins C dx fs)) (hf : fs.lookup fld = some (.ref l)) (hz : SqT X.K H l xs) (hl : ∀ H1, H1 p = some (.ins C dx fs) → SqT X.K H1 l xs → spL [.ref p] H1 (fun v H' => v = .int xs.length ∧ H' = H1) fun _ _ _ => False)
    (k : ∀ q H1, Ex H H1 → H q = none → H1 q = some (.lst xs) → Q (.ref q) H1) : rListC X C fld spL [.ref p] H Q := ⟨p, dx, fs, l, xs, rfl, hp, hf, hz, hl, fun q hq => k q _ (Ex.new hq) hq upd_same⟩
/-- o.m(..), behind the reading of o -/
def MethK (C : Addr) (m : Str) (sp : Sp) (E : XK) (t : TA) (σ : L2.St) (x : V) (H : Hp) (Q : VK) : Prop := ∃ a dx fs, x = .ref a ∧ H a = some (.ins C dx fs) ∧ fs.lookup m = none ∧ t σ H fun vs H2 => sp (x :: vs) H2 Q E
theorem x_meth {m : Str} {sp : Sp} {E : XK} {t : TA} (k : te σ H fun x H1 => MethK C m sp E t σ x H1 Q) : tMeth C m sp [] E te t σ H Q := by
  show te σ H fun x H1 => ∃ a dx fs, x = .ref a ∧ H1 a = some (.ins C dx fs) ∧ fs.lookup m = none ∧ t σ H1 fun vs H2 => sp (x :: (vs ++ [])) H2 Q E
  have e : (fun (x : V) (H1 : Hp) => ∃ a dx fs, x = .ref a ∧ H1 a = some (.ins C dx fs) ∧ fs.lookup m = none ∧ t σ H1 fun vs H2 => sp (x :: (vs ++ [])) H2 Q E) = fun x H1 => MethK C m sp E t σ x H1 Q := by
    funext x H1
    unfold MethK
    simp only [List.append_nil]
  rw [e]
  exact k
def PropK (C : Addr) (sp : Sp) (E : XK) (x : V) (H : Hp) (Q : VK) : Prop := ∃ a dx fs, x = .ref a ∧ H a = some (.ins C dx fs) ∧ sp [.ref a] H Q E
theorem x_prop {sp : Sp} {E : XK} (k : te σ H fun x H1 => PropK C sp E x H1 Q) : tProp C sp [] E te σ H Q := k
/-- o for the iterator of its field, behind the reading of o -/
def IOwnK (K : W.Frag) (C : Addr) (fld : Str) (x : V) (H1 : Hp) (R : It → Hp → Prop) : Prop := ∃ (a dx : Addr) (fs : List (Str × V)) (l : Addr) (zs : List V), x = .ref a ∧ H1 a = some (.ins C dx fs) ∧ fs.lookup fld = some (.ref l) ∧ SqT K H1 l zs ∧ R (Itt K l) H1
theorem x_iOwn {fld : Str} {R : It → Hp → Prop} (k : te σ H fun x H1 => IOwnK K C fld x H1 R) : iOwnT K C fld te σ H R := k
theorem x_bm0 {T : String} {r : V → List V → Hp → VK → Prop} (k : te σ H fun x H1 => tyV K T x H1 ∧ r x [] H1 Q) : tBM0 K T r te σ H Q := k
theorem NB.ext {φ : Heap → Prop} : NB (.ext φ) := fun _ _ _ _ h => nomatch h
end
/-! a comprehension over a tuple, a loop over one (the iterator of one) -/
section
variable {H H1 : Hp} {K : W.Frag} {σ : L2.St} {Q : VK} {D : Ends} {t : TT} {te : TE} {a : Addr}
/-- the iterable, a tuple that stands -/
def TK (K : W.Frag) (x : V) (H1 : Hp) (R : It → Hp → Prop) : Prop := ∃ a, x = .ref a ∧ (∃ xs, SqT K H1 a xs) ∧ R (Itt K a) H1
end
/-! within a comprehension: the rules whose readings name K -/
section
variable {X : Cx} {sB : Shared} {HB : Hp} {scope : Scope} {cenv : Env} {fp : List Addr}
theorem sl_listB : SlR (X.blk sB HB scope cenv fp) (rSlL X.K) := sl_list (X := X.blk sB HB scope cenv fp)
end
end Ow

set_option Elab.async false
set_option linter.all false
set_option maxRecDepth 100000
set_option maxHeartbeats 2000000
namespace Ow
open PySem PySem.Spec PyProof.Rows L2 ItX Sx
/-! slices of lists by whole numbers -/
theorem cut_take {xs : List V} {i : Nat} : cutV xs none (some (i : Int)) = xs.take i := by
  unfold cutV
  rw [HT.sIx_nat, HT.sIx_none, List.drop_zero, Nat.sub_zero]
  by_cases h : i ≤ xs.length
  · rw [Nat.min_eq_left h]
  · rw [Nat.min_eq_right (by omega), List.take_of_length_le (Nat.le_refl _), List.take_of_length_le (by omega)]
theorem cut_drop {xs : List V} {i : Nat} : cutV xs (some (i : Int)) none = xs.drop i := by
  unfold cutV
  rw [HT.sIx_nat, HT.sIx_none]
  by_cases h : i ≤ xs.length
  · rw [Nat.min_eq_left h, List.take_of_length_le (by rw [List.length_drop]; exact Nat.le_refl _)]
  · rw [Nat.min_eq_right (by omega), List.drop_eq_nil_of_le (by omega), List.drop_eq_nil_of_le (by omega), List.take_nil]
theorem cut_drop_one {xs : List V} : cutV xs (some 1) none = xs.drop 1 := cut_drop (i := 1)
theorem cut_take_one {xs : List V} : cutV xs none (some 1) = xs.take 1 := cut_take (i := 1)
/-! lists of addresses alone -/
def Refs (xs : List V) : Prop := ∀ v ∈ xs, ∃ a, v = V.ref a
theorem Refs.nil : Refs [] := fun _ h => nomatch h
theorem Refs.cons {a : Addr} {xs : List V} (h : Refs xs) : Refs (.ref a :: xs) := fun v hv => (List.mem_cons.mp hv).elim (fun e => ⟨a, e⟩) (h v)
theorem Refs.app {xs ys : List V} (h : Refs xs) (h2 : Refs ys) : Refs (xs ++ ys) := fun v hv => (List.mem_append.mp hv).elim (h v) (h2 v)
theorem Refs.cut {xs : List V} {lo hi : Option Int} (h : Refs xs) : Refs (cutV xs lo hi) := fun v hv => h v (by unfold cutV at hv; exact List.mem_of_mem_drop (List.mem_of_mem_take hv))
theorem Refs.rev {xs : List V} (h : Refs xs) : Refs xs.reverse := fun v hv => h v (List.mem_reverse.mp hv)
theorem Refs.drop {xs : List V} {n : Nat} (h : Refs xs) : Refs (xs.drop n) := fun v hv => h v (List.mem_of_mem_drop hv)
theorem Refs.take {xs : List V} {n : Nat} (h : Refs xs) : Refs (xs.take n) := fun v hv => h v (List.mem_of_mem_take hv)
theorem Refs.nb {xs : List V} (h : Refs xs) : NB (.lst xs) := NB.refs h
section
variable {K : W.Frag} {H : Hp} {Q : VK} {a b : Addr} {xs ys : List V}
end
end Ow

set_option Elab.async false
set_option linter.all false
set_option maxRecDepth 100000
set_option maxHeartbeats 2000000
namespace Ow
open PySem PySem.Spec PyProof.Rows L2 ItX Sx
/-! ### tuple * int, all cases -/
def rRepA (K : W.Frag) : R2 := fun x y H Q => ∃ l k xs, x = .ref l ∧ y = .int k ∧ SqT K H l xs ∧ -1000 ≤ k ∧ k ≤ 1000 ∧ xs.length ≤ 1000 ∧ ((xs = [] ∨ k = 1) → Q (.ref l) H) ∧ ((xs ≠ [] ∧ k ≠ 1) → ∀ p, H p = none → Q (.ref p) (upd H p (.tup (List.replicate k.toNat xs).flatten)))
/-! ### o * o of one own class, ~o -/
def rBinC (C : Addr) (sp : Sp) (E : XK) : R2 := fun x y H Q => ∃ (a dx : Addr) (fs : List (Str × V)) (b dy : Addr) (gs : List (Str × V)), x = .ref a ∧ y = .ref b ∧ H a = some (.ins C dx fs) ∧ H b = some (.ins C dy gs) ∧ sp [x, y] H (fun v H' => (∃ r, v = .ref r) ∧ Q v H') E
def rInvC (C : Addr) (sp : Sp) (E : XK) : V → Hp → VK → Prop := fun x H Q => ∃ (a dx : Addr) (fs : List (Str × V)), x = .ref a ∧ H a = some (.ins C dx fs) ∧ sp [x] H Q E
end Ow

set_option Elab.async false
set_option linter.all false
set_option maxRecDepth 100000
set_option maxHeartbeats 2000000
namespace Er
open PySem PySem.Spec PyProof.Rows L2 Sx
/-! ### methods and classes whose call may raise -/
def tMethS (C : Addr) (m : Str) (sp : Sp) (E : L2.St → XK) (ta : TE) (t : TA) : TE := fun σ H Q => ta σ H fun x H1 => ∃ a dx fs, x = .ref a ∧ H1 a = some (.ins C dx fs) ∧ fs.lookup m = none ∧ t σ H1 fun vs H2 => sp (x :: vs) H2 Q (E σ)
def tMakeS (C : Addr) (sp : Sp) (E : L2.St → XK) (t : TA) : TE := fun σ H Q => t σ H fun vs H1 => ∀ x dx, H1 x = none → H1 dx = none → dx ≠ x → sp (.ref x :: vs) (upd (upd H1 dx (.own x)) x (.ins C dx [])) (fun v H2 => v = .non ∧ Q (.ref x) H2) (E σ)
section
variable {X : Cx} {CX : CXT} {k : Nat} {f C : Addr} {fd : FuncData} {ps : List Str} {sp : Sp} {E : L2.St → XK} {x m : Str} {p pos apos : Pos} {e o : Expr} {es : List Expr} {ta : TE} {t : TA}
end
section
variable {H : Hp} {Q : VK} {σ : L2.St} {te : TE} {C : Addr}
def MethKS (C : Addr) (m : Str) (sp : Sp) (E : XK) (t : TA) (σ : L2.St) (x : V) (H : Hp) (Q : VK) : Prop := ∃ a dx fs, x = .ref a ∧ H a = some (.ins C dx fs) ∧ fs.lookup m = none ∧ t σ H fun vs H2 => sp (x :: vs) H2 Q E
theorem x_methS {m : Str} {sp : Sp} {E : L2.St → XK} {t : TA} (k : te σ H fun x H1 => MethKS C m sp (E σ) t σ x H1 Q) : tMethS C m sp E te t σ H Q := k
theorem x_makeS {sp : Sp} {E : L2.St → XK} {t : TA} (k : t σ H fun vs H1 => ∀ x dx, H1 x = none → H1 dx = none → dx ≠ x → sp (.ref x :: vs) (upd (upd H1 dx (.own x)) x (.ins C dx [])) (fun v H2 => v = .non ∧ Q (.ref x) H2) (E σ)) : tMakeS C sp E t σ H Q := k
theorem x_isN {x : V} (k : Q (.bl (decide (x = .non))) H) : (fun (x y : V) (H : Hp) (Q : VK) => y = .non ∧ Q (.bl (decide (x = .non))) H) x .non H Q := ⟨rfl, k⟩
end
end Er

set_option Elab.async false
set_option linter.all false
set_option maxRecDepth 100000
set_option maxHeartbeats 2000000
namespace Ow
open PySem PySem.Spec PyProof.Rows L2 ItX Sx RT
section
variable {K : W.Frag} {H H1 : Hp} {Q : VK} {a b l C dx : Addr} {xs ys : List V} {σ : L2.St} {te : TE} {t : TT} {fs gs : List (Str × V)}
theorem x_catA (h : H a = some (.tup xs)) (h' : H b = some (.tup ys)) (l : xs.length + ys.length ≤ sizeLine) (k : ∀ p H1, Ex H H1 → H1 p = some (.tup (xs ++ ys)) → Q (.ref p) H1) : rCatA K (.ref a) (.ref b) H Q :=
  ⟨a, b, xs, ys, rfl, rfl, SqT.of h, SqT.of h', l, fun e => k b H (Ex.refl _) (by rw [e, List.nil_append]; exact h'), fun _ e => k a H (Ex.refl _) (by rw [e, List.append_nil]; exact h), fun _ _ p hp => k p _ (Ex.new hp) upd_same⟩
theorem x_slA {lo hi : Option Int} (h : H a = some (.tup xs)) (k : ∀ p H1, Ex H H1 → H1 p = some (.tup (cutV xs lo hi)) → Q (.ref p) H1) : rSlA K (.ref a) lo hi H Q :=
  ⟨a, xs, rfl, SqT.of h, fun e => k a H (Ex.refl _) (by unfold cutV; rw [e.1, e.2, List.drop_zero, Nat.sub_zero, List.take_of_length_le (Nat.le_refl _)]; exact h), fun _ p hp => k p _ (Ex.new hp) upd_same⟩
/-- reversed(a tuple) -/
def RevK (K : W.Frag) (x : V) (H1 : Hp) (R : It → Hp → Prop) : Prop := ∃ (a : Addr) (xs : List V), x = .ref a ∧ ((SqL K H1 a xs ∧ R (Itv K a xs.length) H1) ∨ (SqT K H1 a xs ∧ R (ItvT K a xs.length) H1))
theorem x_iRev {R : It → Hp → Prop} (k : te σ H fun x H1 => RevK K x H1 R) : iRevA K te σ H R := k
end
section
variable {X : Cx} {sB : Shared} {HB : Hp} {scope : Scope} {cenv : Env} {fp : List Addr} {e : Expr} {ta : TE} {f : Str} {pos : Pos}
end
end Ow

set_option Elab.async false
set_option linter.all false
set_option maxRecDepth 100000
set_option maxHeartbeats 2000000
/-! a lambda handed to a def that calls it where an error may come -/
namespace Er
open PySem PySem.Spec PyProof.Rows L2 Sx
section
variable {X : Cx}
/-- the body of a lambda, entered at s: an error E may leave it -/
abbrev lamN (X : Cx) (A : Around) (outer : List Env) (s : Shared) (H : Hp) (E : XK) (scope : Scope) (f c' : Addr) : Cx :=
  (LamX.lamCx X A outer s H E scope f c').wish fun e s' => wpAny (model X.prog X.w) (A.deeper (LamX.lamEnv X scope s.heap.objs.size f c')) (leaving (LamX.lamEnv X scope s.heap.objs.size f c') e)
    (fun _ s'' => L2N.CX X.prog X.w outer H s E e s'') (fun e' s'' => L2N.CX X.prog X.w outer H s E e' s'') s'
/-- what the def that was handed the lambda stands in -/
abbrev hrd (P : Program) (w : World) (K : PySem.W.Frag) (mg : Str → Option Value) (base : Heap) (A : Around) (st : List Env) (N : List Str) (q : Str) (sg : Scope) (g : Addr) (cd : Value) (s : Shared) (H : Hp) : Cx := cxOf C8.CX0 P w K mg base N q sg g cd A st s H C8.E0
/-- a() is the lambda's reading tb; its errors are W's, at the state where it is called -/
def Act (Z : Cx) (a : Str) (f c' : Addr) (q : Str) (tb : XK → Hp → VK → Prop) : Prop :=
  ∀ (W : WX) (pn : List (Addr × Obj)) (xe : Value → Shared → Prop) (p1 p2 : Pos), L2N.Takes (Z.tr pn xe) W →
    PE (Z.tr pn xe) (.Call (.Name a p1) [] [] p2) (fun σZ HZ Q => σZ[0]? = some (some (.ref f)) ∧ HZ c' = some (LamX.CodeO c' q) ∧ tb (fun cls d H' => W cls d σZ H') HZ Q)
/-- the def that calls what it was handed -/
def Hears (P : Program) (w : World) (K : PySem.W.Frag) (mg : Str → Option Value) (base : Heap) (A : Around) (st : List Env) (N : List Str) (x : Str) (sg : Scope) (g : Addr) (cd : Value) (bg : List Stmt) (a : Str) (q : Str) (TT : (XK → Hp → VK → Prop) → Hp → VK → Prop) : Prop :=
  ∀ (f c' : Addr) (s : Shared) (H : Hp) (Q : VK) (tl : XK → Hp → VK → Prop), Act (hrd P w K mg base A st N x sg g cd s H) a f c' q tl → H c' = some (LamX.CodeO c' q) → TT tl H Q →
    ∃ t, PSs (hrd P w K mg base A st N x sg g cd s H).nox bg t ∧ t { nx := fun _ H' => Q .non H', rt := Q } (L2.start N [.ref f]) H
end
end Er

set_option Elab.async false
set_option linter.all false
set_option maxRecDepth 100000
set_option maxHeartbeats 2000000
/-! what stays where lambdas are made: the tables of code objects grow -/
namespace Er
open PySem PySem.Spec PyProof.Rows L2 Sx
/-- all but bags and tables stands as it stood, bags are bags, the tables T are tables -/
structure Ew (T : List (Addr × Str)) (H H' : Hp) : Prop where
  kp : ∀ a o, H a = some o → NB o → (∀ ps, o ≠ .tbl ps) → H' a = some o
  bg : ∀ b c, BagC b c H → BagC b c H'
  tb : LamX.Tabs T H → LamX.Tabs T H'
theorem NB.tbl {ps : Array Value} : NB (.tbl ps) := fun _ _ _ _ h => nomatch h
theorem codeO_nb {c : Addr} {q : Str} : NB (LamX.CodeO c q) := Ow.NB.ext
section
variable {T : List (Addr × Str)} {H H1 H2 : Hp} {p a b c l P : Addr} {q : Str} {o : HO} {xs : List V}
theorem Ex.tabS (e : Ex H H1) (t : LamX.TabS H P q) : LamX.TabS H1 P q := by
  obtain ⟨ps, h1, h2, h3⟩ := t
  refine ⟨ps, e.kp _ _ h1 NB.tbl, h2, fun pos cv hc => ?_⟩
  obtain ⟨c, e1, e2⟩ := h3 pos cv hc
  exact ⟨c, e1, e.kp _ _ e2 codeO_nb⟩
theorem Ew.of (e : Ex H H1) : Ew T H H1 := ⟨fun a o h n _ => e.kp a o h n, e.bg, fun t p hp => Ex.tabS e (t p hp)⟩
theorem Ew.refl : Ew T H H := ⟨fun _ _ h _ _ => h, fun _ _ h => h, fun h => h⟩
theorem Ew.trans (e : Ew T H H1) (f : Ew T H1 H2) : Ew T H H2 := ⟨fun a o h n t => f.kp a o (e.kp a o h n t) n t, fun b c h => f.bg b c (e.bg b c h), fun t => f.tb (e.tb t)⟩
theorem Ew.bag (e : Ew T H H1) (h : Bag b H) : Bag b H1 := let ⟨c, q⟩ := h; ⟨c, e.bg b c q⟩
theorem Ew.tup (e : Ew T H H1) (h : H a = some (.tup xs)) : H1 a = some (.tup xs) := e.kp _ _ h NB.tup (fun _ h => nomatch h)
theorem Ew.lst (e : Ew T H H1) (h : H a = some (.lst xs)) (n : NB (.lst xs)) : H1 a = some (.lst xs) := e.kp _ _ h n (fun _ h => nomatch h)
theorem Ew.ins {C dx : Addr} {fs : List (Str × V)} (e : Ew T H H1) (h : H a = some (.ins C dx fs)) : H1 a = some (.ins C dx fs) := e.kp _ _ h NB.ins (fun _ h => nomatch h)
theorem Ew.dK {kvs : List (Key × V)} (e : Ew T H H1) (h : H a = some (.dK kvs)) : H1 a = some (.dK kvs) := e.kp _ _ h NB.dK (fun _ h => nomatch h)
/-- a list made in between may be changed -/
theorem Ew.mut (e : Ew T H H1) (h : H l = none) (hl : H1 l = some (.lst xs)) : Ew T H (upd H1 l o) := by
  refine ⟨fun a o' q n t => ?_, fun b c q => ?_, fun t p hp => ?_⟩
  · rw [upd_ne (ne_of_none q h)]
    exact e.kp a o' q n t
  · obtain ⟨x0, y0, z0, ns0, k1, k2, _⟩ := id q
    obtain ⟨x, y, z, ns, e1, e2, r⟩ := e.bg b c q
    exact ⟨x, y, z, ns, by rw [upd_ne (ne_of_none k1 h)]; exact e1, by rw [upd_ne (ne_of_none k2 h)]; exact e2, r⟩
  · obtain ⟨ps0, k0, _⟩ := t p hp
    obtain ⟨ps, h1, h2, h3⟩ := e.tb t p hp
    refine ⟨ps, by rw [upd_ne (ne_of_none k0 h)]; exact h1, h2, fun pos cv hc => ?_⟩
    obtain ⟨c, e1, e2⟩ := h3 pos cv hc
    have nl : c ≠ l := by
      intro z
      subst z
      rw [hl] at e2
      exact nomatch (Option.some.inj e2)
    exact ⟨c, e1, by rw [upd_ne nl]; exact e2⟩
variable {TT : (XK → Hp → VK → Prop) → Hp → VK → Prop} {t : XK → TE} {σ : L2.St} {Q : VK}
end
end Er
namespace Er
open PySem PySem.Spec PyProof.Rows L2 Sx
/-! ### how often a truth stands in a list of truths -/
def isB (b : Bool) : Value → Bool
  | .bool c => c == b
  | _ => false
def rCntB (K : PySem.W.Frag) : V → List V → Hp → VK → Prop := fun x xs H Q => ∃ (p : Addr) (bs : List Bool) (b : Bool), x = .ref p ∧ xs = [.bl b] ∧ SqL K H p (bs.map V.bl) ∧ Q (.int (bs.count b : Nat)) H
end Er
namespace Er
open PySem PySem.Spec PyProof.Rows L2 Sx
/-! ### what names K, within the suite of an except -/
section
variable {X : Cx} {z : Addr} {pn : List (Addr × Obj)} {T : String} {name : Str} {id : String} {r : V → List V → Hp → VK → Prop} {o e : Expr} {es : List Expr} {to : TE} {t : TA} {apos cpos : Pos}
end
end Er

set_option Elab.async false
set_option linter.all false
set_option maxRecDepth 100000
set_option maxHeartbeats 2000000
/-! the end of a law that shows data and makes lambdas -/
namespace Er
open PySem PySem.Spec PyProof.Rows L2 Sx Ow
section
variable {P : Program} {w : World} {K : PySem.W.Frag} {mg mb : Str → Option Value} {k : Nat} {fa a : Addr} {fd : FuncData} {x : Str} {sp : Sp} {s : Shared} {vs : List Value} {ns : List Int} {cs : List (Addr × Addr)}
abbrev tab0 : Obj := { cls := .none, data := .fields #[] }
/-- the abstract heap of the tables alone -/
def HT (cs : List (Addr × Addr)) : Hp := fun b => if b ∈ cs.map (·.2) then some (.tbl #[]) else none
theorem HT.at_ {p : Addr × Addr} (h : p ∈ cs) : HT cs p.2 = some (.tbl #[]) := if_pos (List.mem_map.mpr ⟨p, h, rfl⟩)
theorem HT.some {b : Addr} {u : HO} (h : HT cs b = .some u) : (∃ p ∈ cs, p.2 = b) ∧ u = .tbl #[] := by
  unfold HT at h
  split at h
  · next m =>
    obtain ⟨p, hp, e⟩ := List.mem_map.mp m
    exact ⟨⟨p, hp, e⟩, (Option.some.inj h).symm⟩
  · cases h
theorem HT.none {b : Addr} (h : ∀ p ∈ cs, p.2 ≠ b) : HT cs b = .none := if_neg fun m => by
  obtain ⟨p, hp, e⟩ := List.mem_map.mp m
  exact h p hp e
end
end Er

set_option Elab.async false
set_option linter.all false
set_option maxRecDepth 100000
set_option maxHeartbeats 2000000
/-! a def whose code object is known: it makes lambdas -/
namespace Er
open PySem PySem.Spec PyProof.Rows L2 Sx Ow
structure FunC (K : PySem.W.Frag) (x qual : Str) (st : Stmt) (f c : Addr) (fd : FuncData) : Prop where
  ex : ∃ (oc : Value) (od : Option Addr) (kV doc pm : Value) (an : Option Addr) (ct : Value) (osl : Array (Option Value)),
    fd = PySem.W.fnOf x qual (defArgs st) (defBody st) (defScope st) .none kV doc pm an (.ref c) ct ∧ K.lookup f = some ⟨oc, od, .func fd, osl⟩ ∧ PySem.W.codeIn K (.ref c) qual = true
section
variable {P : Program} {w : World} {K : PySem.W.Frag} {mg : Str → Option Value} {base : Heap} {k : Nat} {f c : Addr} {fd : FuncData} {ps N : List Str} {sp : Sp} {x qual : Str} {st : Stmt}
end
end Er

set_option Elab.async false
set_option linter.all false
set_option maxRecDepth 100000
set_option maxHeartbeats 2000000
/-! a dict is no tuple and no list; range(a, b); enumerate; continue; errors of two fields -/
namespace PySem.SeqAt
open AutoSeq1 (wpAny_loadPart')
open MeetsSeq
end PySem.SeqAt
namespace Er
open PySem PySem.Spec PyProof.Rows L2 Sx
section
variable {prog : Program} {w : World} {A : Around} {E : Value → Shared → Prop} {s : Shared} {a b : Addr} {items : Array Value}
end
section
variable {X : Cx}
/-- a dict and a tuple or list are never equal -/
def rEqDf (K : PySem.W.Frag) : R2 := fun x y H Q => ∃ a b kvs, x = .ref a ∧ y = .ref b ∧ H a = some (.dK kvs) ∧ ((∃ xs, SqT K H b xs) ∨ ∃ xs, SqL K H b xs) ∧ Q (.bl false) H
def rEqW (K : PySem.W.Frag) : R2 := fun x y H Q => rEqAny K x y H Q ∨ rEqDf K x y H Q
end
/-! range(a, b), enumerate, continue -/
section
variable {H H' H1 H2 : Hp} {p a b c l : Addr} {o u : HO} {K : PySem.W.Frag} {σ : L2.St} {Q : VK} {v w : V} {D : Ends} {t : TT} {ta tb te : TE}
def R2K (xs : List V) (H1 : Hp) (R : It → Hp → Prop) : Prop := ∃ i j : Int, xs = [.int i, .int j] ∧ (-(2 ^ 62) ≤ i ∧ i < 2 ^ 62 ∧ -(2 ^ 62) ≤ j ∧ j < 2 ^ 62) ∧ R (Itr i (j - i).toNat) H1
theorem x_iR2 {a : TA} {R : It → Hp → Prop} (k : a σ H fun xs H1 => R2K xs H1 R) : iRng2 a σ H R := k
def EnK (K : PySem.W.Frag) (vs : List V) (H1 : Hp) (R : It → Hp → Prop) : Prop := ∃ a xs, vs = [.ref a] ∧ SqL K H1 a xs ∧ R (Ite K a) H1
theorem x_iEn {a : TA} {R : It → Hp → Prop} (k : a σ H fun xs H1 => EnK K xs H1 R) : iEnum K a σ H R := k
theorem x_cont (k : D.ct σ H) : tCont D σ H := k
end
/-! errors of two fields -/
section
variable {K : PySem.W.Frag} {σ : L2.St} {H H1 H2 : Hp} {Q : VK} {E : XK} {C a p : Addr} {f g : Str} {v y z : V} {D : Ends} {te : TE}
def sp_init2 (C : Addr) (f g : Str) : Sp := fun vs H Q _ => ∃ (a : Addr) (y z : V), vs = [.ref a, y, z] ∧ H a = some (exo a C none) ∧
  ∀ dx, H dx = none → dx ≠ a → Q .non (upd (upd H dx (exd dx [(g, z), (f, y)])) a (exo a C (some dx)))
end
/-! is True, is False, of truths -/
def rIsB : R2 := fun x y H Q => ∃ a b, x = .bl a ∧ y = .bl b ∧ Q (.bl (decide (a = b))) H
def rIsNB : R2 := fun x y H Q => ∃ a b, x = .bl a ∧ y = .bl b ∧ Q (.bl (!decide (a = b))) H
theorem x_isB {a b : Bool} {H : Hp} {Q : VK} (k : Q (.bl (decide (a = b))) H) : rIsB (.bl a) (.bl b) H Q := ⟨a, b, rfl, rfl, k⟩
theorem x_isNB {a b : Bool} {H : Hp} {Q : VK} (k : Q (.bl (!decide (a = b))) H) : rIsNB (.bl a) (.bl b) H Q := ⟨a, b, rfl, rfl, k⟩
theorem x_isBt {a b : Bool} {H : Hp} {Q : VK} (h : a = b) (k : Q (.bl true) H) : rIsB (.bl a) (.bl b) H Q := x_isB (by rw [h, decide_eq_true rfl]; exact k)
theorem x_isBf {a b : Bool} {H : Hp} {Q : VK} (h : a = !b) (k : Q (.bl false) H) : rIsB (.bl a) (.bl b) H Q := x_isB (by rw [h, show decide ((!b) = b) = false from by cases b <;> rfl]; exact k)
theorem x_isNBf {a b : Bool} {H : Hp} {Q : VK} (h : a = b) (k : Q (.bl false) H) : rIsNB (.bl a) (.bl b) H Q := x_isNB (by rw [h, decide_eq_true rfl]; exact k)
theorem x_isNBt {a b : Bool} {H : Hp} {Q : VK} (h : a = !b) (k : Q (.bl true) H) : rIsNB (.bl a) (.bl b) H Q := x_isNB (by rw [h, show decide ((!b) = b) = false from by cases b <;> rfl]; exact k)
/-! fresh: no object that stays was there -/
section
variable {H H1 H2 : Hp} {l p : Addr} {o : HO}
def NF (H : Hp) (p : Addr) : Prop := ∀ o, NB o → H p ≠ some o
theorem NF.of (h : H p = none) : NF H p := fun o _ q => by rw [h] at q; cases q
theorem NF.back (e : Ex H H1) (h : NF H1 p) : NF H p := fun o n q => h o n (e.kp _ _ q n)
theorem NF.new (e : Ex H H1) (h : H1 p = none) : NF H p := .back e (.of h)
theorem mutN {xs : List V} (e : Ex H H1) (n : NF H l) (h : H1 l = some (.lst xs)) (nb : NB (.lst xs)) : Ex H (upd H1 l o) := by
  refine ⟨fun a o' q nn => ?_, fun b c q => ?_⟩
  · have hne : a ≠ l := fun ea => n o' nn (ea ▸ q)
    rw [upd_ne hne]
    exact e.kp a o' q nn
  · obtain ⟨x0, y0, z0, ns0, k1, k2, _⟩ := id q
    obtain ⟨x, y, z, ns, e1, e2, r⟩ := e.bg b c q
    have hb : b ≠ l := fun ea => by
      subst ea
      rw [h] at e1
      injection e1 with e1
      exact nb x y z c e1
    have hc : c ≠ l := fun ea => n _ NB.ints (ea ▸ k2)
    exact ⟨x, y, z, ns, by rw [upd_ne hb]; exact e1, by rw [upd_ne hc]; exact e2, r⟩
end
end Er

set_option Elab.async false
set_option maxRecDepth 100000
set_option maxHeartbeats 2000000
set_option linter.all false
/-! errors of the program held as values: made, asked for their class, read -/
namespace Er
open PySem PySem.Spec PyProof.Rows L2 Sx
section
variable {X : Cx} {CX : CXT} {x : Str} {C fI : Addr} {k : Nat} {fd : FuncData} {ps : List Str} {sp : Sp} {e : Expr} {es : List Expr} {ta : TA} {te : TE} {p pos : Pos}
/-- C(a, ..) as a value, C's own __init__ keeping sp -/
def ErrK (C : Addr) (sp : Sp) (vs : List V) (H1 : Hp) (Q : VK) : Prop := vs.length ≤ 1000 ∧ ∀ a, H1 a = none → sp (.ref a :: (vs ++ [])) (upd H1 a (exo a C none)) (fun v H2 => v = .non ∧ Q (.ref a) H2) (fun _ _ _ => False)
def tErr (C : Addr) (sp : Sp) (ta : TA) : TE := fun σ H Q => ta σ H fun vs H1 => ErrK C sp vs H1 Q
def tErr0 (C : Addr) : TE := fun _ H Q => ∀ a, H a = none → Q (.ref a) (upd H a (exo a C none))
/-- isinstance(e, c), e an error that is held as a value -/
def rIsE (K : PySem.W.Frag) : List V → Hp → VK → Prop := fun xs H Q =>
  ∃ (a D : Addr) (d : Option Addr) (c : V) (cv : Value) (b : Bool), XC K D ∧ H a = some (exo a D d) ∧ (d = none ∨ ∃ dd fs, d = some dd ∧ H dd = some (exd dd fs)) ∧
    xs = [.ref a, c] ∧ (∀ u, RelV c u → u = cv) ∧ PySem.W.kitOne K (.ref D) cv = some b ∧ Q (.bl b) H
/-- e.f, e an error that is held as a value -/
def EfK (K : PySem.W.Frag) (f : Str) (Q : VK) (x : V) (H1 : Hp) : Prop := ∃ (a C dd : Addr) (fs : List (Str × V)) (v : V), x = .ref a ∧ XC K C ∧ PySem.W.findIn K (.ref C) f = some none ∧ H1 a = some (exo a C (some dd)) ∧ H1 dd = some (exd dd fs) ∧ fs.lookup f = some v ∧ Q v H1
def tEf (K : PySem.W.Frag) (f : Str) (te : TE) : TE := fun σ H Q => te σ H (EfK K f Q)
end
/-! what the readings ask -/
section
variable {K : PySem.W.Frag} {σ : L2.St} {H H1 : Hp} {Q : VK} {C a dd : Addr} {f g : Str} {v y z : V} {ta : TA} {te : TE}
/-- an error as a value: the fields it holds -/
def ErrV (K : PySem.W.Frag) (H : Hp) (v : V) (C : Addr) (fs : List (Str × V)) : Prop := XC K C ∧ ∃ a, v = .ref a ∧ ((fs = [] ∧ H a = some (exo a C none)) ∨ ∃ dd, H a = some (exo a C (some dd)) ∧ H dd = some (exd dd fs))
theorem nb_exo {a C : Addr} {d : Option Addr} : NB (exo a C d) := fun _ _ _ _ h => by
  have h' : HO.ext _ = HO.lst _ := h
  cases h'
theorem nb_exd {a : Addr} {fs : List (Str × V)} : NB (exd a fs) := fun _ _ _ _ h => by
  have h' : HO.ext _ = HO.lst _ := h
  cases h'
theorem ErrV.mono {fs : List (Str × V)} (h : ErrV K H v C fs) (e : Ex H H1) : ErrV K H1 v C fs := by
  obtain ⟨t, a, rfl, h⟩ := h
  refine ⟨t, a, rfl, ?_⟩
  rcases h with ⟨z, h⟩ | ⟨dd, h1, h2⟩
  · exact .inl ⟨z, e.kp _ _ h nb_exo⟩
  · exact .inr ⟨dd, e.kp _ _ h1 nb_exo, e.kp _ _ h2 nb_exd⟩
/-- the classes are apart from one another; all are of v -/
def ktab (K : PySem.W.Frag) (cs : List Addr) : Bool := (List.range cs.length).all fun i => (List.range cs.length).all fun j => PySem.W.kitOne K (.ref (cs.getD i 0)) (.ref (cs.getD j 0)) == some (decide (i = j))
def kall (K : PySem.W.Frag) (cs : List Addr) (v : Value) : Bool := cs.all fun c => PySem.W.kitOne K (.ref c) v == some true
end
end Er

set_option Elab.async false
set_option maxRecDepth 100000
set_option maxHeartbeats 2000000
set_option linter.all false
/-! != of lists that hold the same things, of a dict and itself -/
namespace Er
open PySem PySem.Spec PyProof.Rows L2 Sx
def refB : V → Bool
  | .ref _ => true
  | v => flatB v
def rNeL (K : PySem.W.Frag) : R2 := fun x y H Q => ∃ a b xs, x = .ref a ∧ y = .ref b ∧ SqL K H a xs ∧ SqL K H b xs ∧ (∀ v ∈ xs, refB v = true) ∧ Q (.bl false) H
def rNeSelf : R2 := fun x y H Q => ∃ a kvs, x = .ref a ∧ y = .ref a ∧ H a = some (.dK kvs) ∧ (kvs.map (·.1)).Nodup ∧ (∀ p ∈ kvs, refB p.2 = true) ∧ Q (.bl false) H
def rNeX (K : PySem.W.Frag) : R2 := fun x y H Q => rNeD K x y H Q ∨ rNeL K x y H Q ∨ rNeSelf x y H Q
section
variable {K : PySem.W.Frag} {H1 : Hp} {a : Addr} {σ : L2.St} {D : Ends}
end
end Er

set_option Elab.async false
set_option linter.all false
set_option maxRecDepth 100000
set_option maxHeartbeats 2000000
/-! slices with a step: read and stored -/
namespace Er
open PySem PySem.Spec PyProof.Rows L2 Sx
/-- the places of a slice of a list of n items -/
def places (n : Nat) (lo hi st : Option Int) : List Nat := sliceRange (sliceBounds lo hi st n).1 (sliceBounds lo hi st n).2.1 (sliceBounds lo hi st n).2.2
def pickV (xs : List V) (lo hi st : Option Int) : List V := (places xs.length lo hi st).filterMap (xs[·]?)
def putV (xs : List V) (ks : List Nat) (ys : List V) : List V := (ks.zip ys).foldl (fun xs p => xs.set p.1 p.2) xs
theorem vals_pick {xs : List V} {us : List Value} (r : Vals xs us) (ks : List Nat) : Vals (ks.filterMap (xs[·]?)) (ks.filterMap (us[·]?)) := by
  induction ks with
  | nil => exact .nil
  | cons k ks ih =>
    have hl := r.length
    by_cases hk : k < xs.length
    · have e1 := List.getElem?_eq_getElem hk
      obtain ⟨u, e2, ru⟩ := r.get e1
      rw [List.filterMap_cons, List.filterMap_cons, e1, e2]
      exact .cons ru ih
    · rw [List.filterMap_cons, List.filterMap_cons, List.getElem?_eq_none (Nat.le_of_not_lt hk), List.getElem?_eq_none (by omega)]
      exact ih
theorem vals_put : ∀ {ks : List Nat} {xs ys : List V} {us ws : List Value}, Vals xs us → Vals ys ws → Vals (putV xs ks ys) ((ks.zip ws).foldl (fun xs p => xs.set p.1 p.2) us)
  | [], _, _, _, _, r, _ => r
  | _ :: _, _, [], _, [], r, _ => r
  | k :: ks, xs, y :: ys, us, w :: ws, r, .cons r1 t => vals_put (ks := ks) (r.set r1 k) t
theorem putV_length : ∀ (ks : List Nat) (xs ys : List V), (putV xs ks ys).length = xs.length
  | [], _, _ => rfl
  | _ :: _, _, [] => rfl
  | k :: ks, xs, y :: ys => (putV_length ks (xs.set k y) ys).trans List.length_set
theorem pick_len (xs : List V) (lo hi st : Option Int) : (pickV xs lo hi st).length ≤ xs.length := by
  have := slicePick_size_le (Array.replicate xs.length (Value.none)) lo hi st
  unfold slicePick at this
  rw [Array.size_replicate, List.size_toArray] at this
  refine Nat.le_trans ?_ this
  unfold pickV places
  generalize sliceRange _ _ _ = ks
  clear this
  induction ks with
  | nil => simp
  | cons k ks ih =>
    rw [List.filterMap_cons, List.filterMap_cons]
    by_cases hk : k < xs.length
    · rw [List.getElem?_eq_getElem hk, Array.getElem?_eq_getElem (by simpa using hk)]
      simpa using ih
    · rw [List.getElem?_eq_none (Nat.le_of_not_lt hk), Array.getElem?_eq_none (by simpa using hk)]
      exact ih
/-! xs[a:b:c] -/
def StepK (K : PySem.W.Frag) (x : V) (l u o : Option Int) (H : Hp) (Q : VK) : Prop := ∃ a xs, x = .ref a ∧ SqL K H a xs ∧ o ≠ some 0 ∧ ∀ p, H p = none → Q (.ref p) (upd H p (.lst (pickV xs l u o)))
def tStepL (K : PySem.W.Frag) (te : TE) (tl th ts : TO) : TE := fun σ H Q => te σ H fun x H1 => tl σ H1 fun l H2 => th σ H2 fun u H3 => ts σ H3 fun o H4 => StepK K x l u o H4 Q
section
variable {X : Cx}
theorem pe_stepL {e st : Expr} {lo hi : Option Expr} {te : TE} {tl th ts : TO} {p3 pos : Pos} (he : PE X e te) (hl : PO X lo tl) (hh : PO X hi th) (hs : PO X (some st) ts) : PE X (.Subscript e (.Slice lo hi (some st) p3) pos) (tStepL X.K te tl th ts) := by
  refine ⟨fun pins s σ H Q I h => ?_⟩
  refine Subscript_ (thn (he.run pins s σ H _ I h) fun v s1 ⟨x, H1, I1, r1, q1⟩ => ?_)
  refine wpAny_Slice (thn (hl.run pins s1 σ H1 _ I1 q1) fun vl s2 ⟨l, H2, I2, pl, q2⟩ => thn (hh.run pins s2 σ H2 _ I2 q2) fun vu s3 ⟨u, H3, I3, pu, q3⟩ => thn (hs.run pins s3 σ H3 _ I3 q3) fun vs s4 ⟨o, H4, I4, ps, q4⟩ => ?_)
  obtain ⟨a, xs, ex, hx, h0, q⟩ := q4
  subst ex
  cases r1
  have I5 : Inv X pins σ H4 { s4 with heap := s4.heap.push { cls := .type "slice", data := .fields #[vl, vu, vs] } } := I4.kept (t' := s4.toks) fun b ob q => Heap.get?_push_of_some _ q
  obtain ⟨its, r, ht, hz⟩ := I5.list hx
  have hlen := r.length
  show wpAny (model X.prog X.w) X.A (subscriptTail e (.Slice lo hi (some st) p3) (.ref a) (.ref s4.heap.objs.size)) (EP X pins σ Q) X.xe { s4 with heap := s4.heap.push { cls := .type "slice", data := .fields #[vl, vu, vs] } }
  refine tail_any (ops := [.ref a, .ref s4.heap.objs.size]) ht.isList.typeIs (PySem.slot_list_getitem.lookup) ?_ (by with_unfolding_all rfl)
  have hp : slicePick its.toArray l u o = ((places its.length l u o).filterMap (its[·]?)).toArray := by
    unfold slicePick places
    rw [List.size_toArray]
    simp only [List.getElem?_toArray]
  refine wpAny_getItem_list_slice ht.isList (Heap.IsSliceOf.new _ vl vu vs) pl pu ps h0 ?_ (by rw [List.size_toArray]; omega)
  rw [hp]
  refine ⟨.ref _, _, I5.laid (t' := s4.toks) (o := .lst (pickV xs l u o)) (fun b ob q => Heap.get?_push_of_some _ q) (Nat.le_refl _) ?_, rfl, q _ (I5.hok.fresh (Nat.le_refl _))⟩
  refine ⟨Nat.le_trans (pick_len xs l u o) hz, (places its.length l u o).filterMap (its[·]?), 0, ?_, Heap.get?_push_size _ rfl⟩
  have := vals_pick r (places xs.length l u o)
  rw [hlen] at this
  unfold pickV
  rw [hlen]
  exact this
end
/-! xs[a:b:c] = ys -/
section
variable {prog : Program} {w : World} {A : Around} {E : Value → Shared → Prop} {s : Shared}
set_option maxRecDepth 100000 in
/-- list.__setitem__ with a slice of another step and another list of as many items -/
theorem setItem_step {l b sl : Addr} {items new : Array Value} {n n2 : Nat} {vl vu vs : Value} {lo hi : Option Int} {c : Int} {Q : Unit → Shared → Prop}
    (e : s.heap.get? l = some { cls := .type "list", data := .seq items n }) (e2 : s.heap.get? b = some { cls := .type "list", data := .seq new n2 }) (hne : l ≠ b)
    (hs : s.heap.IsSliceOf sl vl vu vs) (pl : IsPart vl lo) (pu : IsPart vu hi) (ps : IsPart vs (some c)) (h0 : c ≠ 0) (h1 : c ≠ 1) (hn : new.size = (places items.size lo hi (some c)).length)
    (hsz : items.size ≤ sizeLine) (h : Q () { s with heap := s.heap.update l (Obj.mapSeq fun xs => ((places items.size lo hi (some c)).zip new.toList).foldl (fun xs (k, x) => xs.setIfInBounds k x) xs) }) :
    wpAny (model prog w) A (setItem (.ref l) (.ref sl) (.ref b)) Q E s := by
  have hl : s.heap.IsList l items := PySem.IsL.isList e
  have hb : s.heap.IsList b new := PySem.IsL.isList e2
  obtain ⟨os, hos, hcs, hds⟩ := id hs
  have hTs : s.TypeIs (.ref sl) "slice" := ⟨os, hos, hcs⟩
  have hstep : ¬ ((rawPart (some c) == rawInt 0) = true) := fun hh => by
    have : c = 0 := by simpa [rawPart, rawInt] using hh
    exact h0 this
  have hsame : Builtin.List.listSameRef (.ref l) (.ref b) = false := by
    unfold Builtin.List.listSameRef
    exact beq_eq_false_iff_ne.mpr hne
  have foldsz : ∀ (ps : List (Nat × Value)) (xs : Array Value), (ps.foldl (fun xs (p : Nat × Value) => xs.setIfInBounds p.1 p.2) xs).size = xs.size := fun ps => by
    induction ps with
    | nil => intro xs; rfl
    | cons p ps ih => intro xs; rw [List.foldl_cons, ih, Array.size_setIfInBounds]
  have hz' : ((fun xs : Array Value => ((places items.size lo hi (some c)).zip new.toList).foldl (fun xs (k, x) => xs.setIfInBounds k x) xs) items).size ≤ sizeLine + 1 := by
    show (List.foldl (fun xs (p : Nat × Value) => xs.setIfInBounds p.1 p.2) items _).size ≤ _
    rw [foldsz]
    omega
  unfold setItem
  try with_reducible refine wpAny_holding ?_
  first | refine wpAny_bind (wpAny_pure ?_) | skip
  refine wpAny_bind (wpAny_sequenceKey hl.typeIs (by decide) ?_)
  refine wpAny_bind (wpAny_callSpecial?_slot (name := Str.ofString "__setitem__") hl.typeIs slot_list_setitem
    (wpAny_call_entry slot_list_setitem hl.typeIs entry_list_setitem ?_ (args_list_setitem _ _ _)))
  show wpAny _ _ (Builtin.List.listSubscript? (.ref sl) >>= _) _ _ s
  refine wpAny_bind ?_
  unfold Builtin.List.listSubscript?
  refine wpAny_bind (wpAny_specialOf hTs slice_no_index ?_)
  simp only [Option.isNone_none, if_true]
  refine wpAny_pure ?_
  show wpAny _ _ (typeOf (.ref sl) >>= _) _ _ s
  refine wpAny_bind (wpAny_typeOf hTs ?_)
  first
    | rw [if_neg (by decide)]
    | refine PySem.W.KFB.if_not (by decide) ?_
  rw [listSliceParts_eq]
  refine wpAny_bind (wpAny_bind (wpAny_field hos hds (x := vs) rfl (wpAny_bind (wpAny_listPart ps ?_))))
  rw [if_neg hstep]
  refine wpAny_bind (wpAny_field hos hds (x := vl) rfl (wpAny_bind (wpAny_listPart pl ?_)))
  refine wpAny_bind (wpAny_field hos hds (x := vu) rfl (wpAny_bind (wpAny_listPart pu (wpAny_pure ?_))))
  first
    | simp only [hsame, Bool.false_eq_true, if_false]
    | refine PySem.W.KFB.if_not hsame ?_
    | (dsimp only
       rw [if_neg (by rw [hsame]; exact Bool.false_ne_true)])
  refine wpAny_bind (m := Builtin.List.listAllItems (.ref b) "must assign iterable to extended slice") ?_
  unfold Builtin.List.listAllItems
  refine wpAny_bind (wpAny_typeOf hb.typeIs ?_)
  first
    | refine PySem.W.KFB.if_so (by decide) ?_
    | rw [if_pos (by decide)]
    | simp only [beq_self_eq_true, Bool.true_or, if_true]
  unfold Builtin.List.listItems
  refine wpAny_bind (wpAny_seqItems e2 rfl (wpAny_pure ?_))
  refine wpAny_bind (wpAny_bind (wpAny_seqItems e rfl (wpAny_pure ?_)))
  refine wpAny_bind (wpAny_of_eq (sliceIndices_raw lo hi (some c) items.size (by simpa using h0)) ?_)
  have est : (sliceBounds lo hi (some c) items.size).2.2 = c := rfl
  have c1 : ¬ ((c == 1) = true) := by simpa using h1
  have c2 : ¬ ((new.size != (places items.size lo hi (some c)).length) = true) := by simp [hn]
  show wpAny _ _ (if (c == 1) = true then _ else _) _ _ s
  rw [if_neg c1]
  show wpAny _ _ (if (new.size != (places items.size lo hi (some c)).length) = true then _ else _) _ _ s
  rw [if_neg c2]
  refine wpAny_bind (wpAny_rule ?_)
  show wpAny _ _ (updateSeq l (fun xs => ((places items.size lo hi (some c)).zip new.toList).foldl (fun xs (k, x) => xs.setIfInBounds k x) xs) >>= _) _ _ s
  refine wpAny_bind (wpAny_updateSeq (hz := hsz) (_hz' := hz') e rfl ?_)
  refine wpAny_bind (wpAny_letGo ?_)
  first
    | exact wpAny_bind (wpAny_pure (wpAny_pure ⟨.none, rfl, wpAny_pure h⟩))
    | exact wpAny_pure ⟨.none, rfl, wpAny_pure h⟩
end

def StepS (o v : V) (l u : Option Int) (st : Option Int) (H : Hp) (Q : Hp → Prop) : Prop := ∃ (p b : Addr) (xs ys : List V) (c : Int), o = .ref p ∧ v = .ref b ∧ H p = some (.lst xs) ∧ H b = some (.lst ys) ∧ p ≠ b ∧ st = some c ∧ c ≠ 0 ∧ c ≠ 1 ∧
  ys.length = (places xs.length l u st).length ∧ Q (upd H p (.lst (putV xs (places xs.length l u st) ys)))
def gStep (to : TE) (tl th ts : TO) : TG := fun v σ H Q => to σ H fun o H1 => tl σ H1 fun l H2 => th σ H2 fun u H3 => ts σ H3 fun st H4 => StepS o v l u st H4 fun H5 => Q σ H5
theorem put_arr : ∀ (ks : List Nat) (ws its : List Value), ((ks.zip ws).foldl (fun (xs : Array Value) (p : Nat × Value) => xs.setIfInBounds p.1 p.2) its.toArray) = ((ks.zip ws).foldl (fun (xs : List Value) (p : Nat × Value) => xs.set p.1 p.2) its).toArray
  | [], _, _ => rfl
  | _ :: _, [], _ => rfl
  | k :: ks, w :: ws, its => by
    rw [List.zip_cons_cons, List.foldl_cons, List.foldl_cons, List.setIfInBounds_toArray]
    exact put_arr ks ws _
section
variable {X : Cx} {pos : Pos}
theorem set_step {pins : List (Addr × Obj)} {s : Shared} {σ : L2.St} {H : Hp} {o v : V} {ov u : Value} {a : Addr} {vl vu vs : Value} {lo hi st : Option Int} {Q : Hp → Prop} (I : Inv X pins σ H s) (ro : RelV o ov) (rv : RelV v u)
    (hs : s.heap.IsSliceOf a vl vu vs) (pl : IsPart vl lo) (pu : IsPart vu hi) (ps : IsPart vs st) (h : StepS o v lo hi st H Q) :
    wpAny (model X.prog X.w) X.A (setItem ov (.ref a) u) (fun _ s' => ∃ H', Inv X pins σ H' s' ∧ Q H') X.xe s := by
  obtain ⟨p, b, xs, ys, c, rfl, rfl, hH, hB, hne, rfl, h0, h1, hn, q⟩ := h
  cases ro
  cases rv
  obtain ⟨z, its, n, r, hl, e⟩ := I.lstM hH
  obtain ⟨z2, its2, n2, r2, hl2, e2⟩ := I.lstM hB
  refine setItem_step e e2 hne hs pl pu ps h0 h1 ?_ (by rw [List.size_toArray]; omega) ⟨_, ?_, q⟩
  · rw [List.size_toArray, List.size_toArray, ← hl2, ← hl]; exact hn
  · refine I.lset (its' := ((places xs.length lo hi (some c)).zip its2).foldl (fun xs p => xs.set p.1 p.2) its) (t' := s.toks) hH e ?_ (vals_put r r2) (by rw [putV_length]; exact z)
    rw [List.size_toArray, ← hl]
    exact put_arr _ _ _
/-- xs[a:b:c] = .. -/
theorem pg_step {o st : Expr} {lo hi : Option Expr} {to : TE} {tl th ts : TO} {p2 : Pos} (ho : PE X o to) (hl : PO X lo tl) (hh : PO X hi th) (hs : PO X (some st) ts)
    (ha : ∀ v, assign (.Subscript o (.Slice lo hi (some st) p2) pos) X.env v = (do
      let ov ← holding [v] (eval o X.env)
      let iv ← holding [v, ov] (eval (.Slice lo hi (some st) p2) X.env)
      standAt pos
      holding [v, ov, iv] (setItem ov iv v)
      release [v, ov, iv] []) := by intro _; rfl) : PG X (.Subscript o (.Slice lo hi (some st) p2) pos) (gStep to tl th ts) := by
  refine ⟨fun pins s σ H v u Q I r h => ?_⟩
  rw [ha]
  refine wpAny_bind (wpAny_holding (thn (ho.run pins s σ H _ I h) fun ov s1 ⟨x, H1, I1, r1, q1⟩ => ?_))
  refine wpAny_bind (wpAny_holding (wpAny_Slice (thn (hl.run pins s1 σ H1 _ I1 q1) fun vl s2 ⟨l, H2, I2, pl, q2⟩ => thn (hh.run pins s2 σ H2 _ I2 q2) fun vu s3 ⟨w, H3, I3, pu, q3⟩ => thn (hs.run pins s3 σ H3 _ I3 q3) fun vs s4 ⟨d, H4, I4, ps, q4⟩ => ?_)))
  have I5 : Inv X pins σ H4 { s4 with heap := s4.heap.push { cls := .type "slice", data := .fields #[vl, vu, vs] } } := I4.kept (t' := s4.toks) fun b ob q => Heap.get?_push_of_some _ q
  refine wpAny_bind (wpAny_standAt (wpAny_bind (wpAny_holding (thn (set_step I5 r1 r (Heap.IsSliceOf.new _ vl vu vs) pl pu ps q4) fun _ s5 ⟨H6, I6, q6⟩ => ?_))))
  exact wpAny_release ⟨σ, H6, I6, q6⟩
end
/-! a call of a name that holds some def -/
def HeldK (P : Program) (w : World) (K : PySem.W.Frag) (mg : Str → Option Value) (base : Heap) (k : Nat) (f : Addr) (sp : Sp) : Prop := ∃ (j : Nat) (fd : FuncData) (ps : List Str), j ≤ k ∧ FnOk P w K mg base CX0 j f fd ps sp ∧ PySem.W.keepIn K (.ref f) = true ∧ Binds K fd ps []
def tCallH (P : Program) (w : World) (K : PySem.W.Frag) (mg : Str → Option Value) (base : Heap) (k i : Nat) (t : TA) : TE := fun σ H Q => ∃ f sp, σ[i]? = some (some (.ref f)) ∧ HeldK P w K mg base k f sp ∧ t σ H fun vs H1 => sp vs H1 Q E0
section
variable {X : Cx} {k i : Nat} {x : Str} {p pos : Pos} {e : Expr} {es : List Expr} {t : TA}
theorem pe_callH (hr : Room k X.A) (hN : X.N[i]? = some x) (hv : Vis X.env.scope x) (ha : PA X (e :: es) t)
    (hdb : (x == ("__debug__" : Str)) = false := by decide) (hcd : (x == ("__classdict__" : Str)) = false := by decide)
    (he : starEach (e :: es) X.env = (false, eval e X.env) :: starEach es X.env := by rfl) (hpl : (backTo pos (starEach es X.env)).any (·.1) = false := by rfl) : PE X (.Call (.Name x p) (e :: es) [] pos) (tCallH X.prog X.w X.K X.mg X.base k i t) := by
  refine ⟨fun pins s σ H Q I h => ?_⟩
  obtain ⟨f, sp, hs, ⟨j, fd, ps, hj, F, hk, hb⟩, ht⟩ := h
  refine (pe_callL (i := i) (f := f) (sp := sp) (dvs := []) (E := E0) (F.mono hj) hr hN hv hk hb .nil pass0 ha hdb hcd he hpl).run pins s σ H Q I ⟨hs, ?_⟩
  have e0 : (fun (vs : List V) (H1 : Hp) => sp (vs ++ []) H1 Q E0) = fun vs H1 => sp vs H1 Q E0 := by
    funext vs H1
    rw [List.append_nil]
  show t σ H (fun vs H1 => sp (vs ++ []) H1 Q E0)
  rw [e0]
  exact ht
end
/-! readings -/
section
variable {H H1 : Hp} {Q : VK} {K : PySem.W.Frag} {σ : L2.St} {p a b : Addr} {xs ys : List V} {v : V} {te : TE} {tl th ts : TO}
theorem x_stepL (k : te σ H fun x H1 => tl σ H1 fun l H2 => th σ H2 fun u H3 => ts σ H3 fun o H4 => StepK K x l u o H4 Q) : tStepL K te tl th ts σ H Q := k
theorem x_stepK {l u o : Option Int} (h : H a = some (.lst xs)) (h0 : o ≠ some 0) (k : ∀ p H1, Ex H H1 → H p = none → H1 p = some (.lst (pickV xs l u o)) → Q (.ref p) H1) : StepK K (.ref a) l u o H Q :=
  ⟨a, xs, rfl, SqL.of h, h0, fun p hp => k p _ (Ex.new hp) hp upd_same⟩
theorem x_gStep {to : TE} {q : L2.St → Hp → Prop} (k : to σ H fun o H1 => tl σ H1 fun l H2 => th σ H2 fun u H3 => ts σ H3 fun st H4 => StepS o v l u st H4 fun H5 => q σ H5) : gStep to tl th ts v σ H q := k
theorem x_stepS {l u : Option Int} {c : Int} {q : Hp → Prop} (h : H p = some (.lst xs)) (h' : H b = some (.lst ys)) (n : p ≠ b) (c0 : c ≠ 0) (c1 : c ≠ 1) (hl : ys.length = (places xs.length l u (some c)).length) (k : q (upd H p (.lst (putV xs (places xs.length l u (some c)) ys)))) : StepS (.ref p) (.ref b) l u (some c) H q :=
  ⟨p, b, xs, ys, c, rfl, rfl, h, h', n, rfl, c0, c1, hl, k⟩
theorem x_callH {P : Program} {w : World} {mg : Str → Option Value} {base : Heap} {k i : Nat} {t : TA} {f : Addr} (sp : Sp) (hs : σ[i]? = some (some (.ref f))) (hh : HeldK P w K mg base k f sp) (ht : t σ H fun vs H1 => sp vs H1 Q E0) : tCallH P w K mg base k i t σ H Q := ⟨f, sp, hs, hh, ht⟩
theorem x_ixDr {w : World} {d f : Addr} {z : Str} {es : Array DictEntry} {n : Nat} (D : KDict K w d es n) (h : PySem.W.nsIn K d z = some (some (.ref f))) (k : Q (.ref f) H) : rIxD K w (.ref d) (.str z) H Q :=
  ⟨d, z, .ref f, rfl, rfl, kdct_of (v := .ref f) D h rfl, k⟩
end
end Er
namespace Er
open PySem PySem.Spec PyProof.Rows L2 Sx
section
variable {X : Cx} {sB : Shared} {HB : Hp} {scope : Scope} {cenv : Env} {fp : List Addr}
theorem pe_stepLB {e st : Expr} {lo hi : Option Expr} {te : TE} {tl th ts : TO} {p3 pos : Pos} (he : PE (X.blk sB HB scope cenv fp) e te) (hl : PO (X.blk sB HB scope cenv fp) lo tl) (hh : PO (X.blk sB HB scope cenv fp) hi th) (hs : PO (X.blk sB HB scope cenv fp) (some st) ts) : PE (X.blk sB HB scope cenv fp) (.Subscript e (.Slice lo hi (some st) p3) pos) (tStepL X.K te tl th ts) := pe_stepL (X := X.blk sB HB scope cenv fp) he hl hh hs
end
end Er

set_option Elab.async false
set_option linter.all false
set_option maxRecDepth 100000
set_option maxHeartbeats 2000000
/-! comprehensions whose invariant tells of lists -/
namespace Er
open PySem PySem.Spec PyProof.Rows L2 Sx
section
variable {H H' H1 H2 : Hp} {p a b c l : Addr} {o u : HO} {K : PySem.W.Frag} {σ : L2.St} {Q : VK} {v w : V} {D : Ends} {t : TT} {ta tb te : TE}
theorem lc_anyC {J : It} {n : Nat} {g : TG} {vs : List Nat} (I : Nat → List V → Hp → Prop) (h0 : ∀ D, H1 D = none → I 0 [] (upd H1 D (.lst [])))
    (mono : ∀ i acc y H D, H D = some (.lst acc) → I (i + 1) (acc ++ [y]) H → I (i + 1) (acc ++ [y]) (upd H D (.lst (acc ++ [y])))) (nb : ∀ i acc H, I i acc H → NB (.lst acc) ∧ acc.length < sizeLine)
    (go : ∀ i H', i < n → Ex H1 H' → J.go i H') (stop : ∀ H', Ex H1 H' → J.stop n H')
    (turn : ∀ i acc x H' H'', i < n → Ex H1 H' → I i acc H' → J.yld i H' x H'' → ∀ kk : Option V → Hp → Prop, (∀ y H4, Ex H' H4 → I (i + 1) (acc ++ [y]) H4 → kk (some y) H4) →
      g x (wipe σ vs) H'' fun σ2 H2 => wipe σ2 vs = wipe σ vs ∧ t σ2 H2 fun b H3 => if b = true then te σ2 H3 (fun y H4 => kk (some y) H4) else kk none H3)
    (k : ∀ p ys H2, Ex H1 H2 → H1 p = none → H2 p = some (.lst ys) → I n ys H2 → Q (.ref p) H2) : LcGo J g t te vs σ H1 Q := by
  intro D hD
  refine ⟨fun i m H => m = n - i ∧ i ≤ n ∧ Ex H1 H ∧ ∃ acc, H D = some (.lst acc) ∧ I i acc H, ⟨n, rfl, Nat.zero_le _, Ex.new hD, [], upd_same, h0 D hD⟩, ?_⟩
  rintro i m H ⟨rfl, hi, e, acc, hd, hI⟩
  by_cases hlt : i < n
  · refine .inr ⟨go i H hlt e, fun H' => i + 1 ≤ n ∧ Ex H1 H' ∧ ∃ acc, H' D = some (.lst acc) ∧ I (i + 1) acc H', fun H' q => ⟨n - (i + 1), by omega, rfl, q⟩, fun x H' y => ?_⟩
    have nbA := nb _ _ _ hI
    have q := turn i acc x H H' hlt e hI y (fun o H4 => match o with
      | some y => ∃ acc, H4 D = some (.lst acc) ∧ acc.length < sizeLine ∧ (i + 1 ≤ n ∧ Ex H1 (upd H4 D (.lst (acc ++ [y]))) ∧ ∃ acc', upd H4 D (.lst (acc ++ [y])) D = some (.lst acc') ∧ I (i + 1) acc' (upd H4 D (.lst (acc ++ [y]))))
      | none => i + 1 ≤ n ∧ Ex H1 H4 ∧ ∃ acc, H4 D = some (.lst acc) ∧ I (i + 1) acc H4) (fun y H4 e4 q => ?_)
    · exact q
    · have hd4 := e4.kp _ _ hd nbA.1
      exact ⟨acc, hd4, nbA.2, hlt, Ex.mut (e.trans e4) hD, acc ++ [y], upd_same, mono _ _ _ _ _ hd4 q⟩
  · have ei : i = n := by omega
    subst ei
    exact .inl ⟨stop H e, k D acc H e hD hd hI⟩
theorem lc_lstC {xs : List V} {j : Nat} {vs : List Nat} (hx : H1 a = some (.lst xs)) (nbx : NB (.lst xs)) (I : Nat → List V → Hp → Prop) (h0 : ∀ D, H1 D = none → I 0 [] (upd H1 D (.lst [])))
    (mono : ∀ i acc y H D, H D = some (.lst acc) → I (i + 1) (acc ++ [y]) H → I (i + 1) (acc ++ [y]) (upd H D (.lst (acc ++ [y])))) (nb : ∀ i acc H, I i acc H → NB (.lst acc) ∧ acc.length < sizeLine)
    (hw : ∀ x, wipe ((wipe σ vs).set j (some x)) vs = wipe σ vs)
    (turn : ∀ (i : Nat) x acc H', xs[i]? = some x → Ex H1 H' → I i acc H' → ∀ kk : Option V → Hp → Prop, (∀ y H4, Ex H' H4 → I (i + 1) (acc ++ [y]) H4 → kk (some y) H4) →
      t ((wipe σ vs).set j (some x)) H' fun b H3 => if b = true then te ((wipe σ vs).set j (some x)) H3 (fun y H4 => kk (some y) H4) else kk none H3)
    (k : ∀ p ys H2, Ex H1 H2 → H1 p = none → H2 p = some (.lst ys) → I xs.length ys H2 → Q (.ref p) H2) : LK K (.ref a) H1 fun J H2 => LcGo J (gName j) t te vs σ H2 Q := by
  have hq : ∀ H', Ex H1 H' → SqL K H' a xs := fun H' e => SqL.of (e.kp _ _ hx nbx)
  refine ⟨a, rfl, ⟨xs, SqL.of hx⟩, lc_anyC (n := xs.length) I h0 mono nb (fun i H' hi e => ⟨xs, xs[i], hq H' e, by simp [hi]⟩) (fun H' e => ⟨xs, hq H' e, Nat.le_refl _⟩) (fun i acc x H' H'' hi e q y kk k1 => ?_) k⟩
  obtain ⟨rfl, y⟩ := y
  exact ⟨hw _, turn i x acc _ (y xs (hq _ e)) e q kk k1⟩
theorem lc_rngC {m : Int} {j : Nat} {vs : List Nat} (hm : m < 2 ^ 62) (hm0 : -(2 ^ 62) ≤ m) (I : Nat → List V → Hp → Prop) (h0 : ∀ D, H1 D = none → I 0 [] (upd H1 D (.lst [])))
    (mono : ∀ i acc y H D, H D = some (.lst acc) → I (i + 1) (acc ++ [y]) H → I (i + 1) (acc ++ [y]) (upd H D (.lst (acc ++ [y])))) (nb : ∀ i acc H, I i acc H → NB (.lst acc) ∧ acc.length < sizeLine)
    (hw : ∀ x, wipe ((wipe σ vs).set j (some x)) vs = wipe σ vs)
    (turn : ∀ (i : Nat) acc H', (i : Int) < m → Ex H1 H' → I i acc H' → ∀ kk : Option V → Hp → Prop, (∀ y H4, Ex H' H4 → I (i + 1) (acc ++ [y]) H4 → kk (some y) H4) →
      t ((wipe σ vs).set j (some (.int (i : Int)))) H' fun b H3 => if b = true then te ((wipe σ vs).set j (some (.int (i : Int)))) H3 (fun y H4 => kk (some y) H4) else kk none H3)
    (k : ∀ p ys H2, Ex H1 H2 → H1 p = none → H2 p = some (.lst ys) → I m.toNat ys H2 → Q (.ref p) H2) : R1K [.int m] H1 fun J H2 => LcGo J (gName j) t te vs σ H2 Q := by
  refine ⟨m, rfl, hm0, hm, lc_anyC I h0 mono nb (fun i H' hi _ => hi) (fun H' _ => Nat.le_refl _) (fun i acc x H' H'' hi e q y kk k1 => ?_) k⟩
  obtain ⟨rfl, rfl⟩ := y
  have e0 : (0 : Int) + (i : Int) = (i : Int) := Int.zero_add _
  rw [e0]
  exact ⟨hw _, turn i acc _ (by omega) e q kk k1⟩
/-- range(lo, hi, c), known -/
def R3K (vs : List V) (H1 : Hp) (R : It → Hp → Prop) : Prop := ∃ (i j c : Int) (n : Nat), vs = [.int i, .int j, .int c] ∧ RgC i j c n ∧ R (Itc i c n) H1
theorem x_iR3 {a : TA} {R : It → Hp → Prop} (k : a σ H fun xs H1 => R3K xs H1 R) : iRng3 a σ H R := k
theorem lc_rng3C {lo hi c : Int} {n j : Nat} {vs : List Nat} (hr : RgC lo hi c n) (I : Nat → List V → Hp → Prop) (h0 : ∀ D, H1 D = none → I 0 [] (upd H1 D (.lst [])))
    (mono : ∀ i acc y H D, H D = some (.lst acc) → I (i + 1) (acc ++ [y]) H → I (i + 1) (acc ++ [y]) (upd H D (.lst (acc ++ [y])))) (nb : ∀ i acc H, I i acc H → NB (.lst acc) ∧ acc.length < sizeLine)
    (hw : ∀ x, wipe ((wipe σ vs).set j (some x)) vs = wipe σ vs)
    (turn : ∀ (i : Nat) acc H', i < n → Ex H1 H' → I i acc H' → ∀ kk : Option V → Hp → Prop, (∀ y H4, Ex H' H4 → I (i + 1) (acc ++ [y]) H4 → kk (some y) H4) →
      t ((wipe σ vs).set j (some (.int (lo + (i : Nat) * c)))) H' fun b H3 => if b = true then te ((wipe σ vs).set j (some (.int (lo + (i : Nat) * c)))) H3 (fun y H4 => kk (some y) H4) else kk none H3)
    (k : ∀ p ys H2, Ex H1 H2 → H1 p = none → H2 p = some (.lst ys) → I n ys H2 → Q (.ref p) H2) : R3K [.int lo, .int hi, .int c] H1 fun J H2 => LcGo J (gName j) t te vs σ H2 Q := by
  refine ⟨lo, hi, c, n, rfl, hr, lc_anyC I h0 mono nb (fun i H' hi _ => hi) (fun H' _ => Nat.le_refl _) (fun i acc x H' H'' hi e q y kk k1 => ?_) k⟩
  obtain ⟨rfl, rfl⟩ := y
  exact ⟨hw _, turn i acc _ hi e q kk k1⟩
end
end Er
namespace Er
open PySem PySem.Spec PyProof.Rows L2 Sx
section
variable {H H' H1 H2 : Hp} {p a b c l : Addr} {o u : HO} {K : PySem.W.Frag} {σ : L2.St} {Q : VK} {v w : V} {D : Ends} {t : TT} {ta tb te : TE}
def Lc2Go (J : It) (g : TG) (tt : TT) (wi1 : TI) (g1 : TG) (tt1 : TT) (te : TE) (vs vs1 : List Nat) (σ : L2.St) (H1 : Hp) (Q : VK) : Prop := ∀ D, H1 D = none → ∃ W : Nat → Nat → Hp → Prop, (∃ m, W 0 m (upd H1 D (.lst []))) ∧ ∀ i m H, W i m H →
  (J.stop i H ∧ Q (.ref D) H) ∨ (J.go i H ∧ ∃ Nx : Hp → Prop, (∀ H', Nx H' → ∃ m', m' < m ∧ W (i + 1) m' H') ∧ ∀ x H', J.yld i H x H' → g x (wipe σ vs) H' fun σ2 H2 => wipe σ2 vs = wipe σ vs ∧ tt σ2 H2 fun b H3 =>
    if b = true then wi1 σ2 H3 fun J1 H4 => ∃ W1 : Nat → Nat → Hp → Prop, (∃ m, W1 0 m H4) ∧ ∀ j k H, W1 j k H →
      (J1.stop j H ∧ Nx H) ∨ (J1.go j H ∧ ∃ Nx1 : Hp → Prop, (∀ H', Nx1 H' → ∃ k', k' < k ∧ W1 (j + 1) k' H') ∧ ∀ x H', J1.yld j H x H' → g1 x (wipe σ2 vs1) H' fun σ3 H5 => wipe σ3 vs1 = wipe σ2 vs1 ∧ tt1 σ3 H5 fun b H6 =>
        if b = true then te σ3 H6 fun y H7 => ∃ acc, H7 D = some (.lst acc) ∧ acc.length < sizeLine ∧ Nx1 (upd H7 D (.lst (acc ++ [y]))) else Nx1 H6)
    else Nx H3)
theorem x_lc2 {wi wi1 : TI} {g g1 : TG} {tt tt1 : TT} {vs vs1 : List Nat} (k : wi σ H fun J H1 => Lc2Go J g tt wi1 g1 tt1 te vs vs1 σ H1 Q) : tLc2 wi g tt wi1 g1 tt1 te vs vs1 σ H Q := k
/-- a list so many times -/
theorem x_repN {xs : List V} {n : Nat} (h : H a = some (.lst xs)) (hn : n < 2 ^ 63) (hz : xs.length * n ≤ sizeLine) (k : ∀ p H1, Ex H H1 → H p = none → H1 p = some (.lst (List.replicate n xs).flatten) → Q (.ref p) H1) : rRep (.ref a) (.int (n : Int)) H Q :=
  ⟨a, n, xs, rfl, rfl, h, by omega, by omega, by rw [Int.toNat_natCast]; exact hz, fun p hp => by rw [Int.toNat_natCast]; exact k p _ (Ex.new hp) hp upd_same⟩
theorem cut_mid {xs : List V} {i j : Nat} (hi : i ≤ xs.length) : cutV xs (some (i : Int)) (some (j : Int)) = (xs.drop i).take (j - i) := by
  unfold cutV
  rw [HT.sIx_nat, HT.sIx_nat, Nat.min_eq_left hi]
  by_cases hj : j ≤ xs.length
  · rw [Nat.min_eq_left hj]
  · rw [Nat.min_eq_right (by omega), List.take_of_length_le (by rw [List.length_drop]; omega), List.take_of_length_le (by rw [List.length_drop]; omega)]
/-- [x for l in ls for x in l] of lists of ints -/
theorem lc2_flat {ps : List V} {ls : List (List Int)} {j j2 : Nat} {vs vs1 : List Nat} (hb : H b = some (.lst ps)) (nbp : NB (.lst ps)) (hl : ps.length = ls.length) (hin : ∀ {i : Nat} {v : V}, ps[i]? = some v → ∃ p l, v = .ref p ∧ ls[i]? = some l ∧ H p = some (.lst (l.map V.int)))
    (sz : ls.flatten.length < sizeLine) (hw : ∀ x, wipe ((wipe σ vs).set j (some x)) vs = wipe σ vs) (hj : ∀ x, ((wipe σ vs).set j (some x))[j]? = some (some x))
    (hw1 : ∀ x y, wipe ((wipe ((wipe σ vs).set j (some x)) vs1).set j2 (some y)) vs1 = wipe ((wipe σ vs).set j (some x)) vs1) (hj2 : ∀ x y, ((wipe ((wipe σ vs).set j (some x)) vs1).set j2 (some y))[j2]? = some (some y))
    (k : ∀ p H2, Ex H H2 → H p = none → H2 p = some (.lst (ls.flatten.map V.int)) → Q (.ref p) H2) :
    LK K (.ref b) H fun J H1 => Lc2Go J (gName j) tYes (iList K (tVar j)) (gName j2) tYes (tVar j2) vs vs1 σ H1 Q := by
  have hq : ∀ H', Ex H H' → SqL K H' b ps := fun H' e => SqL.of (e.kp _ _ hb nbp)
  refine ⟨b, rfl, ⟨ps, SqL.of hb⟩, ?_⟩
  intro D hD
  refine ⟨fun i m H' => m = ps.length - i ∧ i ≤ ps.length ∧ Ex H H' ∧ H' D = some (.lst (((ls.take i).flatten).map V.int)), ⟨ps.length, rfl, Nat.zero_le _, Ex.new hD, by rw [upd_same]; rfl⟩, ?_⟩
  rintro i m H' ⟨rfl, hi, e, hd⟩
  by_cases hlt : i < ps.length
  · refine .inr ⟨⟨ps, ps[i], hq H' e, by simp [hlt]⟩, fun H' => i + 1 ≤ ps.length ∧ Ex H H' ∧ H' D = some (.lst (((ls.take (i + 1)).flatten).map V.int)), fun H' q => ⟨ps.length - (i + 1), by omega, rfl, q⟩, fun x H'' y => ?_⟩
    obtain ⟨rfl, y⟩ := y
    obtain ⟨p, l, rfl, hl', hp⟩ := hin (y ps (hq _ e))
    have hp' : ∀ H', Ex H H' → H' p = some (.lst (l.map V.int)) := fun H' e => e.kp _ _ hp NB.ints
    have sp : (ls.take (i + 1)).flatten = (ls.take i).flatten ++ l := by rw [List.take_add_one, hl', List.flatten_append]; simp
    have lsz : ((ls.take i).flatten ++ l).length ≤ ls.flatten.length := by
      rw [← sp]
      conv => rhs; rw [← List.take_append_drop (i + 1) ls]
      rw [List.flatten_append, List.length_append]
      omega
    refine ⟨hw _, x_yes ?_⟩
    rw [if_pos rfl]
    refine ⟨.ref p, hj _, p, rfl, ⟨_, SqL.of (hp' _ e)⟩, ?_⟩
    refine ⟨fun n k H' => k = l.length - n ∧ n ≤ l.length ∧ Ex H H' ∧ H' D = some (.lst (((ls.take i).flatten ++ l.take n).map V.int)), ⟨l.length, rfl, Nat.zero_le _, e, by rw [hd]; simp⟩, ?_⟩
    rintro n k2 H3 ⟨rfl, hn, e3, hd3⟩
    by_cases hlt2 : n < l.length
    · refine .inr ⟨⟨l.map V.int, .int l[n], SqL.of (hp' _ e3), by simp [hlt2]⟩, fun H' => n + 1 ≤ l.length ∧ Ex H H' ∧ H' D = some (.lst (((ls.take i).flatten ++ l.take (n + 1)).map V.int)), fun H' q => ⟨l.length - (n + 1), by omega, rfl, q⟩, fun x H4 y => ?_⟩
      obtain ⟨rfl, y⟩ := y
      have hx := y _ (SqL.of (hp' _ e3))
      refine ⟨hw1 _ _, x_yes ?_⟩
      rw [if_pos rfl]
      refine ⟨x, hj2 _ _, _, hd3, ?_, hlt2, Ex.mut e3 hD, ?_⟩
      · rw [List.length_map, List.length_append, List.length_take]
        rw [List.length_append] at lsz
        omega
      · rw [upd_same]
        rw [List.getElem?_map, List.getElem?_eq_getElem hlt2] at hx
        rw [List.take_add_one, List.getElem?_eq_getElem hlt2]
        have ex : V.int l[n] = x := Option.some.inj hx
        subst ex
        rw [List.map_append, List.map_append, List.map_append, List.append_assoc]
        rfl
    · have en : n = l.length := by omega
      subst en
      refine .inl ⟨⟨_, SqL.of (hp' _ e3), by simp⟩, hlt, e3, ?_⟩
      rw [hd3, sp, List.take_of_length_le (Nat.le_refl _)]
  · have ei : i = ps.length := by omega
    subst ei
    refine .inl ⟨⟨ps, hq _ e, Nat.le_refl _⟩, k D H' e hD ?_⟩
    rw [hd, hl, List.take_of_length_le (Nat.le_refl _)]
end
end Er
namespace Er
open PySem PySem.Spec PyProof.Rows L2 Sx
section
variable {X : Cx} {sB : Shared} {HB : Hp} {scope : Scope} {cenv : Env} {fp : List Addr}
theorem pi_listB {tg it : Expr} {te : TE} (h : PE (X.blk sB HB scope cenv fp) it te) : PI (X.blk sB HB scope cenv fp) tg it (iList X.K te) := pi_list (X := X.blk sB HB scope cenv fp) h
end
end Er
namespace Ow
open PySem PySem.Spec PyProof.Rows L2 Sx
section
variable {X : Cx} {sB : Shared} {HB : Hp} {scope : Scope} {cenv : Env} {fp : List Addr}
theorem c_listOfB : CallR (X.blk sB HB scope cenv fp) (.type "list") (rListOf X.K) := c_listOf (X := X.blk sB HB scope cenv fp)
end
end Ow

set_option Elab.async false
set_option linter.all false
set_option maxRecDepth 100000
set_option maxHeartbeats 4000000
/-! columns of a line: tables, and what slices pick -/
namespace Cl
open PySem PySem.Spec PyProof.Rows L2 Sx Er
def col (m : Nat) (g : Int → Int → Int) (f : Int) : List Int := (List.range m).map fun r : Nat => g r f
def tab (n m : Nat) (g : Int → Int → Int) : List (List Int) := (List.range n).map fun f : Nat => col m g f
def ord (n m : Nat) (g : Int → Int → Int) : List Int := (List.range (n * m)).map fun i : Nat => g ((i : Int) / n) ((i : Int) % n)
theorem col_len (m : Nat) (g : Int → Int → Int) (f : Int) : (col m g f).length = m := by simp [col]
theorem tab_len (n m : Nat) (g : Int → Int → Int) : (tab n m g).length = n := by simp [tab]
theorem ord_len (n m : Nat) (g : Int → Int → Int) : (ord n m g).length = n * m := by simp [ord]
theorem col_congr {m : Nat} {g g' : Int → Int → Int} {f f' : Int} (h : ∀ r : Int, 0 ≤ r → r < m → g r f = g' r f') : col m g f = col m g' f' :=
  List.map_congr_left fun r hr => h r (by omega) (by have := List.mem_range.mp hr; omega)
theorem tab_congr {n m : Nat} {g g' : Int → Int → Int} (h : ∀ r f : Int, 0 ≤ r → r < m → 0 ≤ f → f < n → g r f = g' r f) : tab n m g = tab n m g' :=
  List.map_congr_left fun f hf => col_congr fun r r0 r1 => h r f r0 r1 (by omega) (by have := List.mem_range.mp hf; omega)
theorem tab_get {n m : Nat} {g : Int → Int → Int} {i : Nat} (h : i < n) : (tab n m g)[i]? = some (col m g i) := by
  unfold tab
  rw [List.getElem?_map, List.getElem?_range h]
  rfl
theorem col_get {m : Nat} {g : Int → Int → Int} {f : Int} {i : Nat} (h : i < m) : (col m g f)[i]? = some (g i f) := by
  unfold col
  rw [List.getElem?_map, List.getElem?_range h]
  rfl
/-- a list is a column, by its items -/
theorem is_col {m : Nat} {g : Int → Int → Int} {f : Int} {l : List Int} (hl : l.length = m) (h : ∀ i : Nat, i < m → l[i]? = some (g i f)) : l = col m g f := by
  refine List.ext_getElem? fun i => ?_
  by_cases c : i < m
  · rw [h i c, col_get c]
  · rw [List.getElem?_eq_none (by omega), List.getElem?_eq_none (by rw [col_len]; omega)]
theorem is_tab {n m : Nat} {g : Int → Int → Int} {l : List (List Int)} (hl : l.length = n) (h : ∀ i : Nat, i < n → l[i]? = some (col m g i)) : l = tab n m g := by
  refine List.ext_getElem? fun i => ?_
  by_cases c : i < n
  · rw [h i c, tab_get c]
  · rw [List.getElem?_eq_none (by omega), List.getElem?_eq_none (by rw [tab_len]; omega)]
theorem tab_set {n m i : Nat} {g g' : Int → Int → Int} (h : i < n) : (tab n m g).set i (col m g' i) = tab n m fun r f => if f = i then g' r f else g r f := by
  refine is_tab (by simp [tab]) fun j hj => ?_
  rw [List.getElem?_set]
  by_cases e : i = j
  · subst e
    rw [if_pos rfl, if_pos (by rw [tab_len]; exact h)]
    exact congrArg some (col_congr fun r _ _ => (if_pos rfl).symm)
  · rw [if_neg e, tab_get hj]
    exact congrArg some (col_congr fun r _ _ => (if_neg (by omega)).symm)
/-- turned about by so many -/
theorem rot_col {m : Nat} {g : Int → Int → Int} {f : Int} {c : Nat} (hc : c < m) : (col m g f).drop c ++ (col m g f).take c = col m (fun r f => g ((r + c) % m) f) f := by
  refine is_col (by simp [col]; omega) fun i hi => ?_
  rw [List.getElem?_append]
  simp only [List.length_drop, col_len]
  by_cases h : i < m - c
  · rw [if_pos h, List.getElem?_drop, col_get (by omega)]
    have : ((i : Int) + c) % m = ((c + i : Nat) : Int) := by rw [Int.emod_eq_of_lt (by omega) (by omega)]; omega
    rw [this]
  · rw [if_neg h, List.getElem?_take, if_pos (by omega), col_get (by omega)]
    have : ((i : Int) + c) % m = ((i - (m - c) : Nat) : Int) := by
      rw [show ((i : Int) + c) = ((i - (m - c) : Nat) : Int) + m by omega, Int.add_emod_right, Int.emod_eq_of_lt (by omega) (by omega)]
    rw [this]
theorem col_rev {m : Nat} {g : Int → Int → Int} {f : Int} : (col m g f).reverse = col m (fun r f => g (m - 1 - r) f) f := by
  refine is_col (by simp [col]) fun i hi => ?_
  rw [List.getElem?_reverse (by rw [col_len]; exact hi), col_len, col_get (by omega)]
  rw [show ((m - 1 - i : Nat) : Int) = m - 1 - i by omega]
/-! what slices with a step pick -/
theorem pick_col {m : Nat} {g : Int → Int → Int} {f : Int} {ks : List Nat} (h : ∀ k ∈ ks, k < m) : ks.filterMap ((col m g f)[·]?) = ks.map fun k : Nat => g k f := by
  induction ks with
  | nil => rfl
  | cons k ks ih => rw [List.filterMap_cons, col_get (h k (.head _)), List.map_cons, ih fun z hz => h z (.tail _ hz)]
theorem filterMap_ints {l : List Int} {ks : List Nat} : ks.filterMap ((l.map V.int)[·]?) = (ks.filterMap (l[·]?)).map V.int := by
  induction ks with
  | nil => rfl
  | cons k ks ih =>
    rw [List.filterMap_cons, List.filterMap_cons, ih, List.getElem?_map]
    cases l[k]? <;> rfl
theorem pickV_ints {l : List Int} {lo hi st : Option Int} : pickV (l.map V.int) lo hi st = ((places l.length lo hi st).filterMap (l[·]?)).map V.int := by
  unfold pickV
  rw [List.length_map, filterMap_ints]
theorem places_up {n c : Nat} (f : Nat) (hc : 1 ≤ c) (hf : f ≤ n) : places n (some (f : Int)) none (some (c : Int)) = (List.range ((n - f + c - 1) / c)).map fun i => f + c * i := by
  unfold places sliceBounds sliceRange
  simp only [Option.getD_some]
  have h1 : (c : Int) > 0 := by omega
  have h2 : ¬ ((f : Int) < 0) := by omega
  simp only [h1, h2, if_true, if_false]
  have e1 : max (0 : Int) (min (f : Int) (n : Int)) = f := by omega
  rw [e1]
  have e2 : (if (f : Int) < n then ((n : Int) - f + c - 1) / c else 0).toNat = (n - f + c - 1) / c := by
    by_cases h : f < n
    · rw [if_pos (by omega), show ((n : Int) - f + c - 1) = ((n - f + c - 1 : Nat) : Int) by omega, ← Int.natCast_ediv, Int.toNat_natCast]
    · rw [if_neg (by omega)]
      have : n - f + c - 1 = c - 1 := by omega
      rw [this, Nat.div_eq_of_lt (by omega)]
      rfl
  rw [e2]
  refine List.map_congr_left fun i _ => ?_
  have : (f : Int) + c * i = ((f + c * i : Nat) : Int) := by simp
  rw [this, Int.toNat_natCast]
theorem places_none {n c : Nat} (hc : 1 ≤ c) : places n none none (some (c : Int)) = places n (some ((0 : Nat) : Int)) none (some (c : Int)) := by
  unfold places sliceBounds
  simp only [Option.getD_some]
  have h1 : (c : Int) > 0 := by omega
  simp only [h1, if_true]
  have : max (0 : Int) (min (if (((0 : Nat) : Int) < 0) then ((0 : Nat) : Int) + n else ((0 : Nat) : Int)) (n : Int)) = 0 := by simp; omega
  rw [this]
theorem places_back {n : Nat} (b : Nat) (hb : b < n) : places n (some (b : Int)) none (some (-1)) = (List.range (b + 1)).map fun i => b - i := by
  unfold places sliceBounds sliceRange
  simp only [Option.getD_some]
  have h1 : ¬ ((-1 : Int) > 0) := by decide
  have h2 : ¬ ((b : Int) < 0) := by omega
  simp only [h1, h2, if_false]
  have e1 : max (-1 : Int) (min (b : Int) ((n : Int) - 1)) = b := by omega
  rw [e1, if_pos (by omega), show ((b : Int) - -1 - -1 - 1) / - -1 = ((b + 1 : Nat) : Int) by rw [show - -(1 : Int) = 1 by decide, Int.ediv_one]; omega, Int.toNat_natCast]
  refine List.map_congr_left fun i hi => ?_
  have := List.mem_range.mp hi
  omega
theorem places_rev {n : Nat} (hn : 0 < n) : places n none none (some (-1)) = (List.range n).map fun i => n - 1 - i := by
  have e : places n none none (some (-1)) = places n (some ((n - 1 : Nat) : Int)) none (some (-1)) := by
    unfold places sliceBounds
    simp only [Option.getD_some]
    have h1 : ¬ ((-1 : Int) > 0) := by decide
    have h2 : ¬ (((n - 1 : Nat) : Int) < 0) := by omega
    simp only [h1, h2, if_false]
    rw [show max (-1 : Int) (min ((n - 1 : Nat) : Int) ((n : Int) - 1)) = (n : Int) - 1 by omega]
  rw [e, places_back _ (by omega), show n - 1 + 1 = n by omega]
theorem rev_any {α : Type} {xs : List α} : ((List.range xs.length).map fun i => xs.length - 1 - i).filterMap (xs[·]?) = xs.reverse := by
  have fm : ∀ (ks : List Nat), (∀ i ∈ ks, i < xs.length) → (ks.map fun i => xs.length - 1 - i).filterMap (xs[·]?) = ks.filterMap (xs.reverse[·]?) := fun ks => by
    induction ks with
    | nil => intro _; rfl
    | cons k ks ih =>
      intro h
      rw [List.map_cons, List.filterMap_cons, List.filterMap_cons, ih fun i hi => h i (.tail _ hi), List.getElem?_reverse (h k (.head _))]
  have := fm (List.range xs.length) fun i hi => List.mem_range.mp hi
  rw [this]
  refine List.ext_getElem? fun i => ?_
  have g : ∀ (l : List α) (n : Nat), n = l.length → (List.range n).filterMap (l[·]?) = l := fun l n hn => by
    subst hn
    induction l with
    | nil => rfl
    | cons x l ih =>
      rw [List.length_cons, List.range_succ_eq_map, List.filterMap_cons, List.filterMap_map]
      show x :: (List.range l.length).filterMap ((fun i => (x :: l)[i]?) ∘ Nat.succ) = _
      rw [show ((fun i => (x :: l)[i]?) ∘ Nat.succ) = (l[·]?) from rfl, ih]
  rw [g _ _ (by simp)]
theorem pick_rev {xs : List V} : pickV xs none none (some (-1)) = xs.reverse := by
  unfold pickV
  by_cases h : 0 < xs.length
  · rw [places_rev h, rev_any]
  · have : xs = [] := List.eq_nil_of_length_eq_zero (by omega)
    subst this
    rfl
end Cl
namespace Cl
open PySem PySem.Spec PyProof.Rows L2 Sx Er
/-! what a slice with a step puts -/
theorem put_out {k : Nat} : ∀ {ks : List Nat} {xs ys : List V}, k ∉ ks → (putV xs ks ys)[k]? = xs[k]?
  | [], _, _, _ => rfl
  | _ :: _, _, [], _ => rfl
  | j :: ks, xs, y :: ys, h => by
    have h' : k ≠ j ∧ k ∉ ks := ⟨fun e => h (e ▸ .head _), fun e => h (.tail _ e)⟩
    show (putV (xs.set j y) ks ys)[k]? = _
    rw [put_out h'.2, List.getElem?_set_ne (Ne.symm h'.1)]
theorem put_in {k : Nat} {y : V} : ∀ {ks : List Nat} {xs ys : List V} {j : Nat}, ks.Nodup → ks[j]? = some k → ys[j]? = some y → k < xs.length → (putV xs ks ys)[k]? = some y
  | [], _, _, j, _, h, _, _ => by simp at h
  | _ :: _, _, [], j, _, _, h, _ => by simp at h
  | i :: ks, xs, z :: ys, 0, nd, h, h', hk => by
    have nd' := List.nodup_cons.mp nd
    have e : i = k := by simpa using h
    have e' : z = y := by simpa using h'
    subst e e'
    show (putV (xs.set i z) ks ys)[i]? = _
    rw [put_out nd'.1, List.getElem?_set_self hk]
  | i :: ks, xs, z :: ys, j + 1, nd, h, h', hk => by
    have nd' := List.nodup_cons.mp nd
    show (putV (xs.set i z) ks ys)[k]? = _
    exact put_in nd'.2 (by simpa using h) (by simpa using h') (by rw [List.length_set]; exact hk)
def steps (s d c : Nat) : List Nat := (List.range c).map fun i => s + d * i
theorem steps_nodup {s d c : Nat} (hd : 0 < d) : (steps s d c).Nodup := by
  unfold steps
  refine List.pairwise_map.mpr ((List.nodup_range (n := c)).imp fun h e => h ?_)
  exact Nat.eq_of_mul_eq_mul_left hd (by omega)
theorem steps_get {s d c j : Nat} (h : j < c) : (steps s d c)[j]? = some (s + d * j) := by
  unfold steps
  rw [List.getElem?_map, List.getElem?_range h]
  rfl
theorem steps_mem {s d c k : Nat} : k ∈ steps s d c ↔ ∃ j, j < c ∧ s + d * j = k := by
  unfold steps
  simp [List.mem_map, List.mem_range]
theorem put_steps {xs ys : List V} {s d c j : Nat} {y : V} (hd : 0 < d) (hj : j < c) (hy : ys[j]? = some y) (hk : s + d * j < xs.length) : (putV xs (steps s d c) ys)[s + d * j]? = some y :=
  put_in (steps_nodup hd) (steps_get hj) hy hk
end Cl

set_option Elab.async false
set_option linter.all false
set_option maxRecDepth 100000
set_option maxHeartbeats 4000000
/-! inversions of a list, and of images of images -/
namespace Ivs
def cntLt (x : Int) (l : List Int) : Nat := (l.filter fun y => decide (y < x)).length
def ivs : List Int → Nat
  | [] => 0
  | x :: xs => cntLt x xs + ivs xs
def disc (s : Int → Int → Nat) : List Int → Nat
  | [] => 0
  | x :: xs => (xs.map (s x)).sum + disc s xs
def sgn (σ : Int → Int) (x y : Int) : Nat := if (x < y ∧ σ y < σ x) ∨ (y < x ∧ σ x < σ y) then 1 else 0
theorem perm_of {l m : List Int} (nd : l.Nodup) (hs : ∀ x ∈ l, x ∈ m) (hl : m.length ≤ l.length) : l.Perm m := by
  induction l generalizing m with
  | nil =>
    have : m = [] := List.eq_nil_of_length_eq_zero (by simpa using hl)
    rw [this]
  | cons x l ih =>
    have hx := hs x (.head _)
    have n := List.nodup_cons.mp nd
    refine List.Perm.trans (List.Perm.cons x (ih n.2 (fun y hy => ?_) ?_)) (List.perm_cons_erase hx).symm
    · exact (List.mem_erase_of_ne (fun e : y = x => n.1 (by rw [← e]; exact hy))).mpr (hs y (.tail _ hy))
    · rw [List.length_erase_of_mem hx]; simp only [List.length_cons] at hl; omega
/-- 0, 1, .. -/
def rg (n : Nat) : List Int := (List.range n).map fun i : Nat => (i : Int)
theorem mem_rg {n : Nat} {x : Int} : x ∈ rg n ↔ 0 ≤ x ∧ x < n := by
  unfold rg
  simp only [List.mem_map, List.mem_range]
  constructor
  · rintro ⟨i, hi, rfl⟩; omega
  · intro h; exact ⟨x.toNat, by omega, by omega⟩
theorem rg_length (n : Nat) : (rg n).length = n := by simp [rg]
end Ivs

set_option Elab.async false
set_option linter.all false
set_option maxRecDepth 100000
set_option maxHeartbeats 8000000
namespace My
open PySem PySem.Spec PyProof.Rows L2 Sx
local macro_rules | `(tactic| walk_at "nb") => `(tactic| first | exact NB.tup | exact NB.ints | exact NB.len (of_decide_eq_true rfl) | exact NB.at0b rfl | exact NB.at3b rfl | exact NB.ins | exact NB.own | exact NB.frz | exact NB.refs (by assumption) | assumption)
local macro_rules | `(tactic| walk_at "ne") => `(tactic| first | assumption | exact Ne.symm (by assumption) | exact ne_of_none (by assumption) (by assumption) | exact Ne.symm (ne_of_none (by assumption) (by assumption)))
local macro_rules | `(tactic| walk_at "hk") => `(tactic| first
  | assumption
  | exact upd_same
  | (refine' (upd_ne ?hkne).trans ?hkq; (case hkne => walk_at "ne"); (case hkq => walk_at "hk"))
  | (refine' Ex.kp (by assumption) _ _ ?hkq ?hkn; (case hkq => walk_at "hk"); (case hkn => walk_at "nb")))
local macro_rules | `(tactic| walk_at "rd1") => `(tactic| first
  | ((with_reducible refine' x_var ?hx ?_); (case hx => exact rfl))
  | with_reducible refine x_c ?_
  | with_reducible refine x_op ?_
  | with_reducible refine x_un ?_
  | with_reducible refine x_I0 ?_
  | with_reducible refine x_U ?_
  | ((with_reducible refine x_I ?hc ?_); (case hc => first | exact (by decide : (0 : Int) < _) | (show (0 : Int) < _; omega) | (show CMul _ _; first | exact .inl ⟨by omega, by omega⟩ | exact .inr ⟨by omega, by omega⟩) | (show CDiv _ _; exact ⟨by omega, by omega⟩) | (show CDivW _ _; exact wide_div (b := 200) (by omega) (by assumption) (by decide) (by decide)) | (show CDivW _ _; exact wide_div (b := 31) (by omega) (by omega) (by decide) (by decide))))
  | with_reducible refine x_EqI ?_
  | with_reducible refine x_NeI ?_
  | ((with_reducible refine x_EqSt ?h ?_); (case h => decide +kernel))
  | ((with_reducible refine x_EqSf ?h ?_); (case h => decide +kernel))
  | ((with_reducible refine x_NeSt ?h ?_); (case h => decide +kernel))
  | ((with_reducible refine x_NeSf ?h ?_); (case h => decide +kernel))
  | with_reducible refine x_EqS ?_
  | with_reducible refine x_NeS ?_
  | ((with_reducible refine' x_ixL ?hq ?hi ?_); (case hq => walk_at "hk"); (case hi => first | exact rfl | assumption))
  | ((with_reducible refine' x_ixT ?hq ?hi ?_); (case hq => walk_at "hk"); (case hi => first | exact rfl | assumption))
  | with_reducible refine x_chain ?_
  | with_reducible refine x_tup ?_
  | with_reducible refine x_lst ?_
  | ((with_reducible refine x_lenNew ?hl ?_); (case hl => exact Nat.le_of_ble_eq_true rfl); intro _ _ _ _ _)
  | ((with_reducible refine x_new ?_); intro _ _ _ _ _)
  | with_reducible refine x_sl ?_
  | with_reducible refine x_noPart ?_
  | with_reducible refine x_part ?_
  | with_reducible refine x_ex_int ?_
  | with_reducible refine x_ex_bl ?_
  | with_reducible refine x_ex_2 ?_
  | with_reducible refine x_test ?_
  | with_reducible refine x_B ?_
  | with_reducible refine x_and ?_
  | with_reducible refine x_or ?_
  | with_reducible refine x_not ?_
  | with_reducible refine x_andV ?_
  | with_reducible refine x_orV ?_
  | with_reducible refine x_notV ?_
  | with_reducible refine x_ifE ?_
  | with_reducible refine x_iteT ?_
  | with_reducible refine x_iteF ?_
  | ((with_reducible refine x_iteD ?_ ?_) <;> intro _)
  | ((with_reducible refine x_iteN ?_ ?_) <;> intro _)
  | with_reducible refine x_if ?_
  | with_reducible refine x_seq ?_
  | with_reducible refine x_next ?_
  | with_reducible refine x_asg ?_
  | with_reducible refine x_gName ?_
  | ((with_reducible refine' x_gTup ?hq ?hn ?_); (case hq => walk_at "hk"); (case hn => exact rfl))
  | with_reducible refine x_gCons ?_
  | with_reducible refine x_gNil ?_
  | ((with_reducible refine' x_gConsE ?h ?_); (case h => exact rfl))
  | ((with_reducible refine x_gNilE ?h ?_); (case h => exact rfl))
  | with_reducible refine x_ret ?_
  | with_reducible refine x_drop ?_
  | with_reducible refine x_par ?_
  | ((with_reducible refine' x_aug ?hx ?_); (case hx => exact rfl))
  | with_reducible refine x_ipI ?_
  | with_reducible refine x_augS ?_
  | with_reducible refine x_gSub ?_
  | ((with_reducible refine' x_setL ?hq ?hi ?_); (case hq => walk_at "hk"); (case hi => first | exact rfl | assumption))
  | with_reducible refine x_cons ?_
  | with_reducible refine x_nil ?_
  | with_reducible refine x_CB ?_
  | with_reducible refine x_abs ?_
  | with_reducible refine x_intI ?_
  | with_reducible refine x_intB ?_
  | ((with_reducible refine' x_lenL ?hq ?_); (case hq => walk_at "hk"))
  | ((with_reducible refine' x_lenT ?hq ?_); (case hq => walk_at "hk"))
  | ((with_reducible refine x_iteTe ?h ?_); (case h => exact rfl))
  | ((with_reducible refine x_iteFe ?h ?_); (case h => exact rfl))
  | walk_at "use"
  | with_reducible refine x_callS ?_
  | ((with_reducible refine x_lc ?_))
  | ((with_reducible refine x_for ?_))
  | ((with_reducible refine x_iR1 ?_))
  | ((with_reducible refine x_iL ?_))
  | ((with_reducible refine x_iZ ?_))
  | ((with_reducible refine x_yes ?_))
  | ((with_reducible refine' x_NIDt ?hq ?_); (case hq => assumption))
  | ((with_reducible refine' x_NIDf ?hq ?_); (case hq => assumption))
  | ((with_reducible refine' x_IIDf ?hq ?_); (case hq => assumption))
  | ((with_reducible refine' x_IIDt ?hq ?_); (case hq => assumption))
  | ((with_reducible refine' x_ixDs ?hd ?hq ?_); (case hd => assumption); (case hq => assumption))
  | ((with_reducible refine x_InSt ?h ?_); (case h => decide +kernel))
  | ((with_reducible refine x_InSf ?h ?_); (case h => decide +kernel))
  | ((with_reducible refine' x_notInI ?hq ?_); (case hq => walk_at "hk"))
  | ((with_reducible refine' x_inTt ?hq ?hv ?ha ?he ?_); (case hq => walk_at "hk"); (case hv => exact rfl); (case ha => exact rfl); (case he => decide +kernel))
  | ((with_reducible refine' x_inTf ?hq ?hv ?ha ?he ?_); (case hq => walk_at "hk"); (case hv => exact rfl); (case ha => exact rfl); (case he => decide +kernel))
  | ((with_reducible refine' x_slT ?hq ?hw ?_); (case hq => walk_at "hk"); (case hw => with_unfolding_all exact of_decide_eq_true rfl))
  | ((with_reducible refine' x_slL ?hq ?_); (case hq => walk_at "hk"))
  | ((with_reducible refine' x_catT ?hq ?hr ?n1 ?n2 ?hl ?_); (case hq => walk_at "hk"); (case hr => walk_at "hk"); (case n1 => exact List.cons_ne_nil _ _); (case n2 => exact List.cons_ne_nil _ _); (case hl => exact Nat.le_of_ble_eq_true rfl))
  | ((with_reducible refine x_bm ?_))
  | ((with_reducible refine x_lstRg ?_))
  | ((with_reducible refine x_rg1 ?_))
  | ((with_reducible refine And.intro ?h ?_); (case h => exact tyL (by assumption)))
  | dsimp only)
local macro_rules | `(tactic| walk_at "use") => `(tactic| fail)
local macro_rules | `(tactic| walk_at "rd") => `(tactic| repeat' (walk_at "rd1"))
local macro_rules | `(tactic| walk_at "ex") => `(tactic| first | exact Ex.refl _ | assumption | (refine' Ex.trans ?he (by assumption); (case he => walk_at "ex")))

def top (i : Nat) : Stmt := PySem.Challenge.pw_pupilpairs_k86_arrangements_behind_calls.main.body.getD i (.Pass ⟨0, 0, 0, 0⟩)
abbrev s_is_integer : Stmt := top 6
theorem sc_is_integer : FnScope ["thing"] ["thing"] (defScope s_is_integer) := ⟨rfl, rfl, rfl, by decide +kernel, rfl, by decide +kernel, by decide +kernel⟩
abbrev s_is_files : Stmt := top 7
theorem sc_is_files : FnScope ["thing"] ["thing"] (defScope s_is_files) := ⟨rfl, rfl, rfl, by decide +kernel, rfl, by decide +kernel, by decide +kernel⟩
abbrev s_is_index : Stmt := top 8
theorem sc_is_index : FnScope ["thing", "many"] ["thing", "many"] (defScope s_is_index) := ⟨rfl, rfl, rfl, by decide +kernel, rfl, by decide +kernel, by decide +kernel⟩
abbrev s_is_part : Stmt := top 12
theorem sc_is_part : FnScope ["files", "part", "item"] ["files", "part", "item"] (defScope s_is_part) := ⟨rfl, rfl, rfl, by decide +kernel, rfl, by decide +kernel, by decide +kernel⟩
abbrev s_is_call : Stmt := top 13
theorem sc_is_call : FnScope ["files", "thing", "word", "parts", "named", "part", "item"] ["files", "thing"] (defScope s_is_call) := ⟨rfl, rfl, rfl, by decide +kernel, rfl, by decide +kernel, by decide +kernel⟩
abbrev s_turned : Stmt := top 14
abbrev s_files_of : Stmt := top 15
theorem sc_files_of : FnScope ["call", "part", "item"] ["call"] (defScope s_files_of) := ⟨rfl, rfl, rfl, by decide +kernel, rfl, by decide +kernel, by decide +kernel⟩
abbrev s_behind_all : Stmt := top 19
theorem sc_behind_all : FnScope ["columns", "call", "cut", "column"] ["columns", "call"] (defScope s_behind_all) := ⟨rfl, rfl, rfl, by decide +kernel, rfl, by decide +kernel, by decide +kernel⟩
abbrev s_behind_up : Stmt := top 20
theorem sc_behind_up : FnScope ["columns", "call", "told", "column", "cut"] ["columns", "call"] (defScope s_behind_up) := ⟨rfl, rfl, rfl, by decide +kernel, rfl, by decide +kernel, by decide +kernel⟩
abbrev s_behind_swap : Stmt := top 21
theorem sc_behind_swap : FnScope ["columns", "call", "f", "g", "told"] ["columns", "call"] (defScope s_behind_swap) := ⟨rfl, rfl, rfl, by decide +kernel, rfl, by decide +kernel, by decide +kernel⟩
abbrev s_behind_wheel : Stmt := top 22
theorem sc_behind_wheel : FnScope ["columns", "call", "f", "g", "k", "told", "rows", "ring", "cut"] ["columns", "call"] (defScope s_behind_wheel) := ⟨rfl, rfl, rfl, by decide +kernel, rfl, by decide +kernel, by decide +kernel⟩
abbrev s_behind_about : Stmt := top 23
theorem sc_behind_about : FnScope ["columns", "call", "column"] ["columns", "call"] (defScope s_behind_about) := ⟨rfl, rfl, rfl, by decide +kernel, rfl, by decide +kernel, by decide +kernel⟩
abbrev s_behind_front : Stmt := top 24
theorem sc_behind_front : FnScope ["columns", "call", "f", "g", "told"] ["columns", "call"] (defScope s_behind_front) := ⟨rfl, rfl, rfl, by decide +kernel, rfl, by decide +kernel, by decide +kernel⟩
abbrev s_behind_halve : Stmt := top 25
theorem sc_behind_halve : FnScope ["columns", "call", "order", "rows", "begin"] ["columns", "call"] (defScope s_behind_halve) := ⟨rfl, rfl, rfl, by decide +kernel, rfl, by decide +kernel, by decide +kernel⟩
abbrev s_behind_pair : Stmt := top 26
theorem sc_behind_pair : FnScope ["columns", "call", "column", "pupil"] ["columns", "call"] (defScope s_behind_pair) := ⟨rfl, rfl, rfl, by decide +kernel, rfl, by decide +kernel, by decide +kernel⟩
abbrev s_behind_others : Stmt := top 27
theorem sc_behind_others : FnScope ["columns", "call", "column"] ["columns", "call"] (defScope s_behind_others) := ⟨rfl, rfl, rfl, by decide +kernel, rfl, by decide +kernel, by decide +kernel⟩
abbrev s_behind_fill : Stmt := top 28
theorem sc_behind_fill : FnScope ["columns", "call", "evens", "told", "file", "column"] ["columns", "call"] (defScope s_behind_fill) := ⟨rfl, rfl, rfl, by decide +kernel, rfl, by decide +kernel, by decide +kernel⟩
abbrev s_columns_led : Stmt := top 30
theorem sc_columns_led : FnScope ["columns", "calls", "call", "action"] ["columns", "calls"] (defScope s_columns_led) := ⟨rfl, rfl, rfl, by decide +kernel, rfl, by decide +kernel, by decide +kernel⟩
abbrev s_columns_of : Stmt := top 31
theorem sc_columns_of : FnScope ["order", "files", "file"] ["order", "files"] (defScope s_columns_of) := ⟨rfl, rfl, rfl, by decide +kernel, rfl, by decide +kernel, by decide +kernel⟩
abbrev s_order_of : Stmt := top 32
theorem sc_order_of : FnScope ["columns", "files", "told", "file"] ["columns"] (defScope s_order_of) := ⟨rfl, rfl, rfl, by decide +kernel, rfl, by decide +kernel, by decide +kernel⟩
abbrev s_first_columns : Stmt := top 33
theorem sc_first_columns : FnScope ["files", "rows"] ["files", "rows"] (defScope s_first_columns) := ⟨rfl, rfl, rfl, by decide +kernel, rfl, by decide +kernel, by decide +kernel⟩
abbrev s_order_behind : Stmt := top 34
theorem sc_order_behind : FnScope ["script", "rows"] ["script", "rows"] (defScope s_order_behind) := ⟨rfl, rfl, rfl, by decide +kernel, rfl, by decide +kernel, by decide +kernel⟩
abbrev s_arranged : Stmt := top 36
theorem sc_arranged : FnScope ["files", "rows", "calls"] ["files", "rows", "calls"] (defScope s_arranged) := ⟨rfl, rfl, rfl, by decide +kernel, rfl, by decide +kernel, by decide +kernel⟩
abbrev s_Lbag : Stmt := top 38
theorem sc_Lbag : FnScope ["_law_script", "_law_cell"] ["_law_script"] (defScope s_Lbag) := ⟨rfl, rfl, rfl, by decide +kernel, rfl, by decide +kernel, by decide +kernel⟩
abbrev s_Ltake : Stmt := top 39
theorem sc_Ltake : FnScope ["_law_bag_here", "_law_upto", "_law_cell", "_law_mixed_here", "_law_drawn", "_law_begin", "_law_second"] ["_law_bag_here", "_law_upto"] (defScope s_Ltake) := ⟨rfl, rfl, rfl, by decide +kernel, rfl, by decide +kernel, by decide +kernel⟩
abbrev s_Lone : Stmt := top 40
theorem sc_Lone : FnScope ["_law_bag_here", "_law_some"] ["_law_bag_here", "_law_some"] (defScope s_Lone) := ⟨rfl, rfl, rfl, by decide +kernel, rfl, by decide +kernel, by decide +kernel⟩
abbrev s_Lmixed : Stmt := top 41
theorem sc_Lmixed : FnScope ["_law_bag_here", "_law_things", "_law_found", "_law_thing"] ["_law_bag_here", "_law_things"] (defScope s_Lmixed) := ⟨rfl, rfl, rfl, by decide +kernel, rfl, by decide +kernel, by decide +kernel⟩
abbrev s_Lalike : Stmt := top 42
theorem sc_Lalike : FnScope ["_law_found", "_law_due"] ["_law_found", "_law_due"] (defScope s_Lalike) := ⟨rfl, rfl, rfl, by decide +kernel, rfl, by decide +kernel, by decide +kernel⟩
abbrev s_Lcall : Stmt := top 43
theorem sc_Lcall : FnScope ["_law_bag_here", "_law_files", "_law_kinds", "_law_most", "_law_word", "_law_pair", "_law_k"] ["_law_bag_here", "_law_files", "_law_kinds", "_law_most"] (defScope s_Lcall) := ⟨rfl, rfl, rfl, by decide +kernel, rfl, by decide +kernel, by decide +kernel⟩
abbrev s_Lopen : Stmt := top 44
theorem sc_Lopen : FnScope ["_law_word", "_law_files", "_law_rows", "_law_place", "_law_number", "_law_half", "_law_back", "_law_odd", "_law_late"] ["_law_word", "_law_files", "_law_rows", "_law_place"] (defScope s_Lopen) := ⟨rfl, rfl, rfl, by decide +kernel, rfl, by decide +kernel, by decide +kernel⟩
abbrev s_Lgoes : Stmt := top 45
theorem sc_Lgoes : FnScope ["_law_call_here", "_law_files", "_law_rows", "_law_place", "_law_word", "_law_row", "_law_file", "_law_seat"] ["_law_call_here", "_law_files", "_law_rows", "_law_place"] (defScope s_Lgoes) := ⟨rfl, rfl, rfl, by decide +kernel, rfl, by decide +kernel, by decide +kernel⟩
abbrev s_Lundo : Stmt := top 46
theorem sc_Lundo : FnScope ["_law_calls", "_law_words", "_law_found", "_law_call_here"] ["_law_calls"] (defScope s_Lundo) := ⟨rfl, rfl, rfl, by decide +kernel, rfl, by decide +kernel, by decide +kernel⟩
abbrev s_Lsmall : Stmt := top 47
theorem sc_Lsmall : FnScope ["_law_bag_here", "_law_files", "_law_rows", "_law_kinds", "_law_found", "_law_k", "_law_call_here"] ["_law_bag_here"] (defScope s_Lsmall) := ⟨rfl, rfl, rfl, by decide +kernel, rfl, by decide +kernel, by decide +kernel⟩
abbrev s_Ldone : Stmt := top 48
theorem sc_Ldone : FnScope ["_law_files", "_law_rows", "_law_arrangement", "_law_call_here", "_law_found", "_law_number", "_law_row", "_law_file"] ["_law_files", "_law_rows", "_law_arrangement", "_law_call_here"] (defScope s_Ldone) := ⟨rfl, rfl, rfl, by decide +kernel, rfl, by decide +kernel, by decide +kernel⟩
abbrev s_law : Stmt := top 49
theorem sc_law : FnScope ["_law_script", "_law_bag_here", "_law_turn", "_law_files", "_law_rows", "_law_menu", "_law_calls", "_law_due", "_law_call_here", "_law_given", "_law_k"] ["_law_script"] (defScope s_law) := ⟨rfl, rfl, rfl, by decide +kernel, rfl, by decide +kernel, by decide +kernel⟩
abbrev s_Script_init : Stmt := inClass (top 17) 0
theorem sc_Script_init : FnScope ["self", "files", "calls", "call"] ["self", "files", "calls"] (defScope s_Script_init) := ⟨rfl, rfl, rfl, by decide +kernel, rfl, by decide +kernel, by decide +kernel⟩
abbrev s_Script_len : Stmt := inClass (top 17) 2
abbrev s_Script_iter : Stmt := inClass (top 17) 3
abbrev s_Script_files : Stmt := inClass (top 17) 6
theorem sc_Script_files : FnScope ["self"] ["self"] (defScope s_Script_files) := ⟨rfl, rfl, rfl, by decide +kernel, rfl, by decide +kernel, by decide +kernel⟩
abbrev s_Script_calls : Stmt := inClass (top 17) 8
theorem sc_Script_calls : FnScope ["self"] ["self"] (defScope s_Script_calls) := ⟨rfl, rfl, rfl, by decide +kernel, rfl, by decide +kernel, by decide +kernel⟩
structure Ad where
  a_is_integer : Addr
  fd_is_integer : FuncData
  a_is_files : Addr
  fd_is_files : FuncData
  a_is_index : Addr
  fd_is_index : FuncData
  a_is_part : Addr
  fd_is_part : FuncData
  a_is_call : Addr
  fd_is_call : FuncData
  a_turned : Addr
  fd_turned : FuncData
  a_files_of : Addr
  fd_files_of : FuncData
  a_behind_all : Addr
  fd_behind_all : FuncData
  a_behind_up : Addr
  fd_behind_up : FuncData
  a_behind_swap : Addr
  fd_behind_swap : FuncData
  a_behind_wheel : Addr
  fd_behind_wheel : FuncData
  a_behind_about : Addr
  fd_behind_about : FuncData
  a_behind_front : Addr
  fd_behind_front : FuncData
  a_behind_halve : Addr
  fd_behind_halve : FuncData
  a_behind_pair : Addr
  fd_behind_pair : FuncData
  a_behind_others : Addr
  fd_behind_others : FuncData
  a_behind_fill : Addr
  fd_behind_fill : FuncData
  a_columns_led : Addr
  fd_columns_led : FuncData
  a_columns_of : Addr
  fd_columns_of : FuncData
  a_order_of : Addr
  fd_order_of : FuncData
  a_first_columns : Addr
  fd_first_columns : FuncData
  a_order_behind : Addr
  fd_order_behind : FuncData
  a_arranged : Addr
  fd_arranged : FuncData
  a_Lbag : Addr
  fd_Lbag : FuncData
  a_Ltake : Addr
  fd_Ltake : FuncData
  a_Lone : Addr
  fd_Lone : FuncData
  a_Lmixed : Addr
  fd_Lmixed : FuncData
  a_Lalike : Addr
  fd_Lalike : FuncData
  a_Lcall : Addr
  fd_Lcall : FuncData
  a_Lopen : Addr
  fd_Lopen : FuncData
  a_Lgoes : Addr
  fd_Lgoes : FuncData
  a_Lundo : Addr
  fd_Lundo : FuncData
  a_Lsmall : Addr
  fd_Lsmall : FuncData
  a_Ldone : Addr
  fd_Ldone : FuncData
  a_law : Addr
  fd_law : FuncData
  a_Script_init : Addr
  fd_Script_init : FuncData
  a_Script_len : Addr
  fd_Script_len : FuncData
  a_Script_iter : Addr
  fd_Script_iter : FuncData
  a_Script_files : Addr
  fd_Script_files : FuncData
  a_Script_calls : Addr
  fd_Script_calls : FuncData
  c_Script : Addr
  p_Script_files : Addr
  d_PARTS : Addr
  es_PARTS : Array DictEntry
  n_PARTS : Nat
  d_UNDOING : Addr
  es_UNDOING : Array DictEntry
  n_UNDOING : Nat
  d_ACTIONS : Addr
  es_ACTIONS : Array DictEntry
  n_ACTIONS : Nat
structure Txt (K : PySem.W.Frag) (w : World) (mg : Str → Option Value) (a : Ad) : Prop where
  m_is_integer : mg "is_integer" = some (.ref a.a_is_integer)
  F_is_integer : Fun K "is_integer" "is_integer" s_is_integer a.a_is_integer a.fd_is_integer
  k_is_integer : PySem.W.keepIn K (.ref a.a_is_integer) = true
  b_is_integer : Binds K a.fd_is_integer ["thing"] []
  m_is_files : mg "is_files" = some (.ref a.a_is_files)
  F_is_files : Fun K "is_files" "is_files" s_is_files a.a_is_files a.fd_is_files
  k_is_files : PySem.W.keepIn K (.ref a.a_is_files) = true
  b_is_files : Binds K a.fd_is_files ["thing"] []
  m_is_index : mg "is_index" = some (.ref a.a_is_index)
  F_is_index : Fun K "is_index" "is_index" s_is_index a.a_is_index a.fd_is_index
  k_is_index : PySem.W.keepIn K (.ref a.a_is_index) = true
  b_is_index : Binds K a.fd_is_index ["thing", "many"] []
  m_is_part : mg "is_part" = some (.ref a.a_is_part)
  F_is_part : Fun K "is_part" "is_part" s_is_part a.a_is_part a.fd_is_part
  k_is_part : PySem.W.keepIn K (.ref a.a_is_part) = true
  b_is_part : Binds K a.fd_is_part ["files", "part", "item"] []
  m_is_call : mg "is_call" = some (.ref a.a_is_call)
  F_is_call : Fun K "is_call" "is_call" s_is_call a.a_is_call a.fd_is_call
  k_is_call : PySem.W.keepIn K (.ref a.a_is_call) = true
  b_is_call : Binds K a.fd_is_call ["files", "thing"] []
  m_turned : mg "turned" = some (.ref a.a_turned)
  F_turned : Fun K "turned" "turned" s_turned a.a_turned a.fd_turned
  k_turned : PySem.W.keepIn K (.ref a.a_turned) = true
  b_turned : Binds K a.fd_turned ["call"] []
  m_files_of : mg "files_of" = some (.ref a.a_files_of)
  F_files_of : Fun K "files_of" "files_of" s_files_of a.a_files_of a.fd_files_of
  k_files_of : PySem.W.keepIn K (.ref a.a_files_of) = true
  b_files_of : Binds K a.fd_files_of ["call"] []
  m_behind_all : mg "behind_all" = some (.ref a.a_behind_all)
  F_behind_all : Fun K "behind_all" "behind_all" s_behind_all a.a_behind_all a.fd_behind_all
  k_behind_all : PySem.W.keepIn K (.ref a.a_behind_all) = true
  b_behind_all : Binds K a.fd_behind_all ["columns", "call"] []
  m_behind_up : mg "behind_up" = some (.ref a.a_behind_up)
  F_behind_up : Fun K "behind_up" "behind_up" s_behind_up a.a_behind_up a.fd_behind_up
  k_behind_up : PySem.W.keepIn K (.ref a.a_behind_up) = true
  b_behind_up : Binds K a.fd_behind_up ["columns", "call"] []
  m_behind_swap : mg "behind_swap" = some (.ref a.a_behind_swap)
  F_behind_swap : Fun K "behind_swap" "behind_swap" s_behind_swap a.a_behind_swap a.fd_behind_swap
  k_behind_swap : PySem.W.keepIn K (.ref a.a_behind_swap) = true
  b_behind_swap : Binds K a.fd_behind_swap ["columns", "call"] []
  m_behind_wheel : mg "behind_wheel" = some (.ref a.a_behind_wheel)
  F_behind_wheel : Fun K "behind_wheel" "behind_wheel" s_behind_wheel a.a_behind_wheel a.fd_behind_wheel
  k_behind_wheel : PySem.W.keepIn K (.ref a.a_behind_wheel) = true
  b_behind_wheel : Binds K a.fd_behind_wheel ["columns", "call"] []
  m_behind_about : mg "behind_about" = some (.ref a.a_behind_about)
  F_behind_about : Fun K "behind_about" "behind_about" s_behind_about a.a_behind_about a.fd_behind_about
  k_behind_about : PySem.W.keepIn K (.ref a.a_behind_about) = true
  b_behind_about : Binds K a.fd_behind_about ["columns", "call"] []
  m_behind_front : mg "behind_front" = some (.ref a.a_behind_front)
  F_behind_front : Fun K "behind_front" "behind_front" s_behind_front a.a_behind_front a.fd_behind_front
  k_behind_front : PySem.W.keepIn K (.ref a.a_behind_front) = true
  b_behind_front : Binds K a.fd_behind_front ["columns", "call"] []
  m_behind_halve : mg "behind_halve" = some (.ref a.a_behind_halve)
  F_behind_halve : Fun K "behind_halve" "behind_halve" s_behind_halve a.a_behind_halve a.fd_behind_halve
  k_behind_halve : PySem.W.keepIn K (.ref a.a_behind_halve) = true
  b_behind_halve : Binds K a.fd_behind_halve ["columns", "call"] []
  m_behind_pair : mg "behind_pair" = some (.ref a.a_behind_pair)
  F_behind_pair : Fun K "behind_pair" "behind_pair" s_behind_pair a.a_behind_pair a.fd_behind_pair
  k_behind_pair : PySem.W.keepIn K (.ref a.a_behind_pair) = true
  b_behind_pair : Binds K a.fd_behind_pair ["columns", "call"] []
  m_behind_others : mg "behind_others" = some (.ref a.a_behind_others)
  F_behind_others : Fun K "behind_others" "behind_others" s_behind_others a.a_behind_others a.fd_behind_others
  k_behind_others : PySem.W.keepIn K (.ref a.a_behind_others) = true
  b_behind_others : Binds K a.fd_behind_others ["columns", "call"] []
  m_behind_fill : mg "behind_fill" = some (.ref a.a_behind_fill)
  F_behind_fill : Fun K "behind_fill" "behind_fill" s_behind_fill a.a_behind_fill a.fd_behind_fill
  k_behind_fill : PySem.W.keepIn K (.ref a.a_behind_fill) = true
  b_behind_fill : Binds K a.fd_behind_fill ["columns", "call"] []
  m_columns_led : mg "columns_led" = some (.ref a.a_columns_led)
  F_columns_led : Fun K "columns_led" "columns_led" s_columns_led a.a_columns_led a.fd_columns_led
  k_columns_led : PySem.W.keepIn K (.ref a.a_columns_led) = true
  b_columns_led : Binds K a.fd_columns_led ["columns", "calls"] []
  m_columns_of : mg "columns_of" = some (.ref a.a_columns_of)
  F_columns_of : Fun K "columns_of" "columns_of" s_columns_of a.a_columns_of a.fd_columns_of
  k_columns_of : PySem.W.keepIn K (.ref a.a_columns_of) = true
  b_columns_of : Binds K a.fd_columns_of ["order", "files"] []
  m_order_of : mg "order_of" = some (.ref a.a_order_of)
  F_order_of : Fun K "order_of" "order_of" s_order_of a.a_order_of a.fd_order_of
  k_order_of : PySem.W.keepIn K (.ref a.a_order_of) = true
  b_order_of : Binds K a.fd_order_of ["columns"] []
  m_first_columns : mg "first_columns" = some (.ref a.a_first_columns)
  F_first_columns : Fun K "first_columns" "first_columns" s_first_columns a.a_first_columns a.fd_first_columns
  k_first_columns : PySem.W.keepIn K (.ref a.a_first_columns) = true
  b_first_columns : Binds K a.fd_first_columns ["files", "rows"] []
  m_order_behind : mg "order_behind" = some (.ref a.a_order_behind)
  F_order_behind : Fun K "order_behind" "order_behind" s_order_behind a.a_order_behind a.fd_order_behind
  k_order_behind : PySem.W.keepIn K (.ref a.a_order_behind) = true
  b_order_behind : Binds K a.fd_order_behind ["script", "rows"] []
  m_arranged : mg "arranged" = some (.ref a.a_arranged)
  F_arranged : Fun K "arranged" "arranged" s_arranged a.a_arranged a.fd_arranged
  k_arranged : PySem.W.keepIn K (.ref a.a_arranged) = true
  b_arranged : Binds K a.fd_arranged ["files", "rows", "calls"] []
  m_Lbag : mg "_law_bag" = some (.ref a.a_Lbag)
  F_Lbag : Fun K "_law_bag" "_law_bag" s_Lbag a.a_Lbag a.fd_Lbag
  k_Lbag : PySem.W.keepIn K (.ref a.a_Lbag) = true
  b_Lbag : Binds K a.fd_Lbag ["_law_script"] []
  m_Ltake : mg "_law_take" = some (.ref a.a_Ltake)
  F_Ltake : Fun K "_law_take" "_law_take" s_Ltake a.a_Ltake a.fd_Ltake
  k_Ltake : PySem.W.keepIn K (.ref a.a_Ltake) = true
  b_Ltake : Binds K a.fd_Ltake ["_law_bag_here", "_law_upto"] []
  m_Lone : mg "_law_one" = some (.ref a.a_Lone)
  F_Lone : Fun K "_law_one" "_law_one" s_Lone a.a_Lone a.fd_Lone
  k_Lone : PySem.W.keepIn K (.ref a.a_Lone) = true
  b_Lone : Binds K a.fd_Lone ["_law_bag_here", "_law_some"] []
  m_Lmixed : mg "_law_mixed" = some (.ref a.a_Lmixed)
  F_Lmixed : Fun K "_law_mixed" "_law_mixed" s_Lmixed a.a_Lmixed a.fd_Lmixed
  k_Lmixed : PySem.W.keepIn K (.ref a.a_Lmixed) = true
  b_Lmixed : Binds K a.fd_Lmixed ["_law_bag_here", "_law_things"] []
  m_Lalike : mg "_law_alike" = some (.ref a.a_Lalike)
  F_Lalike : Fun K "_law_alike" "_law_alike" s_Lalike a.a_Lalike a.fd_Lalike
  k_Lalike : PySem.W.keepIn K (.ref a.a_Lalike) = true
  b_Lalike : Binds K a.fd_Lalike ["_law_found", "_law_due"] []
  m_Lcall : mg "_law_call" = some (.ref a.a_Lcall)
  F_Lcall : Fun K "_law_call" "_law_call" s_Lcall a.a_Lcall a.fd_Lcall
  k_Lcall : PySem.W.keepIn K (.ref a.a_Lcall) = true
  b_Lcall : Binds K a.fd_Lcall ["_law_bag_here", "_law_files", "_law_kinds", "_law_most"] []
  m_Lopen : mg "_law_open" = some (.ref a.a_Lopen)
  F_Lopen : Fun K "_law_open" "_law_open" s_Lopen a.a_Lopen a.fd_Lopen
  k_Lopen : PySem.W.keepIn K (.ref a.a_Lopen) = true
  b_Lopen : Binds K a.fd_Lopen ["_law_word", "_law_files", "_law_rows", "_law_place"] []
  m_Lgoes : mg "_law_goes" = some (.ref a.a_Lgoes)
  F_Lgoes : Fun K "_law_goes" "_law_goes" s_Lgoes a.a_Lgoes a.fd_Lgoes
  k_Lgoes : PySem.W.keepIn K (.ref a.a_Lgoes) = true
  b_Lgoes : Binds K a.fd_Lgoes ["_law_call_here", "_law_files", "_law_rows", "_law_place"] []
  m_Lundo : mg "_law_undo" = some (.ref a.a_Lundo)
  F_Lundo : Fun K "_law_undo" "_law_undo" s_Lundo a.a_Lundo a.fd_Lundo
  k_Lundo : PySem.W.keepIn K (.ref a.a_Lundo) = true
  b_Lundo : Binds K a.fd_Lundo ["_law_calls"] []
  m_Lsmall : mg "_law_small" = some (.ref a.a_Lsmall)
  F_Lsmall : Fun K "_law_small" "_law_small" s_Lsmall a.a_Lsmall a.fd_Lsmall
  k_Lsmall : PySem.W.keepIn K (.ref a.a_Lsmall) = true
  b_Lsmall : Binds K a.fd_Lsmall ["_law_bag_here"] []
  m_Ldone : mg "_law_done" = some (.ref a.a_Ldone)
  F_Ldone : Fun K "_law_done" "_law_done" s_Ldone a.a_Ldone a.fd_Ldone
  k_Ldone : PySem.W.keepIn K (.ref a.a_Ldone) = true
  b_Ldone : Binds K a.fd_Ldone ["_law_files", "_law_rows", "_law_arrangement", "_law_call_here"] []
  m_law : mg "law" = some (.ref a.a_law)
  F_law : Fun K "law" "law" s_law a.a_law a.fd_law
  k_law : PySem.W.keepIn K (.ref a.a_law) = true
  b_law : Binds K a.fd_law ["_law_script"] []
  F_Script_init : Fun K "__init__" "Script.__init__" s_Script_init a.a_Script_init a.fd_Script_init
  k_Script_init : PySem.W.keepIn K (.ref a.a_Script_init) = true
  b_Script_init : Binds K a.fd_Script_init ["self", "files", "calls"] []
  F_Script_len : Fun K "__len__" "Script.__len__" s_Script_len a.a_Script_len a.fd_Script_len
  k_Script_len : PySem.W.keepIn K (.ref a.a_Script_len) = true
  b_Script_len : Binds K a.fd_Script_len ["self"] []
  F_Script_iter : Fun K "__iter__" "Script.__iter__" s_Script_iter a.a_Script_iter a.fd_Script_iter
  k_Script_iter : PySem.W.keepIn K (.ref a.a_Script_iter) = true
  b_Script_iter : Binds K a.fd_Script_iter ["self"] []
  F_Script_files : Fun K "files" "Script.files" s_Script_files a.a_Script_files a.fd_Script_files
  k_Script_files : PySem.W.keepIn K (.ref a.a_Script_files) = true
  b_Script_files : Binds K a.fd_Script_files ["self"] []
  F_Script_calls : Fun K "calls" "Script.calls" s_Script_calls a.a_Script_calls a.fd_Script_calls
  k_Script_calls : PySem.W.keepIn K (.ref a.a_Script_calls) = true
  b_Script_calls : Binds K a.fd_Script_calls ["self"] []
  m_Script : mg "Script" = some (.ref a.c_Script)
  t_Script : ClsT K a.c_Script
  X_Script : Ow.ClsX K a.c_Script
  Q_Script_len : Meth K a.c_Script "__len__" a.a_Script_len
  Q_Script_iter : Meth K a.c_Script "__iter__" a.a_Script_iter
  Q_Script_calls : Meth K a.c_Script "calls" a.a_Script_calls
  P_Script_files : PropOf K a.c_Script "files" a.p_Script_files a.a_Script_files
  M_Script : Mk K a.c_Script a.a_Script_init
  A_Script_width : NoAttr K a.c_Script "width"
  A_Script_held : NoAttr K a.c_Script "held"
  g_PARTS : mg "PARTS" = some (.ref a.d_PARTS)
  d_PARTS : KDict K w a.d_PARTS a.es_PARTS a.n_PARTS
  v_PARTS_all : ∃ t, PySem.W.nsIn K a.d_PARTS "all" = some (some (.str "k" t))
  v_PARTS_up : ∃ t, PySem.W.nsIn K a.d_PARTS "up" = some (some (.str "fk" t))
  v_PARTS_swap : ∃ t, PySem.W.nsIn K a.d_PARTS "swap" = some (some (.str "ff" t))
  v_PARTS_wheel : ∃ t, PySem.W.nsIn K a.d_PARTS "wheel" = some (some (.str "ffk" t))
  v_PARTS_about : ∃ t, PySem.W.nsIn K a.d_PARTS "about" = some (some (.str "" t))
  v_PARTS_front : ∃ t, PySem.W.nsIn K a.d_PARTS "front" = some (some (.str "ff" t))
  v_PARTS_halve : ∃ t, PySem.W.nsIn K a.d_PARTS "halve" = some (some (.str "" t))
  v_PARTS_pair : ∃ t, PySem.W.nsIn K a.d_PARTS "pair" = some (some (.str "" t))
  v_PARTS_others : ∃ t, PySem.W.nsIn K a.d_PARTS "others" = some (some (.str "" t))
  v_PARTS_fill : ∃ t, PySem.W.nsIn K a.d_PARTS "fill" = some (some (.str "" t))
  g_UNDOING : mg "UNDOING" = some (.ref a.d_UNDOING)
  d_UNDOING : KDict K w a.d_UNDOING a.es_UNDOING a.n_UNDOING
  v_UNDOING_halve : ∃ t, PySem.W.nsIn K a.d_UNDOING "halve" = some (some (.str "pair" t))
  v_UNDOING_pair : ∃ t, PySem.W.nsIn K a.d_UNDOING "pair" = some (some (.str "halve" t))
  v_UNDOING_others : ∃ t, PySem.W.nsIn K a.d_UNDOING "others" = some (some (.str "fill" t))
  v_UNDOING_fill : ∃ t, PySem.W.nsIn K a.d_UNDOING "fill" = some (some (.str "others" t))
  o_UNDOING_all : PySem.W.nsIn K a.d_UNDOING "all" = some none
  o_UNDOING_up : PySem.W.nsIn K a.d_UNDOING "up" = some none
  o_UNDOING_swap : PySem.W.nsIn K a.d_UNDOING "swap" = some none
  o_UNDOING_wheel : PySem.W.nsIn K a.d_UNDOING "wheel" = some none
  o_UNDOING_about : PySem.W.nsIn K a.d_UNDOING "about" = some none
  o_UNDOING_front : PySem.W.nsIn K a.d_UNDOING "front" = some none
  g_ACTIONS : mg "ACTIONS" = some (.ref a.d_ACTIONS)
  d_ACTIONS : KDict K w a.d_ACTIONS a.es_ACTIONS a.n_ACTIONS
  v_ACTIONS_all : PySem.W.nsIn K a.d_ACTIONS "all" = some (some (.ref a.a_behind_all))
  v_ACTIONS_up : PySem.W.nsIn K a.d_ACTIONS "up" = some (some (.ref a.a_behind_up))
  v_ACTIONS_swap : PySem.W.nsIn K a.d_ACTIONS "swap" = some (some (.ref a.a_behind_swap))
  v_ACTIONS_wheel : PySem.W.nsIn K a.d_ACTIONS "wheel" = some (some (.ref a.a_behind_wheel))
  v_ACTIONS_about : PySem.W.nsIn K a.d_ACTIONS "about" = some (some (.ref a.a_behind_about))
  v_ACTIONS_front : PySem.W.nsIn K a.d_ACTIONS "front" = some (some (.ref a.a_behind_front))
  v_ACTIONS_halve : PySem.W.nsIn K a.d_ACTIONS "halve" = some (some (.ref a.a_behind_halve))
  v_ACTIONS_pair : PySem.W.nsIn K a.d_ACTIONS "pair" = some (some (.ref a.a_behind_pair))
  v_ACTIONS_others : PySem.W.nsIn K a.d_ACTIONS "others" = some (some (.ref a.a_behind_others))
  v_ACTIONS_fill : PySem.W.nsIn K a.d_ACTIONS "fill" = some (some (.ref a.a_behind_fill))
  n_len : mg "len" = none
  n_abs : mg "abs" = none
  n_int : mg "int" = none
  n_sorted : mg "sorted" = none
  n_list : mg "list" = none
  n_tuple : mg "tuple" = none
  n_range : mg "range" = none
  n_zip : mg "zip" = none
  n_all : mg "all" = none
  n_set : mg "set" = none
  n_isinstance : mg "isinstance" = none
  n_str : mg "str" = none
  n_bool : mg "bool" = none
  n_repr : mg "repr" = none
  n_reversed : mg "reversed" = none
  n_iter : mg "iter" = none
  n_ValueError : mg "ValueError" = none
/-- a call -/
inductive C where
  | all (k : Int) | up (f k : Int) | swap (f g : Int) | wheel (f g k : Int) | about | front (f g : Int) | halve | pair | others | fill
def C.vals : C → List V
  | .all k => [.str "all", .int k]
  | .up f k => [.str "up", .int f, .int k]
  | .swap f g => [.str "swap", .int f, .int g]
  | .wheel f g k => [.str "wheel", .int f, .int g, .int k]
  | .about => [.str "about"]
  | .front f g => [.str "front", .int f, .int g]
  | .halve => [.str "halve"]
  | .pair => [.str "pair"]
  | .others => [.str "others"]
  | .fill => [.str "fill"]
def C.straight : C → Bool
  | .halve => false | .pair => false | .others => false | .fill => false | _ => true
def C.turned : C → C
  | .all k => .all (-k) | .up f k => .up f (-k) | .wheel f g k => .wheel f g (-k)
  | .halve => .pair | .pair => .halve | .others => .fill | .fill => .others | q => q
def C.named : C → List Int
  | .up f _ => [f] | .swap f g => [f, g] | .wheel f g _ => [f, g] | .front f g => [f, g] | _ => []
end My

set_option Elab.async false
set_option linter.all false
set_option maxRecDepth 100000
set_option maxHeartbeats 8000000
namespace My
open PySem PySem.Spec PyProof.Rows L2 Sx
local macro_rules | `(tactic| walk_at "nb") => `(tactic| first | exact NB.tup | exact NB.ints | exact NB.len (of_decide_eq_true rfl) | exact NB.at0b rfl | exact NB.at3b rfl | exact NB.ins | exact NB.own | exact NB.frz | exact NB.refs (by assumption) | assumption)
local macro_rules | `(tactic| walk_at "ne") => `(tactic| first | assumption | exact Ne.symm (by assumption) | exact ne_of_none (by assumption) (by assumption) | exact Ne.symm (ne_of_none (by assumption) (by assumption)))
local macro_rules | `(tactic| walk_at "hk") => `(tactic| first
  | assumption
  | exact upd_same
  | (refine' (upd_ne ?hkne).trans ?hkq; (case hkne => walk_at "ne"); (case hkq => walk_at "hk"))
  | (refine' Ex.kp (by assumption) _ _ ?hkq ?hkn; (case hkq => walk_at "hk"); (case hkn => walk_at "nb")))
local macro_rules | `(tactic| walk_at "rd1") => `(tactic| first
  | ((with_reducible refine' x_var ?hx ?_); (case hx => exact rfl))
  | with_reducible refine x_c ?_
  | with_reducible refine x_op ?_
  | with_reducible refine x_un ?_
  | with_reducible refine x_I0 ?_
  | with_reducible refine x_U ?_
  | ((with_reducible refine x_I ?hc ?_); (case hc => first | exact (by decide : (0 : Int) < _) | (show (0 : Int) < _; omega) | (show CMul _ _; first | exact .inl ⟨by omega, by omega⟩ | exact .inr ⟨by omega, by omega⟩) | (show CDiv _ _; exact ⟨by omega, by omega⟩) | (show CDivW _ _; exact wide_div (b := 200) (by omega) (by assumption) (by decide) (by decide)) | (show CDivW _ _; exact wide_div (b := 31) (by omega) (by omega) (by decide) (by decide))))
  | with_reducible refine x_EqI ?_
  | with_reducible refine x_NeI ?_
  | ((with_reducible refine x_EqSt ?h ?_); (case h => decide +kernel))
  | ((with_reducible refine x_EqSf ?h ?_); (case h => decide +kernel))
  | ((with_reducible refine x_NeSt ?h ?_); (case h => decide +kernel))
  | ((with_reducible refine x_NeSf ?h ?_); (case h => decide +kernel))
  | with_reducible refine x_EqS ?_
  | with_reducible refine x_NeS ?_
  | ((with_reducible refine' x_ixL ?hq ?hi ?_); (case hq => walk_at "hk"); (case hi => first | exact rfl | assumption))
  | ((with_reducible refine' x_ixT ?hq ?hi ?_); (case hq => walk_at "hk"); (case hi => first | exact rfl | assumption))
  | with_reducible refine x_chain ?_
  | with_reducible refine x_tup ?_
  | with_reducible refine x_lst ?_
  | ((with_reducible refine x_lenNew ?hl ?_); (case hl => exact Nat.le_of_ble_eq_true rfl); intro _ _ _ _ _)
  | ((with_reducible refine x_new ?_); intro _ _ _ _ _)
  | with_reducible refine x_sl ?_
  | with_reducible refine x_noPart ?_
  | with_reducible refine x_part ?_
  | with_reducible refine x_ex_int ?_
  | with_reducible refine x_ex_bl ?_
  | with_reducible refine x_ex_2 ?_
  | with_reducible refine x_test ?_
  | with_reducible refine x_B ?_
  | with_reducible refine x_and ?_
  | with_reducible refine x_or ?_
  | with_reducible refine x_not ?_
  | with_reducible refine x_andV ?_
  | with_reducible refine x_orV ?_
  | with_reducible refine x_notV ?_
  | with_reducible refine x_ifE ?_
  | with_reducible refine x_iteT ?_
  | with_reducible refine x_iteF ?_
  | ((with_reducible refine x_iteD ?_ ?_) <;> intro _)
  | ((with_reducible refine x_iteN ?_ ?_) <;> intro _)
  | with_reducible refine x_if ?_
  | with_reducible refine x_seq ?_
  | with_reducible refine x_next ?_
  | with_reducible refine x_asg ?_
  | with_reducible refine x_gName ?_
  | ((with_reducible refine' x_gTup ?hq ?hn ?_); (case hq => walk_at "hk"); (case hn => exact rfl))
  | with_reducible refine x_gCons ?_
  | with_reducible refine x_gNil ?_
  | ((with_reducible refine' x_gConsE ?h ?_); (case h => exact rfl))
  | ((with_reducible refine x_gNilE ?h ?_); (case h => exact rfl))
  | with_reducible refine x_ret ?_
  | with_reducible refine x_drop ?_
  | with_reducible refine x_par ?_
  | ((with_reducible refine' x_aug ?hx ?_); (case hx => exact rfl))
  | with_reducible refine x_ipI ?_
  | with_reducible refine x_augS ?_
  | with_reducible refine x_gSub ?_
  | ((with_reducible refine' x_setL ?hq ?hi ?_); (case hq => walk_at "hk"); (case hi => first | exact rfl | assumption))
  | with_reducible refine x_cons ?_
  | with_reducible refine x_nil ?_
  | with_reducible refine x_CB ?_
  | with_reducible refine x_abs ?_
  | with_reducible refine x_intI ?_
  | with_reducible refine x_intB ?_
  | ((with_reducible refine' x_lenL ?hq ?_); (case hq => walk_at "hk"))
  | ((with_reducible refine' x_lenT ?hq ?_); (case hq => walk_at "hk"))
  | ((with_reducible refine x_iteTe ?h ?_); (case h => exact rfl))
  | ((with_reducible refine x_iteFe ?h ?_); (case h => exact rfl))
  | walk_at "use"
  | with_reducible refine x_callS ?_
  | ((with_reducible refine x_lc ?_))
  | ((with_reducible refine x_for ?_))
  | ((with_reducible refine x_iR1 ?_))
  | ((with_reducible refine x_iL ?_))
  | ((with_reducible refine x_iZ ?_))
  | ((with_reducible refine x_yes ?_))
  | ((with_reducible refine' x_NIDt ?hq ?_); (case hq => assumption))
  | ((with_reducible refine' x_NIDf ?hq ?_); (case hq => assumption))
  | ((with_reducible refine' x_IIDf ?hq ?_); (case hq => assumption))
  | ((with_reducible refine' x_IIDt ?hq ?_); (case hq => assumption))
  | ((with_reducible refine' x_ixDs ?hd ?hq ?_); (case hd => assumption); (case hq => assumption))
  | ((with_reducible refine x_InSt ?h ?_); (case h => decide +kernel))
  | ((with_reducible refine x_InSf ?h ?_); (case h => decide +kernel))
  | ((with_reducible refine' x_notInI ?hq ?_); (case hq => walk_at "hk"))
  | ((with_reducible refine' x_inTt ?hq ?hv ?ha ?he ?_); (case hq => walk_at "hk"); (case hv => exact rfl); (case ha => exact rfl); (case he => decide +kernel))
  | ((with_reducible refine' x_inTf ?hq ?hv ?ha ?he ?_); (case hq => walk_at "hk"); (case hv => exact rfl); (case ha => exact rfl); (case he => decide +kernel))
  | ((with_reducible refine' x_slT ?hq ?hw ?_); (case hq => walk_at "hk"); (case hw => with_unfolding_all exact of_decide_eq_true rfl))
  | ((with_reducible refine' x_slL ?hq ?_); (case hq => walk_at "hk"))
  | ((with_reducible refine' x_catT ?hq ?hr ?n1 ?n2 ?hl ?_); (case hq => walk_at "hk"); (case hr => walk_at "hk"); (case n1 => exact List.cons_ne_nil _ _); (case n2 => exact List.cons_ne_nil _ _); (case hl => exact Nat.le_of_ble_eq_true rfl))
  | ((with_reducible refine x_bm ?_))
  | ((with_reducible refine x_lstRg ?_))
  | ((with_reducible refine x_rg1 ?_))
  | ((with_reducible refine And.intro ?h ?_); (case h => exact tyL (by assumption)))
  | dsimp only)
local macro_rules | `(tactic| walk_at "use") => `(tactic| fail)
local macro_rules | `(tactic| walk_at "rd") => `(tactic| repeat' (walk_at "rd1"))
local macro_rules | `(tactic| walk_at "ex") => `(tactic| first | exact Ex.refl _ | assumption | (refine' Ex.trans ?he (by assumption); (case he => walk_at "ex")))

section
variable {P : Program} {w : World} {K : PySem.W.Frag} {mg : Str → Option Value} {base : Heap} {a : Ad} {H : Hp} {Q : VK} {E : XK} {p b : Addr} {q : C}
/-- of the pairs of a text and a list: the ints beside an f -/
def sel (cs : List Nat) (ys : List Int) : List Int := ((cs.zip ys).filter (fun c => c.1 == 102)).map (·.2)
theorem sel_succ {cs : List Nat} {ys : List Int} {i c : Nat} {y : Int} (h1 : cs[i]? = some c) (h2 : ys[i]? = some y) : sel (cs.take (i + 1)) (ys.take (i + 1)) = sel (cs.take i) (ys.take i) ++ (if c = 102 then [y] else []) := by
  unfold sel
  rw [List.take_add_one, List.take_add_one, h1, h2]
  have hl : (cs.take i).length = (ys.take i).length := by
    have a1 := (List.getElem?_eq_some_iff.mp h1).1
    have a2 := (List.getElem?_eq_some_iff.mp h2).1
    rw [List.length_take, List.length_take]
    omega
  rw [show (some c).toList = [c] from rfl, show (some y).toList = [y] from rfl, List.zip_append hl, List.filter_append, List.map_append]
  congr 1
  by_cases e : c = 102
  · subst e; rfl
  · rw [if_neg e]
    simp [e]
theorem sel_len (cs : List Nat) (ys : List Int) : (sel cs ys).length ≤ ys.length := by
  unfold sel
  rw [List.length_map]
  refine Nat.le_trans (List.length_filter_le _ _) ?_
  rw [List.length_zip]
  exact Nat.min_le_right _ _
theorem str1_eq {c : Nat} : (⟨#[c]⟩ : Str) = "f" ↔ c = 102 := by
  constructor
  · intro h
    have e : (⟨#[c]⟩ : Str).cps = (Str.ofString "f").cps := congrArg Str.cps h
    have e2 : (Str.ofString "f").cps = #[102] := by decide +kernel
    rw [e2] at e
    have e3 : #[c] = #[102] := e
    simpa using e3
  · rintro rfl
    decide +kernel
theorem zip_f {σ : L2.St} {x : Str} {ys : List Int} {H1 : Hp} {b : Addr} (hx : H1 b = some (.tup (ys.map V.int))) (hn : x.cps.size = ys.length) (h4 : ys.length ≤ 1000)
    (hσ : ∀ u v, (((wipe σ [1, 2]).set 1 (some u)).set 2 (some v))[1]? = some (some u) ∧ (((wipe σ [1, 2]).set 1 (some u)).set 2 (some v))[2]? = some (some v) ∧ wipe (((wipe σ [1, 2]).set 1 (some u)).set 2 (some v)) [1, 2] = wipe σ [1, 2])
    (k : ∀ p H2, Ex H1 H2 → H1 p = none → H2 p = some (.lst ((sel x.cps.toList ys).map V.int)) → Q (.ref p) H2) :
    ZK K [.str x, .ref b] H1 fun J H2 => LcGo J (gTup K 2 (gCons (gName 1) (gCons (gName 2) gNil))) (tTest (tOp rEq (tVar 1) (tC (.str "f")))) (tVar 2) [1, 2] σ H2 Q := by
  refine lc_zip (n := ys.length) (.inl ⟨hn, by rw [List.length_map]; exact Nat.le_refl _⟩) hx (fun i acc _ => acc = (sel (x.cps.toList.take i) (ys.take i)).map V.int) (by simp [sel]) (fun _ _ _ _ _ h => h) (fun i acc _ h => ?_) (fun u v => (hσ u v).2.2) (fun i c y acc H' hc hy e hI kk k1 k2 => ?_) (fun p zs H2 e hp hz hI => ?_)
  · subst h
    refine ⟨NB.ints, ?_⟩
    rw [List.length_map]
    have a1 := sel_len (x.cps.toList.take i) (ys.take i)
    have a2 : (ys.take i).length ≤ ys.length := List.length_take_le' _ _
    exact Nat.lt_of_le_of_lt (Nat.le_trans a1 (Nat.le_trans a2 h4)) (by decide)
  · obtain ⟨s1, s2, _⟩ := hσ (.str ⟨#[c]⟩) y
    rw [List.getElem?_map] at hy
    cases hy' : ys[i]? with
    | none => rw [hy'] at hy; cases hy
    | some n =>
      rw [hy'] at hy
      have en : V.int n = y := Option.some.inj hy
      subst en
      have hc' : x.cps.toList[i]? = some c := by simpa using hc
      have st := sel_succ hc' hy'
      refine x_test (x_op (x_var s1 (x_c (x_EqS (x_ex_bl (x_iteD (fun h => ?_) (fun h => ?_)))))))
      · refine x_var s2 (k1 _ _ (Ex.refl _) ?_)
        rw [st, if_pos (str1_eq.mp h), List.map_append, hI]
        rfl
      · refine k2 _ (Ex.refl _) ?_
        rw [st, if_neg (fun q => h (str1_eq.mpr q)), List.append_nil, hI]
  · refine k p H2 e hp ?_
    rw [hz, hI, List.take_of_length_le (by rw [Array.length_toList, hn]; exact Nat.le_refl _), List.take_of_length_le (Nat.le_refl _)]
/-! a call by its word, asked once -/
def C.wd : C → Str
  | .all _ => "all" | .up _ _ => "up" | .swap _ _ => "swap" | .wheel _ _ _ => "wheel" | .about => "about" | .front _ _ => "front" | .halve => "halve" | .pair => "pair" | .others => "others" | .fill => "fill"
def C.pp : C → Str
  | .all _ => "k" | .up _ _ => "fk" | .swap _ _ => "ff" | .wheel _ _ _ => "ffk" | .about => "" | .front _ _ => "ff" | .halve => "" | .pair => "" | .others => "" | .fill => ""
def C.ar : C → List Int
  | .all k => [k] | .up f k => [f, k] | .swap f g => [f, g] | .wheel f g k => [f, g, k] | .about => [] | .front f g => [f, g] | .halve => [] | .pair => [] | .others => [] | .fill => []
theorem C.wd0 : atI q.vals 0 = some (.str q.wd) := by cases q <;> rfl
theorem C.cut1 : cutV q.vals (some 1) none = q.ar.map V.int := by cases q <;> rfl
theorem C.noWhole : ¬ (HT.sIx q.vals.length 0 (some 1) = 0 ∧ HT.sIx q.vals.length q.vals.length none = q.vals.length) := by
  cases q <;> with_unfolding_all exact of_decide_eq_true rfl
theorem C.ppar : q.pp.cps.size = q.ar.length := by cases q <;> rfl
theorem C.arLe : q.ar.length ≤ 1000 := by cases q <;> exact Nat.le_of_ble_eq_true rfl
theorem C.selN : sel q.pp.cps.toList q.ar = q.named := by cases q <;> rfl
theorem C.namedLt : q.named.length < 64 := by cases q <;> exact Nat.le_of_ble_eq_true rfl
theorem C.partOf (T : Txt K w mg a) : ∃ t, PySem.W.nsIn K a.d_PARTS q.wd = some (some (.str q.pp t)) := by
  cases q with
  | all _ => exact T.v_PARTS_all
  | up _ _ => exact T.v_PARTS_up
  | swap _ _ => exact T.v_PARTS_swap
  | wheel _ _ _ => exact T.v_PARTS_wheel
  | about => exact T.v_PARTS_about
  | front _ _ => exact T.v_PARTS_front
  | halve => exact T.v_PARTS_halve
  | pair => exact T.v_PARTS_pair
  | others => exact T.v_PARTS_others
  | fill => exact T.v_PARTS_fill
/-! files_of -/
def sp_files_of : Sp := fun vs H Q _ => ∃ (p : Addr) (q : C), vs = [.ref p] ∧ H p = some (.tup q.vals) ∧ ∀ p1 (ns : List Int) H1, Ex H H1 → H1 p1 = some (.lst (ns.map V.int)) → ns.Perm q.named → ns.Pairwise (· ≤ ·) → Q (.ref p1) H1
theorem u_files_of (h : H p = some (.tup q.vals)) (k : ∀ p1 (ns : List Int) H1, Ex H H1 → H1 p1 = some (.lst (ns.map V.int)) → ns.Perm q.named → ns.Pairwise (· ≤ ·) → Q (.ref p1) H1) : sp_files_of [.ref p] H Q E := ⟨p, q, rfl, h, k⟩
theorem ok_files_of (T : Txt K w mg a) : FnOk P w K mg base CX0 1 a.a_files_of a.fd_files_of ["call"] sp_files_of := by
  refine T.F_files_of.ok sc_files_of (fun vs H Q E h => ?_) (fun cdv A outer s H vs Q E hr h => ?_)
  · obtain ⟨p, q, rfl, _⟩ := h; rfl
  · obtain ⟨p, q, rfl, hp, k⟩ := h
    refine ⟨_, (pss_one (ps_ret (pe_callB cr_sorted (by rfl) T.n_sorted (by decide +kernel) (pa_cons (pe_lc (own := [("part", 1), ("item", 2)]) rfl sc_files_of.nd (Zst.pi_zipS (by rfl) T.n_zip (pa_cons (pe_ix ix_kdict (pe_glob (v := .ref a.d_PARTS) (by rfl) T.g_PARTS rfl) (pe_ix ix_tup (pv 0) pe_int (fun _ _ => rfl)) (fun _ _ => rfl)) (pa_cons (pe_slice sl_tup (pv 0) (po_some pe_int) po_none) pa_nil))) (blkOk_by (own := [("part", 1), ("item", 2)]) (N := ["call", "part", "item"]) (sc := defScope s_files_of) (by decide +kernel)) (fun _ _ _ _ _ => (pg_tupB (n := 2) rfl (pgs_cons (pg_name (i := 1) sc_files_of.nd rfl (Or.inl rfl) (Or.inr rfl)) (pgs_cons (pg_name (i := 2) sc_files_of.nd rfl (Or.inl rfl) (Or.inr rfl)) pgs_nil)))) (fun _ _ _ _ _ => (pts_one (pt_cmpR op_eq (pv 1) pe_str (nomark _)))) (fun _ _ _ _ _ => (pv 2))) pa_nil)))), ?_⟩
    have d_PARTS := T.d_PARTS
    have hw := C.partOf (q := q) T
    have h0 : atI q.vals 0 = some (.str q.wd) := C.wd0
    walk_at "rd"
    refine x_slT hp C.noWhole ?_
    walk_at "rd"
    rename_i h
    rw [C.cut1] at h
    refine zip_f h C.ppar C.arLe (fun u v => ⟨rfl, rfl, rfl⟩) fun p1 H2 e1 e2 e3 => ?_
    rw [C.selN] at e3
    refine x_sorted e3 C.namedLt fun ns' p2 H3 g1 g2 g3 g4 g5 => ?_
    exact k _ _ _ (Ex.trans (by walk_at "ex") g3) g5 g1 g2
end
end My

set_option Elab.async false
set_option linter.all false
set_option maxRecDepth 100000
set_option maxHeartbeats 8000000
namespace My
open PySem PySem.Spec PyProof.Rows L2 Sx
local macro_rules | `(tactic| walk_at "nb") => `(tactic| first | exact NB.tup | exact NB.ints | exact NB.len (of_decide_eq_true rfl) | exact NB.at0b rfl | exact NB.at3b rfl | exact NB.ins | exact NB.own | exact NB.frz | exact NB.refs (by assumption) | assumption)
local macro_rules | `(tactic| walk_at "ne") => `(tactic| first | assumption | exact Ne.symm (by assumption) | exact ne_of_none (by assumption) (by assumption) | exact Ne.symm (ne_of_none (by assumption) (by assumption)))
local macro_rules | `(tactic| walk_at "hk") => `(tactic| first
  | assumption
  | exact upd_same
  | (refine' (upd_ne ?hkne).trans ?hkq; (case hkne => walk_at "ne"); (case hkq => walk_at "hk"))
  | (refine' Ex.kp (by assumption) _ _ ?hkq ?hkn; (case hkq => walk_at "hk"); (case hkn => walk_at "nb")))
local macro_rules | `(tactic| walk_at "rd1") => `(tactic| first
  | ((with_reducible refine' x_var ?hx ?_); (case hx => exact rfl))
  | with_reducible refine x_c ?_
  | with_reducible refine x_op ?_
  | with_reducible refine x_un ?_
  | with_reducible refine x_I0 ?_
  | with_reducible refine x_U ?_
  | ((with_reducible refine x_I ?hc ?_); (case hc => first | exact (by decide : (0 : Int) < _) | (show (0 : Int) < _; omega) | (show CMul _ _; first | exact .inl ⟨by omega, by omega⟩ | exact .inr ⟨by omega, by omega⟩) | (show CDiv _ _; exact ⟨by omega, by omega⟩) | (show CDivW _ _; exact wide_div (b := 200) (by omega) (by assumption) (by decide) (by decide)) | (show CDivW _ _; exact wide_div (b := 31) (by omega) (by omega) (by decide) (by decide))))
  | with_reducible refine x_EqI ?_
  | with_reducible refine x_NeI ?_
  | ((with_reducible refine x_EqSt ?h ?_); (case h => decide +kernel))
  | ((with_reducible refine x_EqSf ?h ?_); (case h => decide +kernel))
  | ((with_reducible refine x_NeSt ?h ?_); (case h => decide +kernel))
  | ((with_reducible refine x_NeSf ?h ?_); (case h => decide +kernel))
  | with_reducible refine x_EqS ?_
  | with_reducible refine x_NeS ?_
  | ((with_reducible refine' x_ixL ?hq ?hi ?_); (case hq => walk_at "hk"); (case hi => first | exact rfl | assumption))
  | ((with_reducible refine' x_ixT ?hq ?hi ?_); (case hq => walk_at "hk"); (case hi => first | exact rfl | assumption))
  | with_reducible refine x_chain ?_
  | with_reducible refine x_tup ?_
  | with_reducible refine x_lst ?_
  | ((with_reducible refine x_lenNew ?hl ?_); (case hl => exact Nat.le_of_ble_eq_true rfl); intro _ _ _ _ _)
  | ((with_reducible refine x_new ?_); intro _ _ _ _ _)
  | with_reducible refine x_sl ?_
  | with_reducible refine x_noPart ?_
  | with_reducible refine x_part ?_
  | with_reducible refine x_ex_int ?_
  | with_reducible refine x_ex_bl ?_
  | with_reducible refine x_ex_2 ?_
  | with_reducible refine x_test ?_
  | with_reducible refine x_B ?_
  | with_reducible refine x_and ?_
  | with_reducible refine x_or ?_
  | with_reducible refine x_not ?_
  | with_reducible refine x_andV ?_
  | with_reducible refine x_orV ?_
  | with_reducible refine x_notV ?_
  | with_reducible refine x_ifE ?_
  | with_reducible refine x_iteT ?_
  | with_reducible refine x_iteF ?_
  | ((with_reducible refine x_iteD ?_ ?_) <;> intro _)
  | ((with_reducible refine x_iteN ?_ ?_) <;> intro _)
  | with_reducible refine x_if ?_
  | with_reducible refine x_seq ?_
  | with_reducible refine x_next ?_
  | with_reducible refine x_asg ?_
  | with_reducible refine x_gName ?_
  | ((with_reducible refine' x_gTup ?hq ?hn ?_); (case hq => walk_at "hk"); (case hn => exact rfl))
  | with_reducible refine x_gCons ?_
  | with_reducible refine x_gNil ?_
  | ((with_reducible refine' x_gConsE ?h ?_); (case h => exact rfl))
  | ((with_reducible refine x_gNilE ?h ?_); (case h => exact rfl))
  | with_reducible refine x_ret ?_
  | with_reducible refine x_drop ?_
  | with_reducible refine x_par ?_
  | ((with_reducible refine' x_aug ?hx ?_); (case hx => exact rfl))
  | with_reducible refine x_ipI ?_
  | with_reducible refine x_augS ?_
  | with_reducible refine x_gSub ?_
  | ((with_reducible refine' x_setL ?hq ?hi ?_); (case hq => walk_at "hk"); (case hi => first | exact rfl | assumption))
  | with_reducible refine x_cons ?_
  | with_reducible refine x_nil ?_
  | with_reducible refine x_CB ?_
  | with_reducible refine x_abs ?_
  | with_reducible refine x_intI ?_
  | with_reducible refine x_intB ?_
  | ((with_reducible refine' x_lenL ?hq ?_); (case hq => walk_at "hk"))
  | ((with_reducible refine' x_lenT ?hq ?_); (case hq => walk_at "hk"))
  | ((with_reducible refine x_iteTe ?h ?_); (case h => exact rfl))
  | ((with_reducible refine x_iteFe ?h ?_); (case h => exact rfl))
  | walk_at "use"
  | with_reducible refine x_callS ?_
  | ((with_reducible refine x_lc ?_))
  | ((with_reducible refine x_for ?_))
  | ((with_reducible refine x_iR1 ?_))
  | ((with_reducible refine x_iL ?_))
  | ((with_reducible refine x_iZ ?_))
  | ((with_reducible refine x_yes ?_))
  | ((with_reducible refine' x_NIDt ?hq ?_); (case hq => assumption))
  | ((with_reducible refine' x_NIDf ?hq ?_); (case hq => assumption))
  | ((with_reducible refine' x_IIDf ?hq ?_); (case hq => assumption))
  | ((with_reducible refine' x_IIDt ?hq ?_); (case hq => assumption))
  | ((with_reducible refine' x_ixDs ?hd ?hq ?_); (case hd => assumption); (case hq => assumption))
  | ((with_reducible refine x_InSt ?h ?_); (case h => decide +kernel))
  | ((with_reducible refine x_InSf ?h ?_); (case h => decide +kernel))
  | ((with_reducible refine' x_notInI ?hq ?_); (case hq => walk_at "hk"))
  | ((with_reducible refine' x_inTt ?hq ?hv ?ha ?he ?_); (case hq => walk_at "hk"); (case hv => exact rfl); (case ha => exact rfl); (case he => decide +kernel))
  | ((with_reducible refine' x_inTf ?hq ?hv ?ha ?he ?_); (case hq => walk_at "hk"); (case hv => exact rfl); (case ha => exact rfl); (case he => decide +kernel))
  | ((with_reducible refine' x_slT ?hq ?hw ?_); (case hq => walk_at "hk"); (case hw => with_unfolding_all exact of_decide_eq_true rfl))
  | ((with_reducible refine' x_slL ?hq ?_); (case hq => walk_at "hk"))
  | ((with_reducible refine' x_catT ?hq ?hr ?n1 ?n2 ?hl ?_); (case hq => walk_at "hk"); (case hr => walk_at "hk"); (case n1 => exact List.cons_ne_nil _ _); (case n2 => exact List.cons_ne_nil _ _); (case hl => exact Nat.le_of_ble_eq_true rfl))
  | ((with_reducible refine x_bm ?_))
  | ((with_reducible refine x_lstRg ?_))
  | ((with_reducible refine x_rg1 ?_))
  | ((with_reducible refine And.intro ?h ?_); (case h => exact tyL (by assumption)))
  | dsimp only)
local macro_rules | `(tactic| walk_at "use") => `(tactic| fail)
local macro_rules | `(tactic| walk_at "rd") => `(tactic| repeat' (walk_at "rd1"))
local macro_rules | `(tactic| walk_at "ex") => `(tactic| first | exact Ex.refl _ | assumption | (refine' Ex.trans ?he (by assumption); (case he => walk_at "ex")))

local macro_rules | `(tactic| walk_at "bg") => `(tactic| first | assumption | exact Ex.bag (by assumption) (by walk_at "bg"))
section
variable {P : Program} {w : World} {K : PySem.W.Frag} {mg : Str → Option Value} {base : Heap} {a : Ad} {H H1 H' : Hp} {Q : VK} {E : XK} {p b s : Addr} {q : C}
/-! the draws -/
def sp_Ltake : Sp := fun vs H Q _ => ∃ (b : Addr) (m : Int), vs = [.ref b, .int m] ∧ Bag b H ∧ 0 < m ∧ m.natAbs < 2 ^ 200 ∧ ∀ d H1, Ex H H1 → 0 ≤ d → d < m → Q (.int d) H1
theorem u_Ltake {m : Int} (hb : Bag b H) (h0 : 0 < m) (h1 : m.natAbs < 2 ^ 200) (k : ∀ d H1, Ex H H1 → 0 ≤ d → d < m → Q (.int d) H1) : sp_Ltake [.ref b, .int m] H Q E := ⟨b, m, rfl, hb, h0, h1, k⟩
theorem ok_Ltake (T : Txt K w mg a) : FnOk P w K mg base CX0 1 a.a_Ltake a.fd_Ltake ["_law_bag_here", "_law_upto"] sp_Ltake := by
  refine T.F_Ltake.ok sc_Ltake (fun vs H Q E h => ?_) (fun cdv A outer s H vs Q E hr h => ?_)
  · obtain ⟨b, m, rfl, _⟩ := h; rfl
  · obtain ⟨b, m, rfl, ⟨c, ⟨x, y, z, ns, hb, hc, hx, hy, hy2, hz⟩⟩, hm, hm2, k⟩ := h
    have hcb : c ≠ b := ne_of hc hb (NB.ints x y z c)
    have fin : ∀ (H1 : Hp) (v x' y' z' : Int), (∀ a, a ≠ b → H1 a = H a) → H1 b = some (.lst [.int x', .int y', .int z', .ref c]) → 0 ≤ x' → 0 ≤ y' → y' < 2147483647 → 0 ≤ z' → Q (.int (v % m)) H1 := by
      intro H1 v x' y' z' s1 s2 s3 s4 s5 s6
      exact k _ _ (Ex.bagTo hb s1 s2 s3 s4 s5 s6) (Int.emod_nonneg _ (by omega)) (Int.emod_lt_of_pos _ hm)
    refine ⟨_, (pss_cons (ps_if (pt_cmpR op_eq (pe_ix ix_list (pv 0) pe_int (fun _ _ => rfl)) pe_int (nomark _)) (pss_cons (ps_set (i := 2) sc_Ltake.nd rfl (Or.inl rfl) pe_int)
      (pss_cons (ps_if (pt_cmpR op_lt (pe_ix ix_list (pv 0) pe_int (fun _ _ => rfl)) (pe_callB c_len (by rfl) T.n_len PySem.boot_len (pa_cons (pe_ix ix_list (pv 0) pe_int (fun _ _ => rfl)) pa_nil)) (nomark _)) (pss_one (ps_set (i := 2) sc_Ltake.nd rfl (Or.inl rfl) (pe_ix ix_list (pe_ix ix_list (pv 0) pe_int (fun _ _ => rfl)) (pe_ix ix_list (pv 0) pe_int (fun _ _ => rfl)) (fun _ _ => rfl)))) pss_nil)
      (pss_cons (ps_augS (pv 0) pe_int get_list pe_int ip_add set_list)
      (pss_cons (ps_if (pt_cmpR op_ge (pv 2) pe_int (nomark _)) (pss_one (ps_asg (pv 2) (pg_sub (pv 0) pe_int set_list))) pss_nil)
      (pss_cons (ps_set (i := 3) sc_Ltake.nd rfl (Or.inl rfl) (pe_op op_add (pe_op op_add (pe_op op_mul (pe_ix ix_list (pv 0) pe_int (fun _ _ => rfl)) pe_int) (pe_op op_mod (pe_callTy c_int (by rfl) T.n_int (by decide +kernel) (pa_cons (pv 2) pa_nil)) pe_int)) (pe_op op_mul pe_int (pe_ix ix_list (pv 0) pe_int (fun _ _ => rfl)))))
      (pss_one (ps_asg (pe_op op_mod (pe_callTy c_int (by rfl) T.n_int (by decide +kernel) (pa_cons (pv 3) pa_nil)) pe_int) (pg_sub (pv 0) pe_int set_list)))))))) pss_nil)
      (pss_cons (ps_if (pt_cmpR op_gt (pe_ix ix_list (pv 0) pe_int (fun _ _ => rfl)) pe_int (nomark _)) (pss_cons (ps_set (i := 4) sc_Ltake.nd rfl (Or.inl rfl) (pe_op op_mod (pe_callTy c_int (by rfl) T.n_int (by decide +kernel) (pa_cons (pe_ix ix_list (pv 0) pe_int (fun _ _ => rfl)) pa_nil)) (pv 1)))
      (pss_cons (ps_asg (pe_op op_fdivW (pe_callTy c_int (by rfl) T.n_int (by decide +kernel) (pa_cons (pe_ix ix_list (pv 0) pe_int (fun _ _ => rfl)) pa_nil)) (pv 1)) (pg_sub (pv 0) pe_int set_list))
      (pss_one (ps_ret (pv 4))))) pss_nil)
      (pss_cons (ps_set (i := 5) sc_Ltake.nd rfl (Or.inl rfl) (pe_op op_mod (pe_callTy c_int (by rfl) T.n_int (by decide +kernel) (pa_cons (pe_op op_mul (pe_op op_add (pe_ix ix_list (pv 0) pe_int (fun _ _ => rfl)) pe_int) pe_int) pa_nil)) pe_int))
      (pss_cons (ps_set (i := 6) sc_Ltake.nd rfl (Or.inl rfl) (pe_op op_mod (pe_callTy c_int (by rfl) T.n_int (by decide +kernel) (pa_cons (pe_op op_mul (pe_op op_mod (pe_callTy c_int (by rfl) T.n_int (by decide +kernel) (pa_cons (pe_op op_mul (pv 5) (pv 5)) pa_nil)) pe_int) pe_int) pa_nil)) pe_int))
      (pss_one (ps_ret (pe_op op_mod (pe_callTy c_int (by rfl) T.n_int (by decide +kernel) (pa_cons (pe_op op_fdiv (pv 6) pe_int) pa_nil)) (pv 1)))))))), ?_⟩
    walk_at "rd"
    rotate_left
    all_goals try (exfalso; omega)
    rotate_right
    · rename_i hlt
      obtain ⟨n, hn⟩ := at_map (ns := ns) hz hlt
      refine x_ixL hc hn ?_
      walk_at "rd"
      all_goals try (exfalso; omega)
      all_goals try exact fin _ _ _ _ _ (fun a n => by simp only [upd, if_neg n]) (by first | exact hb | exact upd_same) (by first | omega | exact Int.ediv_nonneg (by omega) (by omega)) (by omega) (by omega) (by omega)
    all_goals try (exfalso; omega)
    all_goals try exact fin _ _ _ _ _ (fun a n => by simp only [upd, if_neg n]) (by first | exact hb | exact upd_same) (by first | omega | exact Int.ediv_nonneg (by omega) (by omega)) (by omega) (by omega) (by omega)
local macro_rules | `(tactic| walk_at "use") => `(tactic| ((with_reducible refine' u_Ltake ?hb ?h0 ?h1 ?_); (case hb => walk_at "bg"); (case h0 => omega); (case h1 => omega); intro _ _ _ _ _))
theorem x_slLq {xs : List V} {lo hi : Option Int} (h : SqL K H s xs) (k : JustNew (.lst (cutV xs lo hi)) H Q) : rSlL K (.ref s) lo hi H Q := ⟨s, xs, rfl, h, k⟩
theorem cut_ints (ns : List Int) (lo hi : Option Int) : ∃ ms : List Int, cutV (ns.map V.int) lo hi = ms.map V.int ∧ ms.length ≤ ns.length := by
  refine ⟨(ns.drop (HT.sIx (ns.map V.int).length 0 lo)).take (HT.sIx (ns.map V.int).length (ns.map V.int).length hi - HT.sIx (ns.map V.int).length 0 lo), ?_, ?_⟩
  · unfold cutV
    rw [List.map_take, List.map_drop]
  · rw [List.length_take, List.length_drop]
    omega
def sp_Lbag (K : PySem.W.Frag) : Sp := fun vs H Q _ => ∃ (s : Addr) (ns : List Int), vs = [.ref s] ∧ SqL K H s (ns.map V.int) ∧ ns.length ≤ 63 ∧ ∀ b H1, Ex H H1 → Bag b H1 → Q (.ref b) H1
theorem u_Lbag {ns : List Int} (h : SqL K H s (ns.map V.int)) (hl : ns.length ≤ 63) (k : ∀ b H1, Ex H H1 → Bag b H1 → Q (.ref b) H1) : sp_Lbag K [.ref s] H Q E := ⟨s, ns, rfl, h, hl, k⟩
theorem ok_Lbag (T : Txt K w mg a) : FnOk P w K mg base CX0 1 a.a_Lbag a.fd_Lbag ["_law_script"] (sp_Lbag K) := by
  refine T.F_Lbag.ok sc_Lbag (fun vs H Q E h => ?_) (fun cdv A outer s H vs Q E hr h => ?_)
  · obtain ⟨s, ns, rfl, _⟩ := h; rfl
  · obtain ⟨s, ns, rfl, hs, hl, k⟩ := h
    refine ⟨_, (pss_one (ps_ret (pe_lst (pa_cons pe_int (pa_cons pe_int (pa_cons pe_int (pa_cons (pe_lc (own := [("_law_cell", 1)]) rfl sc_Lbag.nd (pi_list (pe_slice sl_list (pv 0) po_none (po_some pe_int))) (blkOk_by (own := [("_law_cell", 1)]) (N := ["_law_script", "_law_cell"]) (sc := defScope s_Lbag) (by decide +kernel)) (fun _ _ _ _ _ => (pg_name (i := 1) sc_Lbag.nd rfl (Or.inl rfl) (Or.inr rfl))) (fun _ _ _ _ _ => pts_nil) (fun _ _ _ _ _ => (pe_callB c_abs (by rfl) T.n_abs (by decide +kernel) (pa_cons (pv 1) pa_nil)))) pa_nil))))))), ?_⟩
    walk_at "rd"
    refine x_slLq hs ?_
    walk_at "rd"
    rename_i p1 H1 e1 f1 h1
    obtain ⟨ms, em, lm⟩ := cut_ints ns none (some 63)
    rw [em] at h1
    refine lc_lst h1 NB.ints (fun i acc _ => (∃ ks : List Int, acc = ks.map V.int) ∧ acc.length = i ∧ i ≤ ms.length) ⟨⟨[], rfl⟩, rfl, Nat.zero_le _⟩ (fun _ _ _ _ _ h => h) (fun i acc _ h => ?_) (fun x => rfl) (fun i x acc H' hx e hI kk k1 k2 => ?_) (fun p ys H2 e hp hy hI => ?_)
    · obtain ⟨⟨ks, rfl⟩, h2, h3⟩ := h
      exact ⟨NB.ints, Nat.lt_of_le_of_lt (show _ ≤ 63 by omega) (by decide)⟩
    · rw [List.getElem?_map] at hx
      cases hx' : ms[i]? with
      | none => rw [hx'] at hx; cases hx
      | some n =>
        rw [hx'] at hx
        have en : V.int n = x := Option.some.inj hx
        subst en
        have hi := (List.getElem?_eq_some_iff.mp hx').1
        walk_at "rd"
        obtain ⟨⟨ks, rfl⟩, h2, h3⟩ := hI
        exact k1 _ _ (Ex.refl _) ⟨⟨ks ++ [if n < 0 then -n else n], by rw [List.map_append]; rfl⟩, by simp [h2], hi⟩
    · obtain ⟨⟨ks, rfl⟩, h2, h3⟩ := hI
      walk_at "rd"
      rename_i p3 H3 e3 f3 h3'
      exact k _ _ ((e1.trans e).trans e3) ⟨p, _, _, _, ks, h3', e3.kp _ _ hy NB.ints, by decide, by decide, by decide, by decide⟩
def sp_Lone : Sp := fun vs H Q _ => ∃ (b s : Addr) (xs : List V), vs = [.ref b, .ref s] ∧ Bag b H ∧ H s = some (.lst xs) ∧ NB (.lst xs) ∧ 0 < xs.length ∧ xs.length < 1073741824 ∧ ∀ v H1, Ex H H1 → v ∈ xs → Q v H1
theorem u_Lone {xs : List V} (hb : Bag b H) (hs : H s = some (.lst xs)) (nb : NB (.lst xs)) (h0 : 0 < xs.length) (h1 : xs.length < 1073741824) (k : ∀ v H1, Ex H H1 → v ∈ xs → Q v H1) : sp_Lone [.ref b, .ref s] H Q E := ⟨b, s, xs, rfl, hb, hs, nb, h0, h1, k⟩
theorem ok_Lone (T : Txt K w mg a) : FnOk P w K mg base CX0 2 a.a_Lone a.fd_Lone ["_law_bag_here", "_law_some"] sp_Lone := by
  refine T.F_Lone.ok sc_Lone (fun vs H Q E h => ?_) (fun cdv A outer s H vs Q E hr h => ?_)
  · obtain ⟨b, s, xs, rfl, _⟩ := h; rfl
  · obtain ⟨b, s, xs, rfl, hb, hs, nb, h0, h1, k⟩ := h
    have G_Ltake := ok_Ltake (P := P) (base := base) T
    refine ⟨_, (pss_one (ps_ret (pe_ix ix_list (pv 1) (pe_call G_Ltake (hr.mono (by decide)) (by rfl) T.m_Ltake T.k_Ltake T.b_Ltake .nil pass0 (pa_cons (pv 0) (pa_cons (pe_callB c_len (by rfl) T.n_len PySem.boot_len (pa_cons (pv 1) pa_nil)) pa_nil))) (fun _ _ => rfl)))), ?_⟩
    walk_at "rd"
    rename_i d H1 e1 d0 d1
    have hl : d.toNat < xs.length := by omega
    refine x_ixL (by walk_at "hk") (at_nat d0 (List.getElem?_eq_getElem hl)) ?_
    exact k _ _ e1 (List.getElem_mem hl)
def sp_Lmixed : Sp := fun vs H Q _ => ∃ (b s : Addr) (ns : List Int), vs = [.ref b, .ref s] ∧ Bag b H ∧ H s = some (.lst (ns.map V.int)) ∧ ns.length ≤ 1000 ∧ ∀ p1 (ms : List Int) H1, Ex H H1 → H1 p1 = some (.lst (ms.map V.int)) → ms.Perm ns → Q (.ref p1) H1
theorem u_Lmixed {ns : List Int} (hb : Bag b H) (hs : H s = some (.lst (ns.map V.int))) (hl : ns.length ≤ 1000) (k : ∀ p1 (ms : List Int) H1, Ex H H1 → H1 p1 = some (.lst (ms.map V.int)) → ms.Perm ns → Q (.ref p1) H1) : sp_Lmixed [.ref b, .ref s] H Q E := ⟨b, s, ns, rfl, hb, hs, hl, k⟩
theorem ok_Lmixed (T : Txt K w mg a) : FnOk P w K mg base CX0 2 a.a_Lmixed a.fd_Lmixed ["_law_bag_here", "_law_things"] sp_Lmixed := by
  refine T.F_Lmixed.ok sc_Lmixed (fun vs H Q E h => ?_) (fun cdv A outer s H vs Q E hr h => ?_)
  · obtain ⟨b, s, ns, rfl, _⟩ := h; rfl
  · obtain ⟨b, s, ns, rfl, hb, hs, hl, k⟩ := h
    have G_Ltake := ok_Ltake (P := P) (base := base) T
    refine ⟨_, (pss_cons (ps_set (i := 2) sc_Lmixed.nd rfl (Or.inl rfl) (pe_lst pa_nil))
      (pss_cons (ps_for PassesOwn.never rfl (pi_list (pv 1)) (pg_name (i := 3) sc_Lmixed.nd rfl (Or.inl rfl)) (pss_one (ps_expr (pe_bm PySem.F.plainAttrs_list PySem.F.slot_list_insert PySem.F.type_list_insert c_insert (pv 2) (pa_cons (pe_call G_Ltake (hr.mono (by decide)) (by rfl) T.m_Ltake T.k_Ltake T.b_Ltake .nil pass0 (pa_cons (pv 0) (pa_cons (pe_op op_add (pe_callB c_len (by rfl) T.n_len PySem.boot_len (pa_cons (pv 2) pa_nil)) pe_int) pa_nil))) (pa_cons (pv 3) pa_nil))))))
      (pss_one (ps_ret (pv 2))))), ?_⟩
    walk_at "rd"
    rename_i l H1 e1 f1 h1
    refine for_lst (xs := ns.map V.int) (by walk_at "hk") (fun i σ H' => ∃ (ms : List Int) (v : Option V), σ = [some (.ref b), some (.ref s), some (.ref l), v] ∧ Ex H H' ∧ H' l = some (.lst (ms.map V.int)) ∧ ms.Perm (ns.take i)) ⟨[], none, rfl, e1, h1, List.Perm.refl _⟩
      (fun i σ H' _ h => ?_) (fun i x σ H' hx h => ?_) (fun σ H' h => ?_)
    · obtain ⟨_, _, _, e, _⟩ := h
      exact e.kp _ _ hs NB.ints
    · obtain ⟨ms, v, rfl, e, hL, hp⟩ := h
      rw [List.getElem?_map] at hx
      cases hx' : ns[i]? with
      | none => rw [hx'] at hx; cases hx
      | some n =>
        rw [hx'] at hx
        have en : V.int n = x := Option.some.inj hx
        subst en
        have hi := (List.getElem?_eq_some_iff.mp hx').1
        have hml : ms.length = i := by rw [hp.length_eq, List.length_take]; omega
        have lm : (ms.map V.int).length = i := by rw [List.length_map, hml]
        walk_at "rd"
        rename_i d H2 e2 d0 d1
        refine x_insert (e2.kp _ _ hL NB.ints) (by rw [lm]; exact Nat.lt_of_lt_of_le (show i < 1001 by omega) (by decide)) d0 (by omega) ?_
        refine ⟨ms.take d.toNat ++ [n] ++ ms.drop d.toNat, _, rfl, Ex.mut (e.trans e2) f1, ?_, ?_⟩
        · rw [upd_same, List.map_append, List.map_append, List.map_take, List.map_drop]
          rfl
        · rw [List.take_add_one, hx']
          refine List.Perm.trans ?_ (List.Perm.append_right _ hp)
          have e0 : ms.take d.toNat ++ ms.drop d.toNat = ms := List.take_append_drop _ _
          have : (ms.take d.toNat ++ [n] ++ ms.drop d.toNat).Perm ((ms.take d.toNat ++ ms.drop d.toNat) ++ [n]) := by
            rw [List.append_assoc, List.append_assoc]
            exact List.Perm.append_left _ List.perm_append_comm
          rw [e0] at this
          exact this
    · obtain ⟨ms, v, rfl, e, hL, hp⟩ := h
      walk_at "rd"
      refine k _ _ _ e hL ?_
      rwa [List.length_map, List.take_of_length_le (Nat.le_refl _)] at hp
end
end My

set_option Elab.async false
set_option linter.all false
set_option maxRecDepth 100000
set_option maxHeartbeats 8000000
namespace My
open PySem PySem.Spec PyProof.Rows L2 Sx
local macro_rules | `(tactic| walk_at "nb") => `(tactic| first | exact NB.tup | exact NB.ints | exact NB.len (of_decide_eq_true rfl) | exact NB.at0b rfl | exact NB.at3b rfl | exact NB.ins | exact NB.own | exact NB.frz | exact NB.refs (by assumption) | assumption)
local macro_rules | `(tactic| walk_at "ne") => `(tactic| first | assumption | exact Ne.symm (by assumption) | exact ne_of_none (by assumption) (by assumption) | exact Ne.symm (ne_of_none (by assumption) (by assumption)))
local macro_rules | `(tactic| walk_at "hk") => `(tactic| first
  | assumption
  | exact upd_same
  | (refine' (upd_ne ?hkne).trans ?hkq; (case hkne => walk_at "ne"); (case hkq => walk_at "hk"))
  | (refine' Ex.kp (by assumption) _ _ ?hkq ?hkn; (case hkq => walk_at "hk"); (case hkn => walk_at "nb")))
local macro_rules | `(tactic| walk_at "rd1") => `(tactic| first
  | ((with_reducible refine' x_var ?hx ?_); (case hx => exact rfl))
  | with_reducible refine x_c ?_
  | with_reducible refine x_op ?_
  | with_reducible refine x_un ?_
  | with_reducible refine x_I0 ?_
  | with_reducible refine x_U ?_
  | ((with_reducible refine x_I ?hc ?_); (case hc => first | exact (by decide : (0 : Int) < _) | (show (0 : Int) < _; omega) | (show CMul _ _; first | exact .inl ⟨by omega, by omega⟩ | exact .inr ⟨by omega, by omega⟩) | (show CDiv _ _; exact ⟨by omega, by omega⟩) | (show CDivW _ _; exact wide_div (b := 200) (by omega) (by assumption) (by decide) (by decide)) | (show CDivW _ _; exact wide_div (b := 31) (by omega) (by omega) (by decide) (by decide))))
  | with_reducible refine x_EqI ?_
  | with_reducible refine x_NeI ?_
  | ((with_reducible refine x_EqSt ?h ?_); (case h => decide +kernel))
  | ((with_reducible refine x_EqSf ?h ?_); (case h => decide +kernel))
  | ((with_reducible refine x_NeSt ?h ?_); (case h => decide +kernel))
  | ((with_reducible refine x_NeSf ?h ?_); (case h => decide +kernel))
  | with_reducible refine x_EqS ?_
  | with_reducible refine x_NeS ?_
  | ((with_reducible refine' x_ixL ?hq ?hi ?_); (case hq => walk_at "hk"); (case hi => first | exact rfl | assumption))
  | ((with_reducible refine' x_ixT ?hq ?hi ?_); (case hq => walk_at "hk"); (case hi => first | exact rfl | assumption))
  | with_reducible refine x_chain ?_
  | with_reducible refine x_tup ?_
  | with_reducible refine x_lst ?_
  | ((with_reducible refine x_lenNew ?hl ?_); (case hl => exact Nat.le_of_ble_eq_true rfl); intro _ _ _ _ _)
  | ((with_reducible refine x_new ?_); intro _ _ _ _ _)
  | with_reducible refine x_sl ?_
  | with_reducible refine x_noPart ?_
  | with_reducible refine x_part ?_
  | with_reducible refine x_ex_int ?_
  | with_reducible refine x_ex_bl ?_
  | with_reducible refine x_ex_2 ?_
  | with_reducible refine x_test ?_
  | with_reducible refine x_B ?_
  | with_reducible refine x_and ?_
  | with_reducible refine x_or ?_
  | with_reducible refine x_not ?_
  | with_reducible refine x_andV ?_
  | with_reducible refine x_orV ?_
  | with_reducible refine x_notV ?_
  | with_reducible refine x_ifE ?_
  | with_reducible refine x_iteT ?_
  | with_reducible refine x_iteF ?_
  | ((with_reducible refine x_iteD ?_ ?_) <;> intro _)
  | ((with_reducible refine x_iteN ?_ ?_) <;> intro _)
  | with_reducible refine x_if ?_
  | with_reducible refine x_seq ?_
  | with_reducible refine x_next ?_
  | with_reducible refine x_asg ?_
  | with_reducible refine x_gName ?_
  | ((with_reducible refine' x_gTup ?hq ?hn ?_); (case hq => walk_at "hk"); (case hn => exact rfl))
  | with_reducible refine x_gCons ?_
  | with_reducible refine x_gNil ?_
  | ((with_reducible refine' x_gConsE ?h ?_); (case h => exact rfl))
  | ((with_reducible refine x_gNilE ?h ?_); (case h => exact rfl))
  | with_reducible refine x_ret ?_
  | with_reducible refine x_drop ?_
  | with_reducible refine x_par ?_
  | ((with_reducible refine' x_aug ?hx ?_); (case hx => exact rfl))
  | with_reducible refine x_ipI ?_
  | with_reducible refine x_augS ?_
  | with_reducible refine x_gSub ?_
  | ((with_reducible refine' x_setL ?hq ?hi ?_); (case hq => walk_at "hk"); (case hi => first | exact rfl | assumption))
  | with_reducible refine x_cons ?_
  | with_reducible refine x_nil ?_
  | with_reducible refine x_CB ?_
  | with_reducible refine x_abs ?_
  | with_reducible refine x_intI ?_
  | with_reducible refine x_intB ?_
  | ((with_reducible refine' x_lenL ?hq ?_); (case hq => walk_at "hk"))
  | ((with_reducible refine' x_lenT ?hq ?_); (case hq => walk_at "hk"))
  | ((with_reducible refine x_iteTe ?h ?_); (case h => exact rfl))
  | ((with_reducible refine x_iteFe ?h ?_); (case h => exact rfl))
  | walk_at "use"
  | with_reducible refine x_callS ?_
  | ((with_reducible refine x_lc ?_))
  | ((with_reducible refine x_for ?_))
  | ((with_reducible refine x_iR1 ?_))
  | ((with_reducible refine x_iL ?_))
  | ((with_reducible refine x_iZ ?_))
  | ((with_reducible refine x_yes ?_))
  | ((with_reducible refine' x_NIDt ?hq ?_); (case hq => assumption))
  | ((with_reducible refine' x_NIDf ?hq ?_); (case hq => assumption))
  | ((with_reducible refine' x_IIDf ?hq ?_); (case hq => assumption))
  | ((with_reducible refine' x_IIDt ?hq ?_); (case hq => assumption))
  | ((with_reducible refine' x_ixDs ?hd ?hq ?_); (case hd => assumption); (case hq => assumption))
  | ((with_reducible refine x_InSt ?h ?_); (case h => decide +kernel))
  | ((with_reducible refine x_InSf ?h ?_); (case h => decide +kernel))
  | ((with_reducible refine' x_notInI ?hq ?_); (case hq => walk_at "hk"))
  | ((with_reducible refine' x_inTt ?hq ?hv ?ha ?he ?_); (case hq => walk_at "hk"); (case hv => exact rfl); (case ha => exact rfl); (case he => decide +kernel))
  | ((with_reducible refine' x_inTf ?hq ?hv ?ha ?he ?_); (case hq => walk_at "hk"); (case hv => exact rfl); (case ha => exact rfl); (case he => decide +kernel))
  | ((with_reducible refine' x_slT ?hq ?hw ?_); (case hq => walk_at "hk"); (case hw => with_unfolding_all exact of_decide_eq_true rfl))
  | ((with_reducible refine' x_slL ?hq ?_); (case hq => walk_at "hk"))
  | ((with_reducible refine' x_catT ?hq ?hr ?n1 ?n2 ?hl ?_); (case hq => walk_at "hk"); (case hr => walk_at "hk"); (case n1 => exact List.cons_ne_nil _ _); (case n2 => exact List.cons_ne_nil _ _); (case hl => exact Nat.le_of_ble_eq_true rfl))
  | ((with_reducible refine x_bm ?_))
  | ((with_reducible refine x_lstRg ?_))
  | ((with_reducible refine x_rg1 ?_))
  | ((with_reducible refine And.intro ?h ?_); (case h => exact tyL (by assumption)))
  | dsimp only)
local macro_rules | `(tactic| walk_at "use") => `(tactic| fail)
local macro_rules | `(tactic| walk_at "rd") => `(tactic| repeat' (walk_at "rd1"))
local macro_rules | `(tactic| walk_at "ex") => `(tactic| first | exact Ex.refl _ | assumption | (refine' Ex.trans ?he (by assumption); (case he => walk_at "ex")))

local macro_rules | `(tactic| walk_at "bg") => `(tactic| first | assumption | exact Ex.bag (by assumption) (by walk_at "bg"))
local macro_rules | `(tactic| walk_at "use") => `(tactic| ((with_reducible refine' u_Ltake ?hb ?h0 ?h1 ?_); (case hb => walk_at "bg"); (case h0 => omega); (case h1 => omega); intro _ _ _ _ _))
section
variable {P : Program} {w : World} {K : PySem.W.Frag} {mg : Str → Option Value} {base : Heap} {a : Ad} {H H1 H' : Hp} {Q : VK} {E : XK} {p b s : Addr} {q : C}
def isFile (fs f : Int) : Prop := 0 ≤ f ∧ f < fs
def C.word : C → Str
  | .all _ => "all" | .up _ _ => "up" | .swap _ _ => "swap" | .wheel _ _ _ => "wheel" | .about => "about" | .front _ _ => "front" | .halve => "halve" | .pair => "pair" | .others => "others" | .fill => "fill"
/-- a call for so many files -/
def C.ok (q : C) (fs : Int) : Prop := match q with
  | .all k => k ≠ 0
  | .up f k => isFile fs f ∧ k ≠ 0
  | .swap f g => isFile fs f ∧ isFile fs g ∧ f ≠ g
  | .wheel f g k => isFile fs f ∧ isFile fs g ∧ f ≠ g ∧ k ≠ 0
  | .front f g => isFile fs f ∧ isFile fs g ∧ f ≠ g
  | _ => True
/-- the size of its k -/
def C.kAbs : C → Nat
  | .all k => k.natAbs | .up _ k => k.natAbs | .wheel _ _ k => k.natAbs | _ => 0
def ten : List Str := ["all", "up", "swap", "wheel", "about", "front", "halve", "pair", "others", "fill"]
theorem NB.strs {ks : List Str} : NB (.lst (ks.map V.str)) := by
  cases ks with
  | nil => exact NB.len (by decide)
  | cons x r => exact NB.at0b rfl
local macro_rules | `(tactic| walk_at "nb") => `(tactic| exact NB.strs)
def sp_Lcall : Sp := fun vs H Q _ => ∃ (b s : Addr) (fs m : Int) (ks : List Str), vs = [.ref b, .int fs, .ref s, .int m] ∧ Bag b H ∧ (fs = 2 ∨ fs = 3) ∧ H s = some (.lst (ks.map V.str)) ∧ 0 < ks.length ∧ ks.length ≤ 1000 ∧ (∀ x ∈ ks, x ∈ ten) ∧ 0 < m ∧ m.natAbs < 2 ^ 190 ∧
  ∀ p1 (q : C) H1, Ex H H1 → H1 p1 = some (.tup q.vals) → q.ok fs → q.kAbs ≤ m.natAbs → Q (.ref p1) H1
theorem u_Lcall {fs m : Int} (ks : List Str) (hb : Bag b H) (h0 : fs = 2 ∨ fs = 3) (h1 : H s = some (.lst (ks.map V.str))) (h2 : 0 < ks.length) (h3 : ks.length ≤ 1000) (h4 : ∀ x ∈ ks, x ∈ ten) (h5 : 0 < m) (h6 : m.natAbs < 2 ^ 190) (k : ∀ p1 (q : C) H1, Ex H H1 → H1 p1 = some (.tup q.vals) → q.ok fs → q.kAbs ≤ m.natAbs → Q (.ref p1) H1) :
    sp_Lcall [.ref b, .int fs, .ref s, .int m] H Q E := ⟨b, s, fs, m, ks, rfl, hb, h0, h1, h2, h3, h4, h5, h6, k⟩
theorem pair_of {ms : List Int} {fs : Int} (hfs : fs = 2 ∨ fs = 3) (hp : ms.Perm (if fs = 2 then [0, 1] else [0, 1, 2])) : ∃ f g, cutV (ms.map V.int) none (some 2) = [f, g].map V.int ∧ isFile fs f ∧ isFile fs g ∧ f ≠ g := by
  rcases hfs with rfl | rfl
  · rw [if_pos rfl] at hp
    have hl := hp.length_eq
    match ms, hl with
    | [f, g], _ =>
      have h1 : f ∈ [(0 : Int), 1] := hp.mem_iff.mp (by simp)
      have h2 : g ∈ [(0 : Int), 1] := hp.mem_iff.mp (by simp)
      have nd : [f, g].Nodup := hp.nodup_iff.mpr (by decide)
      simp at h1 h2 nd
      exact ⟨f, g, rfl, by unfold isFile; omega, by unfold isFile; omega, nd⟩
  · rw [if_neg (by decide)] at hp
    have hl := hp.length_eq
    match ms, hl with
    | [f, g, x], _ =>
      have h1 : f ∈ [(0 : Int), 1, 2] := hp.mem_iff.mp (by simp)
      have h2 : g ∈ [(0 : Int), 1, 2] := hp.mem_iff.mp (by simp)
      have nd : [f, g, x].Nodup := hp.nodup_iff.mpr (by decide)
      simp at h1 h2 nd
      exact ⟨f, g, rfl, by unfold isFile; omega, by unfold isFile; omega, nd.1.1⟩
theorem ok_Lcall (T : Txt K w mg a) : FnOk P w K mg base CX0 3 a.a_Lcall a.fd_Lcall ["_law_bag_here", "_law_files", "_law_kinds", "_law_most"] sp_Lcall := by
  refine T.F_Lcall.ok sc_Lcall (fun vs H Q E h => ?_) (fun cdv A outer s H vs Q E hr h => ?_)
  · obtain ⟨b, s, fs, m, ks, rfl, _⟩ := h; rfl
  · obtain ⟨b, s, fs, m, ks, rfl, hb, hfs, hs, l0, l1, ht, m0, m1, k⟩ := h
    have G_Ltake := ok_Ltake (P := P) (base := base) T
    have G_Lone := ok_Lone (P := P) (base := base) T
    have G_Lmixed := ok_Lmixed (P := P) (base := base) T
    have f0 : 0 < fs := by omega
    have f1 : fs < 1000 := by omega
    refine ⟨_, (pss_cons (ps_par (i := 4) (j := 5) rfl sc_Lcall.nd rfl rfl (by decide) rfl rfl (pa_cons (pe_call G_Lone (hr.mono (by decide)) (by rfl) T.m_Lone T.k_Lone T.b_Lone .nil pass0 (pa_cons (pv 0) (pa_cons (pv 2) pa_nil))) (pa_cons (pe_slice sl_list (pe_call G_Lmixed (hr.mono (by decide)) (by rfl) T.m_Lmixed T.k_Lmixed T.b_Lmixed .nil pass0 (pa_cons (pv 0) (pa_cons (pe_listRg rfl (by rfl) T.n_list (prg_1 (by rfl) T.n_range (pv 1))) pa_nil))) po_none (po_some pe_int)) pa_nil)) rfl)
      (pss_cons (ps_set (i := 6) sc_Lcall.nd rfl (Or.inl rfl) (pe_op op_mulW (pe_op op_add pe_int (pe_call G_Ltake (hr.mono (by decide)) (by rfl) T.m_Ltake T.k_Ltake T.b_Ltake .nil pass0 (pa_cons (pv 0) (pa_cons (pv 3) pa_nil)))) (pe_op op_sub pe_int (pe_op op_mulW pe_int (pe_call G_Ltake (hr.mono (by decide)) (by rfl) T.m_Ltake T.k_Ltake T.b_Ltake .nil pass0 (pa_cons (pv 0) (pa_cons pe_int pa_nil)))))))
      (pss_cons (ps_if (pt_cmpR op_eq (pv 4) pe_str (nomark _)) (pss_one (ps_ret (pe_tup (pa_cons (pv 4) (pa_cons (pv 6) pa_nil))))) pss_nil)
      (pss_cons (ps_if (pt_cmpR op_eq (pv 4) pe_str (nomark _)) (pss_one (ps_ret (pe_tup (pa_cons (pv 4) (pa_cons (pe_ix ix_list (pv 5) pe_int (fun _ _ => rfl)) (pa_cons (pv 6) pa_nil)))))) pss_nil)
      (pss_cons (ps_if (pt_cmpR op_in_seq (pv 4) (pe_tup (pa_cons pe_str (pa_cons pe_str pa_nil))) (by rfl)) (pss_one (ps_ret (pe_tup (pa_cons (pv 4) (pa_cons (pe_ix ix_list (pv 5) pe_int (fun _ _ => rfl)) (pa_cons (pe_ix ix_list (pv 5) pe_int (fun _ _ => rfl)) pa_nil)))))) pss_nil)
      (pss_cons (ps_if (pt_cmpR op_eq (pv 4) pe_str (nomark _)) (pss_one (ps_ret (pe_tup (pa_cons (pv 4) (pa_cons (pe_ix ix_list (pv 5) pe_int (fun _ _ => rfl)) (pa_cons (pe_ix ix_list (pv 5) pe_int (fun _ _ => rfl)) (pa_cons (pv 6) pa_nil))))))) pss_nil)
      (pss_one (ps_ret (pe_tup (pa_cons (pv 4) pa_nil)))))))))), ?_⟩
    walk_at "rd"
    refine u_Lone hb hs NB.strs (by rw [List.length_map]; exact l0) (by rw [List.length_map]; omega) fun v H1 e1 hv => ?_
    obtain ⟨x, hx, rfl⟩ := List.mem_map.mp hv
    have hx := ht x hx
    walk_at "rd"
    refine ⟨RgOk.of_le (by omega) (by omega) (by omega) (by omega), x_new ?_⟩
    intro l H2 e2 f2 h2
    have h2' : H2 l = some (.lst ((if fs = 2 then [0, 1] else [0, 1, 2] : List Int).map V.int)) := by
      rcases hfs with rfl | rfl
      · exact h2
      · exact h2
    clear h2
    walk_at "rd"
    refine u_Lmixed (by walk_at "bg") h2' (by split <;> decide) fun p2 ms H3 e3 h3 pm => ?_
    obtain ⟨f, g, a1, a2, a3, a4⟩ := pair_of hfs pm
    walk_at "rd"
    rename_i p4 H4 e4 f4 h4 d0 H5 e5 d00 d01 d1 H6 e6 d10 d11
    rw [a1] at h4
    refine x_I (wide_mul (a := 20) (b := 20) (by omega) (by omega) (by decide) (by decide) (by decide)) ?_
    walk_at "rd"
    refine x_I (wide_mul (a := 200) (b := 20) (by omega) (by omega) (by decide) (by decide) (by decide)) ?_
    obtain ⟨z, hz, z0, z1⟩ : ∃ z : Int, (1 + d0) * (1 - 2 * d1) = z ∧ z ≠ 0 ∧ z.natAbs ≤ m.natAbs := by
      have h : d1 = 0 ∨ d1 = 1 := by omega
      rcases h with rfl | rfl
      · exact ⟨1 + d0, by omega, by omega, by omega⟩
      · exact ⟨-(1 + d0), by omega, by omega, by omega⟩
    rw [hz]
    have h6 : H6 p4 = some (.lst ([f, g].map V.int)) := by walk_at "hk"
    have ex6 : Ex H H6 := by walk_at "ex"
    clear hz d00 d01 d10 d11 e1 e2 e3 e4 e5 e6 h3 h4 h2' f2 f4 hb hs hv
    simp only [ten, List.mem_cons, List.not_mem_nil, or_false] at hx
    rcases hx with rfl | rfl | rfl | rfl | rfl | rfl | rfl | rfl | rfl | rfl
    all_goals walk_at "rd"
    · rename_i h; exact k _ (.all _) _ (by walk_at "ex") h z0 z1
    · rename_i h; exact k _ (.up _ _) _ (by walk_at "ex") h ⟨a2, z0⟩ z1
    · rename_i h; exact k _ (.swap _ _) _ (by walk_at "ex") h ⟨a2, a3, a4⟩ (Nat.zero_le _)
    · rename_i h; exact k _ (.wheel _ _ _) _ (by walk_at "ex") h ⟨a2, a3, a4, z0⟩ z1
    · rename_i h; exact k _ .about _ (by walk_at "ex") h trivial (Nat.zero_le _)
    · rename_i h; exact k _ (.front _ _) _ (by walk_at "ex") h ⟨a2, a3, a4⟩ (Nat.zero_le _)
    · rename_i h; exact k _ .halve _ (by walk_at "ex") h trivial (Nat.zero_le _)
    · rename_i h; exact k _ .pair _ (by walk_at "ex") h trivial (Nat.zero_le _)
    · rename_i h; exact k _ .others _ (by walk_at "ex") h trivial (Nat.zero_le _)
    · rename_i h; exact k _ .fill _ (by walk_at "ex") h trivial (Nat.zero_le _)
end
end My

set_option Elab.async false
set_option linter.all false
set_option maxRecDepth 100000
set_option maxHeartbeats 8000000
namespace My
open PySem PySem.Spec PyProof.Rows L2 Sx
local macro_rules | `(tactic| walk_at "nb") => `(tactic| first | exact NB.tup | exact NB.ints | exact NB.len (of_decide_eq_true rfl) | exact NB.at0b rfl | exact NB.at3b rfl | exact NB.ins | exact NB.own | exact NB.frz | exact NB.refs (by assumption) | assumption)
local macro_rules | `(tactic| walk_at "ne") => `(tactic| first | assumption | exact Ne.symm (by assumption) | exact ne_of_none (by assumption) (by assumption) | exact Ne.symm (ne_of_none (by assumption) (by assumption)))
local macro_rules | `(tactic| walk_at "hk") => `(tactic| first
  | assumption
  | exact upd_same
  | (refine' (upd_ne ?hkne).trans ?hkq; (case hkne => walk_at "ne"); (case hkq => walk_at "hk"))
  | (refine' Ex.kp (by assumption) _ _ ?hkq ?hkn; (case hkq => walk_at "hk"); (case hkn => walk_at "nb")))
local macro_rules | `(tactic| walk_at "rd1") => `(tactic| first
  | ((with_reducible refine' x_var ?hx ?_); (case hx => exact rfl))
  | with_reducible refine x_c ?_
  | with_reducible refine x_op ?_
  | with_reducible refine x_un ?_
  | with_reducible refine x_I0 ?_
  | with_reducible refine x_U ?_
  | ((with_reducible refine x_I ?hc ?_); (case hc => first | exact (by decide : (0 : Int) < _) | (show (0 : Int) < _; omega) | (show CMul _ _; first | exact .inl ⟨by omega, by omega⟩ | exact .inr ⟨by omega, by omega⟩) | (show CDiv _ _; exact ⟨by omega, by omega⟩) | (show CDivW _ _; exact wide_div (b := 200) (by omega) (by assumption) (by decide) (by decide)) | (show CDivW _ _; exact wide_div (b := 31) (by omega) (by omega) (by decide) (by decide))))
  | with_reducible refine x_EqI ?_
  | with_reducible refine x_NeI ?_
  | ((with_reducible refine x_EqSt ?h ?_); (case h => decide +kernel))
  | ((with_reducible refine x_EqSf ?h ?_); (case h => decide +kernel))
  | ((with_reducible refine x_NeSt ?h ?_); (case h => decide +kernel))
  | ((with_reducible refine x_NeSf ?h ?_); (case h => decide +kernel))
  | with_reducible refine x_EqS ?_
  | with_reducible refine x_NeS ?_
  | ((with_reducible refine' x_ixL ?hq ?hi ?_); (case hq => walk_at "hk"); (case hi => first | exact rfl | assumption))
  | ((with_reducible refine' x_ixT ?hq ?hi ?_); (case hq => walk_at "hk"); (case hi => first | exact rfl | assumption))
  | with_reducible refine x_chain ?_
  | with_reducible refine x_tup ?_
  | with_reducible refine x_lst ?_
  | ((with_reducible refine x_lenNew ?hl ?_); (case hl => exact Nat.le_of_ble_eq_true rfl); intro _ _ _ _ _)
  | ((with_reducible refine x_new ?_); intro _ _ _ _ _)
  | with_reducible refine x_sl ?_
  | with_reducible refine x_noPart ?_
  | with_reducible refine x_part ?_
  | with_reducible refine x_ex_int ?_
  | with_reducible refine x_ex_bl ?_
  | with_reducible refine x_ex_2 ?_
  | with_reducible refine x_test ?_
  | with_reducible refine x_B ?_
  | with_reducible refine x_and ?_
  | with_reducible refine x_or ?_
  | with_reducible refine x_not ?_
  | with_reducible refine x_andV ?_
  | with_reducible refine x_orV ?_
  | with_reducible refine x_notV ?_
  | with_reducible refine x_ifE ?_
  | with_reducible refine x_iteT ?_
  | with_reducible refine x_iteF ?_
  | ((with_reducible refine x_iteD ?_ ?_) <;> intro _)
  | ((with_reducible refine x_iteN ?_ ?_) <;> intro _)
  | with_reducible refine x_if ?_
  | with_reducible refine x_seq ?_
  | with_reducible refine x_next ?_
  | with_reducible refine x_asg ?_
  | with_reducible refine x_gName ?_
  | ((with_reducible refine' x_gTup ?hq ?hn ?_); (case hq => walk_at "hk"); (case hn => exact rfl))
  | with_reducible refine x_gCons ?_
  | with_reducible refine x_gNil ?_
  | ((with_reducible refine' x_gConsE ?h ?_); (case h => exact rfl))
  | ((with_reducible refine x_gNilE ?h ?_); (case h => exact rfl))
  | with_reducible refine x_ret ?_
  | with_reducible refine x_drop ?_
  | with_reducible refine x_par ?_
  | ((with_reducible refine' x_aug ?hx ?_); (case hx => exact rfl))
  | with_reducible refine x_ipI ?_
  | with_reducible refine x_augS ?_
  | with_reducible refine x_gSub ?_
  | ((with_reducible refine' x_setL ?hq ?hi ?_); (case hq => walk_at "hk"); (case hi => first | exact rfl | assumption))
  | with_reducible refine x_cons ?_
  | with_reducible refine x_nil ?_
  | with_reducible refine x_CB ?_
  | with_reducible refine x_abs ?_
  | with_reducible refine x_intI ?_
  | with_reducible refine x_intB ?_
  | ((with_reducible refine' x_lenL ?hq ?_); (case hq => walk_at "hk"))
  | ((with_reducible refine' x_lenT ?hq ?_); (case hq => walk_at "hk"))
  | ((with_reducible refine x_iteTe ?h ?_); (case h => exact rfl))
  | ((with_reducible refine x_iteFe ?h ?_); (case h => exact rfl))
  | walk_at "use"
  | with_reducible refine x_callS ?_
  | ((with_reducible refine x_lc ?_))
  | ((with_reducible refine x_for ?_))
  | ((with_reducible refine x_iR1 ?_))
  | ((with_reducible refine x_iL ?_))
  | ((with_reducible refine x_iZ ?_))
  | ((with_reducible refine x_yes ?_))
  | ((with_reducible refine' x_NIDt ?hq ?_); (case hq => assumption))
  | ((with_reducible refine' x_NIDf ?hq ?_); (case hq => assumption))
  | ((with_reducible refine' x_IIDf ?hq ?_); (case hq => assumption))
  | ((with_reducible refine' x_IIDt ?hq ?_); (case hq => assumption))
  | ((with_reducible refine' x_ixDs ?hd ?hq ?_); (case hd => assumption); (case hq => assumption))
  | ((with_reducible refine x_InSt ?h ?_); (case h => decide +kernel))
  | ((with_reducible refine x_InSf ?h ?_); (case h => decide +kernel))
  | ((with_reducible refine' x_notInI ?hq ?_); (case hq => walk_at "hk"))
  | ((with_reducible refine' x_inTt ?hq ?hv ?ha ?he ?_); (case hq => walk_at "hk"); (case hv => exact rfl); (case ha => exact rfl); (case he => decide +kernel))
  | ((with_reducible refine' x_inTf ?hq ?hv ?ha ?he ?_); (case hq => walk_at "hk"); (case hv => exact rfl); (case ha => exact rfl); (case he => decide +kernel))
  | ((with_reducible refine' x_slT ?hq ?hw ?_); (case hq => walk_at "hk"); (case hw => with_unfolding_all exact of_decide_eq_true rfl))
  | ((with_reducible refine' x_slL ?hq ?_); (case hq => walk_at "hk"))
  | ((with_reducible refine' x_catT ?hq ?hr ?n1 ?n2 ?hl ?_); (case hq => walk_at "hk"); (case hr => walk_at "hk"); (case n1 => exact List.cons_ne_nil _ _); (case n2 => exact List.cons_ne_nil _ _); (case hl => exact Nat.le_of_ble_eq_true rfl))
  | ((with_reducible refine x_bm ?_))
  | ((with_reducible refine x_lstRg ?_))
  | ((with_reducible refine x_rg1 ?_))
  | ((with_reducible refine And.intro ?h ?_); (case h => exact tyL (by assumption)))
  | dsimp only)
local macro_rules | `(tactic| walk_at "use") => `(tactic| fail)
local macro_rules | `(tactic| walk_at "rd") => `(tactic| repeat' (walk_at "rd1"))
local macro_rules | `(tactic| walk_at "ex") => `(tactic| first | exact Ex.refl _ | assumption | (refine' Ex.trans ?he (by assumption); (case he => walk_at "ex")))
local macro_rules | `(tactic| walk_at "rd1") => `(tactic| first
  | ((with_reducible refine x_iteDf ?h ?_); (case h => exact rfl))
  | ((with_reducible refine x_iteDt ?h ?_); (case h => exact rfl))
  | ((with_reducible refine x_iteNf ?h ?_); (case h => exact rfl))
  | ((with_reducible refine x_iteNt ?h ?_); (case h => exact rfl))
  | ((with_reducible refine x_isiI (r := true) ?h ?_); (case h => decide +kernel))
  | ((with_reducible refine x_isiI (r := false) ?h ?_); (case h => decide +kernel))
  | ((with_reducible refine x_isiS (r := true) ?h ?_); (case h => decide +kernel))
  | ((with_reducible refine x_isiS (r := false) ?h ?_); (case h => decide +kernel))
  | ((with_reducible refine x_isiB (r := true) ?h ?_); (case h => decide +kernel))
  | ((with_reducible refine x_isiB (r := false) ?h ?_); (case h => decide +kernel))
  | ((with_reducible refine' x_isiT (r := true) ?hp ?h ?_); (case hp => walk_at "hk"); (case h => decide +kernel))
  | ((with_reducible refine' x_isiT (r := false) ?hp ?h ?_); (case hp => walk_at "hk"); (case h => decide +kernel))
  | ((with_reducible refine' x_isiL (r := true) ?hp ?h ?_); (case hp => walk_at "hk"); (case h => decide +kernel))
  | ((with_reducible refine' x_isiL (r := false) ?hp ?h ?_); (case hp => walk_at "hk"); (case h => decide +kernel))
  | ((with_reducible refine' x_isi2L ?hp ?hl ?_); (case hp => walk_at "hk"); (case hl => walk_at "hk"))
  | ((with_reducible refine' x_isi2T ?hp ?hl ?_); (case hp => walk_at "hk"); (case hl => walk_at "hk"))
  | ((with_reducible refine' x_tupOfL ?hq ?_); (case hq => walk_at "hk"))
  | ((with_reducible refine' x_tupOfT ?hq ?_); (case hq => walk_at "hk"))
  | ((with_reducible refine x_lenS ?h ?_); (case h => exact Nat.le_of_ble_eq_true rfl))
  | ((with_reducible refine' x_all ?hq ?_); (case hq => walk_at "hk"))
  | with_reducible refine x_lenSet ?_)

section
variable {P : Program} {w : World} {K : PySem.W.Frag} {mg : Str → Option Value} {base : Heap} {a : Ad} {H : Hp} {Q : VK} {E : XK} {p b : Addr} {q : C}
/-! is_integer, of an int -/
def sp_is_integer : Sp := fun vs H Q _ => ∃ i : Int, vs = [.int i] ∧ Q (.bl true) H
theorem u_is_integer {i : Int} (k : Q (.bl true) H) : sp_is_integer [.int i] H Q E := ⟨i, rfl, k⟩
theorem ok_is_integer (T : Txt K w mg a) : FnOk P w K mg base CX0 1 a.a_is_integer a.fd_is_integer ["thing"] sp_is_integer := by
  refine T.F_is_integer.ok sc_is_integer (fun vs H Q E h => ?_) (fun cdv A outer s H vs Q E hr h => ?_)
  · obtain ⟨i, rfl, _⟩ := h; rfl
  · obtain ⟨i, rfl, k⟩ := h
    refine ⟨_, (pss_one (ps_ret (pe_and (pe_callB call_isi (by rfl) T.n_isinstance (by decide +kernel) (pa_cons (pv 0) (pa_cons (pe_bltn (v := .ty "int") (u := .type "int") (by rfl) T.n_int (by decide +kernel) rfl) pa_nil))) (pe_one (pe_not (pe_callB call_isi (by rfl) T.n_isinstance (by decide +kernel) (pa_cons (pv 0) (pa_cons (pe_bltn (v := .ty "bool") (u := .type "bool") (by rfl) T.n_bool (by decide +kernel) rfl) pa_nil)))))))), ?_⟩
    walk_at "rd"
    exact k
local macro_rules | `(tactic| walk_at "use") => `(tactic| with_reducible refine u_is_integer ?_)
/-! is_files, of an int -/
def sp_is_files : Sp := fun vs H Q _ => ∃ i : Int, vs = [.int i] ∧ Q (.bl (decide (2 ≤ i ∧ i ≤ 3))) H
theorem u_is_files {i : Int} (k : Q (.bl (decide (2 ≤ i ∧ i ≤ 3))) H) : sp_is_files [.int i] H Q E := ⟨i, rfl, k⟩
theorem ok_is_files (T : Txt K w mg a) : FnOk P w K mg base CX0 2 a.a_is_files a.fd_is_files ["thing"] sp_is_files := by
  refine T.F_is_files.ok sc_is_files (fun vs H Q E h => ?_) (fun cdv A outer s H vs Q E hr h => ?_)
  · obtain ⟨i, rfl, _⟩ := h; rfl
  · obtain ⟨i, rfl, k⟩ := h
    have G_is_integer := ok_is_integer (P := P) (base := base) T
    refine ⟨_, (pss_one (ps_ret (pe_and (pe_call G_is_integer (hr.mono (by decide)) (by rfl) T.m_is_integer T.k_is_integer T.b_is_integer .nil pass0 (pa_cons (pv 0) pa_nil)) (pe_one (pe_chain op_le op_le pe_int (pv 0) pe_int))))), ?_⟩
    walk_at "rd"
    · rename_i h; simpa [h] using k
    · rename_i h; simpa [h] using k
local macro_rules | `(tactic| walk_at "use") => `(tactic| with_reducible refine u_is_files ?_)
/-! is_index, of ints -/
def sp_is_index : Sp := fun vs H Q _ => ∃ i n : Int, vs = [.int i, .int n] ∧ Q (.bl (decide (0 ≤ i ∧ i < n))) H
theorem u_is_index {i n : Int} (k : Q (.bl (decide (0 ≤ i ∧ i < n))) H) : sp_is_index [.int i, .int n] H Q E := ⟨i, n, rfl, k⟩
theorem ok_is_index (T : Txt K w mg a) : FnOk P w K mg base CX0 2 a.a_is_index a.fd_is_index ["thing", "many"] sp_is_index := by
  refine T.F_is_index.ok sc_is_index (fun vs H Q E h => ?_) (fun cdv A outer s H vs Q E hr h => ?_)
  · obtain ⟨i, n, rfl, _⟩ := h; rfl
  · obtain ⟨i, n, rfl, k⟩ := h
    have G_is_integer := ok_is_integer (P := P) (base := base) T
    refine ⟨_, (pss_one (ps_ret (pe_and (pe_call G_is_integer (hr.mono (by decide)) (by rfl) T.m_is_integer T.k_is_integer T.b_is_integer .nil pass0 (pa_cons (pv 0) pa_nil)) (pe_one (pe_chain op_le op_lt pe_int (pv 0) (pv 1)))))), ?_⟩
    walk_at "rd"
    · rename_i h; simpa [h] using k
    · rename_i h; simpa [h] using k
local macro_rules | `(tactic| walk_at "use") => `(tactic| with_reducible refine u_is_index ?_)
/-! is_part, of an int -/
def partOk (files : Int) (part : Str) (i : Int) : Bool := if part = "f" then decide (0 ≤ i ∧ i < files) else !decide (i = 0)
def sp_is_part : Sp := fun vs H Q _ => ∃ (files : Int) (part : Str) (i : Int), vs = [.int files, .str part, .int i] ∧ Q (.bl (partOk files part i)) H
theorem u_is_part {files i : Int} {part : Str} (k : Q (.bl (partOk files part i)) H) : sp_is_part [.int files, .str part, .int i] H Q E := ⟨files, part, i, rfl, k⟩
theorem ok_is_part (T : Txt K w mg a) : FnOk P w K mg base CX0 3 a.a_is_part a.fd_is_part ["files", "part", "item"] sp_is_part := by
  refine T.F_is_part.ok sc_is_part (fun vs H Q E h => ?_) (fun cdv A outer s H vs Q E hr h => ?_)
  · obtain ⟨f, x, i, rfl, _⟩ := h; rfl
  · obtain ⟨f, x, i, rfl, k⟩ := h
    have G_is_integer := ok_is_integer (P := P) (base := base) T
    have G_is_index := ok_is_index (P := P) (base := base) T
    unfold partOk at k
    refine ⟨_, (pss_cons (ps_if (pt_cmpR op_eq (pv 1) pe_str (nomark _)) (pss_one (ps_ret (pe_call G_is_index (hr.mono (by decide)) (by rfl) T.m_is_index T.k_is_index T.b_is_index .nil pass0 (pa_cons (pv 2) (pa_cons (pv 0) pa_nil))))) pss_nil)
      (pss_one (ps_ret (pe_and (pe_call G_is_integer (hr.mono (by decide)) (by rfl) T.m_is_integer T.k_is_integer T.b_is_integer .nil pass0 (pa_cons (pv 2) pa_nil)) (pe_one (pe_cmpR op_ne (pv 2) pe_int (nomark _))))))), ?_⟩
    walk_at "rd"
    · rename_i h; rw [if_pos h] at k; exact k
    · rename_i h; rw [if_neg h] at k; exact k
end
end My

set_option Elab.async false
set_option linter.all false
set_option maxRecDepth 100000
set_option maxHeartbeats 8000000
namespace My
open PySem PySem.Spec PyProof.Rows L2 Sx
local macro_rules | `(tactic| walk_at "nb") => `(tactic| first | exact NB.tup | exact NB.ints | exact NB.len (of_decide_eq_true rfl) | exact NB.at0b rfl | exact NB.at3b rfl | exact NB.ins | exact NB.own | exact NB.frz | exact NB.refs (by assumption) | assumption)
local macro_rules | `(tactic| walk_at "ne") => `(tactic| first | assumption | exact Ne.symm (by assumption) | exact ne_of_none (by assumption) (by assumption) | exact Ne.symm (ne_of_none (by assumption) (by assumption)))
local macro_rules | `(tactic| walk_at "hk") => `(tactic| first
  | assumption
  | exact upd_same
  | (refine' (upd_ne ?hkne).trans ?hkq; (case hkne => walk_at "ne"); (case hkq => walk_at "hk"))
  | (refine' Ex.kp (by assumption) _ _ ?hkq ?hkn; (case hkq => walk_at "hk"); (case hkn => walk_at "nb")))
local macro_rules | `(tactic| walk_at "rd1") => `(tactic| first
  | ((with_reducible refine' x_var ?hx ?_); (case hx => exact rfl))
  | with_reducible refine x_c ?_
  | with_reducible refine x_op ?_
  | with_reducible refine x_un ?_
  | with_reducible refine x_I0 ?_
  | with_reducible refine x_U ?_
  | ((with_reducible refine x_I ?hc ?_); (case hc => first | exact (by decide : (0 : Int) < _) | (show (0 : Int) < _; omega) | (show CMul _ _; first | exact .inl ⟨by omega, by omega⟩ | exact .inr ⟨by omega, by omega⟩) | (show CDiv _ _; exact ⟨by omega, by omega⟩) | (show CDivW _ _; exact wide_div (b := 200) (by omega) (by assumption) (by decide) (by decide)) | (show CDivW _ _; exact wide_div (b := 31) (by omega) (by omega) (by decide) (by decide))))
  | with_reducible refine x_EqI ?_
  | with_reducible refine x_NeI ?_
  | ((with_reducible refine x_EqSt ?h ?_); (case h => decide +kernel))
  | ((with_reducible refine x_EqSf ?h ?_); (case h => decide +kernel))
  | ((with_reducible refine x_NeSt ?h ?_); (case h => decide +kernel))
  | ((with_reducible refine x_NeSf ?h ?_); (case h => decide +kernel))
  | with_reducible refine x_EqS ?_
  | with_reducible refine x_NeS ?_
  | ((with_reducible refine' x_ixL ?hq ?hi ?_); (case hq => walk_at "hk"); (case hi => first | exact rfl | assumption))
  | ((with_reducible refine' x_ixT ?hq ?hi ?_); (case hq => walk_at "hk"); (case hi => first | exact rfl | assumption))
  | with_reducible refine x_chain ?_
  | with_reducible refine x_tup ?_
  | with_reducible refine x_lst ?_
  | ((with_reducible refine x_lenNew ?hl ?_); (case hl => exact Nat.le_of_ble_eq_true rfl); intro _ _ _ _ _)
  | ((with_reducible refine x_new ?_); intro _ _ _ _ _)
  | with_reducible refine x_sl ?_
  | with_reducible refine x_noPart ?_
  | with_reducible refine x_part ?_
  | with_reducible refine x_ex_int ?_
  | with_reducible refine x_ex_bl ?_
  | with_reducible refine x_ex_2 ?_
  | with_reducible refine x_test ?_
  | with_reducible refine x_B ?_
  | with_reducible refine x_and ?_
  | with_reducible refine x_or ?_
  | with_reducible refine x_not ?_
  | with_reducible refine x_andV ?_
  | with_reducible refine x_orV ?_
  | with_reducible refine x_notV ?_
  | with_reducible refine x_ifE ?_
  | with_reducible refine x_iteT ?_
  | with_reducible refine x_iteF ?_
  | ((with_reducible refine x_iteD ?_ ?_) <;> intro _)
  | ((with_reducible refine x_iteN ?_ ?_) <;> intro _)
  | with_reducible refine x_if ?_
  | with_reducible refine x_seq ?_
  | with_reducible refine x_next ?_
  | with_reducible refine x_asg ?_
  | with_reducible refine x_gName ?_
  | ((with_reducible refine' x_gTup ?hq ?hn ?_); (case hq => walk_at "hk"); (case hn => exact rfl))
  | with_reducible refine x_gCons ?_
  | with_reducible refine x_gNil ?_
  | ((with_reducible refine' x_gConsE ?h ?_); (case h => exact rfl))
  | ((with_reducible refine x_gNilE ?h ?_); (case h => exact rfl))
  | with_reducible refine x_ret ?_
  | with_reducible refine x_drop ?_
  | with_reducible refine x_par ?_
  | ((with_reducible refine' x_aug ?hx ?_); (case hx => exact rfl))
  | with_reducible refine x_ipI ?_
  | with_reducible refine x_augS ?_
  | with_reducible refine x_gSub ?_
  | ((with_reducible refine' x_setL ?hq ?hi ?_); (case hq => walk_at "hk"); (case hi => first | exact rfl | assumption))
  | with_reducible refine x_cons ?_
  | with_reducible refine x_nil ?_
  | with_reducible refine x_CB ?_
  | with_reducible refine x_abs ?_
  | with_reducible refine x_intI ?_
  | with_reducible refine x_intB ?_
  | ((with_reducible refine' x_lenL ?hq ?_); (case hq => walk_at "hk"))
  | ((with_reducible refine' x_lenT ?hq ?_); (case hq => walk_at "hk"))
  | ((with_reducible refine x_iteTe ?h ?_); (case h => exact rfl))
  | ((with_reducible refine x_iteFe ?h ?_); (case h => exact rfl))
  | walk_at "use"
  | with_reducible refine x_callS ?_
  | ((with_reducible refine x_lc ?_))
  | ((with_reducible refine x_for ?_))
  | ((with_reducible refine x_iR1 ?_))
  | ((with_reducible refine x_iL ?_))
  | ((with_reducible refine x_iZ ?_))
  | ((with_reducible refine x_yes ?_))
  | ((with_reducible refine' x_NIDt ?hq ?_); (case hq => assumption))
  | ((with_reducible refine' x_NIDf ?hq ?_); (case hq => assumption))
  | ((with_reducible refine' x_IIDf ?hq ?_); (case hq => assumption))
  | ((with_reducible refine' x_IIDt ?hq ?_); (case hq => assumption))
  | ((with_reducible refine' x_ixDs ?hd ?hq ?_); (case hd => assumption); (case hq => assumption))
  | ((with_reducible refine x_InSt ?h ?_); (case h => decide +kernel))
  | ((with_reducible refine x_InSf ?h ?_); (case h => decide +kernel))
  | ((with_reducible refine' x_notInI ?hq ?_); (case hq => walk_at "hk"))
  | ((with_reducible refine' x_inTt ?hq ?hv ?ha ?he ?_); (case hq => walk_at "hk"); (case hv => exact rfl); (case ha => exact rfl); (case he => decide +kernel))
  | ((with_reducible refine' x_inTf ?hq ?hv ?ha ?he ?_); (case hq => walk_at "hk"); (case hv => exact rfl); (case ha => exact rfl); (case he => decide +kernel))
  | ((with_reducible refine' x_slT ?hq ?hw ?_); (case hq => walk_at "hk"); (case hw => with_unfolding_all exact of_decide_eq_true rfl))
  | ((with_reducible refine' x_slL ?hq ?_); (case hq => walk_at "hk"))
  | ((with_reducible refine' x_catT ?hq ?hr ?n1 ?n2 ?hl ?_); (case hq => walk_at "hk"); (case hr => walk_at "hk"); (case n1 => exact List.cons_ne_nil _ _); (case n2 => exact List.cons_ne_nil _ _); (case hl => exact Nat.le_of_ble_eq_true rfl))
  | ((with_reducible refine x_bm ?_))
  | ((with_reducible refine x_lstRg ?_))
  | ((with_reducible refine x_rg1 ?_))
  | ((with_reducible refine And.intro ?h ?_); (case h => exact tyL (by assumption)))
  | dsimp only)
local macro_rules | `(tactic| walk_at "use") => `(tactic| fail)
local macro_rules | `(tactic| walk_at "rd") => `(tactic| repeat' (walk_at "rd1"))
local macro_rules | `(tactic| walk_at "ex") => `(tactic| first | exact Ex.refl _ | assumption | (refine' Ex.trans ?he (by assumption); (case he => walk_at "ex")))
local macro_rules | `(tactic| walk_at "rd1") => `(tactic| first
  | ((with_reducible refine x_iteDf ?h ?_); (case h => exact rfl))
  | ((with_reducible refine x_iteDt ?h ?_); (case h => exact rfl))
  | ((with_reducible refine x_iteNf ?h ?_); (case h => exact rfl))
  | ((with_reducible refine x_iteNt ?h ?_); (case h => exact rfl))
  | ((with_reducible refine x_isiI (r := true) ?h ?_); (case h => decide +kernel))
  | ((with_reducible refine x_isiI (r := false) ?h ?_); (case h => decide +kernel))
  | ((with_reducible refine x_isiS (r := true) ?h ?_); (case h => decide +kernel))
  | ((with_reducible refine x_isiS (r := false) ?h ?_); (case h => decide +kernel))
  | ((with_reducible refine x_isiB (r := true) ?h ?_); (case h => decide +kernel))
  | ((with_reducible refine x_isiB (r := false) ?h ?_); (case h => decide +kernel))
  | ((with_reducible refine' x_isiT (r := true) ?hp ?h ?_); (case hp => walk_at "hk"); (case h => decide +kernel))
  | ((with_reducible refine' x_isiT (r := false) ?hp ?h ?_); (case hp => walk_at "hk"); (case h => decide +kernel))
  | ((with_reducible refine' x_isiL (r := true) ?hp ?h ?_); (case hp => walk_at "hk"); (case h => decide +kernel))
  | ((with_reducible refine' x_isiL (r := false) ?hp ?h ?_); (case hp => walk_at "hk"); (case h => decide +kernel))
  | ((with_reducible refine' x_isi2L ?hp ?hl ?_); (case hp => walk_at "hk"); (case hl => walk_at "hk"))
  | ((with_reducible refine' x_isi2T ?hp ?hl ?_); (case hp => walk_at "hk"); (case hl => walk_at "hk"))
  | ((with_reducible refine' x_tupOfL ?hq ?_); (case hq => walk_at "hk"))
  | ((with_reducible refine' x_tupOfT ?hq ?_); (case hq => walk_at "hk"))
  | ((with_reducible refine x_lenS ?h ?_); (case h => exact Nat.le_of_ble_eq_true rfl))
  | ((with_reducible refine' x_all ?hq ?_); (case hq => walk_at "hk"))
  | with_reducible refine x_lenSet ?_)

section
variable {P : Program} {w : World} {K : PySem.W.Frag} {mg : Str → Option Value} {base : Heap} {a : Ad} {H : Hp} {Q : VK} {E : XK} {p b : Addr} {q : C} {files : Int}
local macro_rules | `(tactic| walk_at "use") => `(tactic| with_reducible refine u_is_part ?_)
local macro_rules | `(tactic| walk_at "use") => `(tactic| ((with_reducible refine' u_files_of ?hq ?_); (case hq => walk_at "hk"); intro _ _ _ _ _ _ _))
/-- the call has a k and it is not 0, its files are such and different -/
def C.kOk : C → Prop
  | .all k => k ≠ 0 | .up _ k => k ≠ 0 | .wheel _ _ k => k ≠ 0 | _ => True
structure C.Good (files : Int) (q : C) : Prop where
  fs : ∀ f ∈ q.named, 0 ≤ f ∧ f < files
  nd : q.named.Nodup
  k : q.kOk
def C.mirrored (n : Int) : C → C
  | .up f k => .up (n - 1 - f) k | .swap f g => .swap (n - 1 - f) (n - 1 - g) | .wheel f g k => .wheel (n - 1 - f) (n - 1 - g) k | .front f g => .front (n - 1 - f) (n - 1 - g) | q => q
theorem C.Good.turned (h : q.Good files) : q.turned.Good files := by
  obtain ⟨h1, h2, h3⟩ := h
  cases q <;> refine ⟨h1, h2, ?_⟩ <;> simp only [C.turned, C.kOk] at h3 ⊢ <;> omega
theorem C.Good.mirrored (h : q.Good files) : (q.mirrored files).Good files := by
  obtain ⟨h1, h2, h3⟩ := h
  cases q <;> refine ⟨?_, ?_, h3⟩ <;> simp [C.mirrored, C.named] at h1 h2 ⊢ <;> omega
theorem partF {i : Int} (h : 0 ≤ i ∧ i < files) : partOk files ⟨#[102]⟩ i = true := by
  unfold partOk
  rw [if_pos (str1_eq.mpr rfl)]
  exact decide_eq_true h
theorem partK {i : Int} (h : i ≠ 0) : partOk files ⟨#[107]⟩ i = true := by
  unfold partOk
  rw [if_neg (fun e => by have := str1_eq.mp e; omega), decide_eq_false h]
  rfl
/-! is_call, of a call -/
def sp_is_call : Sp := fun vs H Q _ => ∃ (files : Int) (p : Addr) (q : C), vs = [.int files, .ref p] ∧ H p = some (.tup q.vals) ∧ q.Good files ∧ ∀ H1, Ex H H1 → Q (.bl true) H1
theorem u_is_call (h : H p = some (.tup q.vals)) (g : q.Good files) (k : ∀ H1, Ex H H1 → Q (.bl true) H1) : sp_is_call [.int files, .ref p] H Q E := ⟨files, p, q, rfl, h, g, k⟩
/-- the parts of a call that is one -/
def PartsOk (files : Int) : List Nat → List Int → Prop
  | c :: cs, y :: ys => partOk files ⟨#[c]⟩ y = true ∧ PartsOk files cs ys
  | _, _ => True
theorem PartsOk.at_ : ∀ {cs : List Nat} {ys : List Int}, PartsOk files cs ys → ∀ (i c : Nat) (y : Int), cs[i]? = some c → ys[i]? = some y → partOk files ⟨#[c]⟩ y = true
  | [], _, _, _, _, _, h, _ => nomatch h
  | _ :: _, [], _, _, _, _, _, h => nomatch h
  | _ :: _, _ :: _, ⟨h, _⟩, 0, _, _, h1, h2 => by cases h1; cases h2; exact h
  | _ :: _, _ :: _, ⟨_, h⟩, i + 1, _, _, h1, h2 => h.at_ i _ _ h1 h2
theorem zip_parts {σ : L2.St} {x : Str} {ys : List Int} {H1 : Hp} {te : TE} (hx : H1 b = some (.tup (ys.map V.int))) (hn : x.cps.size = ys.length) (h4 : ys.length ≤ 1000) (hp : PartsOk files x.cps.toList ys)
    (hw : ∀ u v, wipe (((wipe σ [5, 6]).set 5 (some u)).set 6 (some v)) [5, 6] = wipe σ [5, 6])
    (hte : ∀ (c : Nat) (y : Int) (H' : Hp) (Q' : VK), partOk files ⟨#[c]⟩ y = true → Q' (.bl true) H' → te (((wipe σ [5, 6]).set 5 (some (.str ⟨#[c]⟩))).set 6 (some (.int y))) H' Q')
    (k : ∀ p H2, Ex H1 H2 → H1 p = none → H2 p = some (.lst ((List.zipWith (fun _ _ => true) x.cps.toList ys).map V.bl)) → Q (.ref p) H2) :
    ZK K [.str x, .ref b] H1 fun J H2 => LcGo J (gTup K 2 (gCons (gName 5) (gCons (gName 6) gNil))) tYes te [5, 6] σ H2 Q := by
  have e : List.zipWith (fun _ _ => V.bl true) x.cps.toList ys = (List.zipWith (fun _ _ => true) x.cps.toList ys).map V.bl := by rw [List.map_zipWith]
  refine zip_gen (f := fun _ _ => .bl true) hx hn h4 (fun i => by rw [e, ← List.map_take]; exact NB.bls) hw (fun i c y H' Q' hc hy kk => hte c y H' Q' (hp.at_ i c y hc hy) kk) fun p H2 e1 e2 e3 => k p H2 e1 e2 (by rw [e3, e])
theorem C.good_parts (g : q.Good files) : PartsOk files q.pp.cps.toList q.ar := by
  obtain ⟨g1, g2, g3⟩ := g
  cases q with
  | all k => exact ⟨partK g3, trivial⟩
  | up f k => exact ⟨partF (g1 f (.head _)), partK g3, trivial⟩
  | swap f g => exact ⟨partF (g1 f (.head _)), partF (g1 g (.tail _ (.head _))), trivial⟩
  | wheel f g k => exact ⟨partF (g1 f (.head _)), partF (g1 g (.tail _ (.head _))), partK g3, trivial⟩
  | front f g => exact ⟨partF (g1 f (.head _)), partF (g1 g (.tail _ (.head _))), trivial⟩
  | about => exact trivial
  | halve => exact trivial
  | pair => exact trivial
  | others => exact trivial
  | fill => exact trivial
theorem C.valsLen : (q.vals.length : Int) = q.ar.length + 1 := by cases q <;> rfl
theorem C.ppLen : (q.pp.length : Int) = q.ar.length := by cases q <;> rfl
theorem C.ppLe : q.pp.length ≤ sizeLine := by cases q <;> exact Nat.le_of_ble_eq_true rfl
theorem C.allTrue : (List.zipWith (fun _ _ => true) q.pp.cps.toList q.ar).all id = true := by cases q <;> rfl
theorem ok_is_call (T : Txt K w mg a) : FnOk P w K mg base CX0 4 a.a_is_call a.fd_is_call ["files", "thing"] sp_is_call := by
  refine T.F_is_call.ok sc_is_call (fun vs H Q E h => ?_) (fun cdv A outer s H vs Q E hr h => ?_)
  · obtain ⟨f, p, q, rfl, _⟩ := h; rfl
  · obtain ⟨f, p, q, rfl, hp, hg, k⟩ := h
    have G_is_part := ok_is_part (P := P) (base := base) T
    have G_files_of := ok_files_of (P := P) (base := base) T
    refine ⟨_, (pss_cons (ps_if (PW.pt (pw_or (pt_not (pt_val (pe_callB call_isi (by rfl) T.n_isinstance (by decide +kernel) (pa_cons (pv 1) (pa_cons (pe_bltn (v := .ty "tuple") (u := .type "tuple") (by rfl) T.n_tuple (by decide +kernel) rfl) pa_nil))))) (pw_or1 (pt_cmpR op_eq (pe_callB c_len (by rfl) T.n_len PySem.boot_len (pa_cons (pv 1) pa_nil)) pe_int (nomark _))))) (pss_one (ps_ret pe_bl)) pss_nil)
      (pss_cons (ps_set (i := 2) sc_is_call.nd rfl (Or.inl rfl) (pe_ix ix_tup (pv 1) pe_int (fun _ _ => rfl)))
      (pss_cons (ps_if (PW.pt (pw_or (pt_not (pt_val (pe_callB call_isi (by rfl) T.n_isinstance (by decide +kernel) (pa_cons (pv 2) (pa_cons (pe_bltn (v := .ty "str") (u := .type "str") (by rfl) T.n_str (by decide +kernel) rfl) pa_nil))))) (pw_or1 (pt_cmpR (c_notInD T.d_PARTS) (pv 2) (pe_glob (v := .ref a.d_PARTS) (by rfl) T.g_PARTS rfl) (by rfl))))) (pss_one (ps_ret pe_bl)) pss_nil)
      (pss_cons (ps_set (i := 3) sc_is_call.nd rfl (Or.inl rfl) (pe_ix ix_kdict (pe_glob (v := .ref a.d_PARTS) (by rfl) T.g_PARTS rfl) (pv 2) (fun _ _ => rfl)))
      (pss_cons (ps_if (pt_cmpR op_ne (pe_callB c_len (by rfl) T.n_len PySem.boot_len (pa_cons (pv 1) pa_nil)) (pe_op op_add (pe_callB c_lenS (by rfl) T.n_len PySem.boot_len (pa_cons (pv 3) pa_nil)) pe_int) (nomark _)) (pss_one (ps_ret pe_bl)) pss_nil)
      (pss_cons (ps_if (pt_not (pt_val (pe_callB (cr_all rfl) (by rfl) T.n_all (by decide +kernel) (pa_cons (pe_lc (own := [("part", 5), ("item", 6)]) rfl sc_is_call.nd (Zst.pi_zipS (by rfl) T.n_zip (pa_cons (pv 3) (pa_cons (pe_slice sl_tup (pv 1) (po_some pe_int) po_none) pa_nil))) (blkOk_by (own := [("part", 5), ("item", 6)]) (N := ["files", "thing", "word", "parts", "named", "part", "item"]) (sc := defScope s_is_call) (by decide +kernel)) (fun _ _ _ _ _ => (pg_tupB (n := 2) rfl (pgs_cons (pg_name (i := 5) sc_is_call.nd rfl (Or.inl rfl) (Or.inr rfl)) (pgs_cons (pg_name (i := 6) sc_is_call.nd rfl (Or.inl rfl) (Or.inr rfl)) pgs_nil)))) (fun _ _ _ _ _ => pts_nil) (fun _ _ _ _ _ => (pe_call G_is_part (hr.mono (by decide)) (by rfl) T.m_is_part T.k_is_part T.b_is_part .nil pass0 (pa_cons (pv 0) (pa_cons (pv 5) (pa_cons (pv 6) pa_nil)))))) pa_nil)))) (pss_one (ps_ret pe_bl)) pss_nil)
      (pss_cons (ps_set (i := 4) sc_is_call.nd rfl (Or.inl rfl) (pe_call G_files_of (hr.mono (by decide)) (by rfl) T.m_files_of T.k_files_of T.b_files_of .nil pass0 (pa_cons (pv 1) pa_nil)))
      (pss_one (ps_ret (pe_cmpR op_eq (Ow.pe_lenSetI rfl (by rfl) T.n_len (by rfl) T.n_set (pv 4)) (pe_callB c_len (by rfl) T.n_len PySem.boot_len (pa_cons (pv 4) pa_nil)) (nomark _))))))))))), ?_⟩
    have d_PARTS := T.d_PARTS
    have hw := C.partOf (q := q) T
    obtain ⟨_, hv⟩ := id hw
    have h0 : atI q.vals 0 = some (.str q.wd) := C.wd0
    have l1 := C.valsLen (q := q)
    have l2 := C.ppLen (q := q)
    walk_at "rd"
    · omega
    refine x_lenS C.ppLe ?_
    walk_at "rd"
    · omega
    refine x_slT hp C.noWhole ?_
    walk_at "rd"
    rename_i h
    rw [C.cut1] at h
    refine zip_parts h C.ppar C.arLe (C.good_parts hg) (fun u v => rfl) (fun c y H' Q' ok kk => by walk_at "rd"; rw [ok]; exact kk) fun p1 H2 e1 e2 e3 => ?_
    walk_at "rd"
    rw [C.allTrue]
    walk_at "rd"
    refine' x_lenSetN ?hq ?pm ?nd ?hl ?_; (case hq => walk_at "hk"); (case pm => assumption); (case nd => exact hg.nd); (case hl => exact Nat.le_trans (Nat.le_of_lt C.namedLt) (by decide))
    walk_at "rd"
    rw [List.length_map, decide_eq_true rfl]
    exact k _ (by walk_at "ex")
end
end My

set_option Elab.async false
set_option linter.all false
set_option maxRecDepth 100000
set_option maxHeartbeats 8000000
namespace My
open PySem PySem.Spec PyProof.Rows L2 Sx
local macro_rules | `(tactic| walk_at "nb") => `(tactic| first | exact NB.tup | exact NB.ints | exact NB.len (of_decide_eq_true rfl) | exact NB.at0b rfl | exact NB.at3b rfl | exact NB.ins | exact NB.own | exact NB.frz | exact NB.refs (by assumption) | assumption)
local macro_rules | `(tactic| walk_at "ne") => `(tactic| first | assumption | exact Ne.symm (by assumption) | exact ne_of_none (by assumption) (by assumption) | exact Ne.symm (ne_of_none (by assumption) (by assumption)))
local macro_rules | `(tactic| walk_at "hk") => `(tactic| first
  | assumption
  | exact upd_same
  | (refine' (upd_ne ?hkne).trans ?hkq; (case hkne => walk_at "ne"); (case hkq => walk_at "hk"))
  | (refine' Ex.kp (by assumption) _ _ ?hkq ?hkn; (case hkq => walk_at "hk"); (case hkn => walk_at "nb")))
local macro_rules | `(tactic| walk_at "rd1") => `(tactic| first
  | ((with_reducible refine' x_var ?hx ?_); (case hx => exact rfl))
  | with_reducible refine x_c ?_
  | with_reducible refine x_op ?_
  | with_reducible refine x_un ?_
  | with_reducible refine x_I0 ?_
  | with_reducible refine x_U ?_
  | ((with_reducible refine x_I ?hc ?_); (case hc => first | exact (by decide : (0 : Int) < _) | (show (0 : Int) < _; omega) | (show CMul _ _; first | exact .inl ⟨by omega, by omega⟩ | exact .inr ⟨by omega, by omega⟩) | (show CDiv _ _; exact ⟨by omega, by omega⟩) | (show CDivW _ _; exact wide_div (b := 200) (by omega) (by assumption) (by decide) (by decide)) | (show CDivW _ _; exact wide_div (b := 31) (by omega) (by omega) (by decide) (by decide))))
  | with_reducible refine x_EqI ?_
  | with_reducible refine x_NeI ?_
  | ((with_reducible refine x_EqSt ?h ?_); (case h => decide +kernel))
  | ((with_reducible refine x_EqSf ?h ?_); (case h => decide +kernel))
  | ((with_reducible refine x_NeSt ?h ?_); (case h => decide +kernel))
  | ((with_reducible refine x_NeSf ?h ?_); (case h => decide +kernel))
  | with_reducible refine x_EqS ?_
  | with_reducible refine x_NeS ?_
  | ((with_reducible refine' x_ixL ?hq ?hi ?_); (case hq => walk_at "hk"); (case hi => first | exact rfl | assumption))
  | ((with_reducible refine' x_ixT ?hq ?hi ?_); (case hq => walk_at "hk"); (case hi => first | exact rfl | assumption))
  | with_reducible refine x_chain ?_
  | with_reducible refine x_tup ?_
  | with_reducible refine x_lst ?_
  | ((with_reducible refine x_lenNew ?hl ?_); (case hl => exact Nat.le_of_ble_eq_true rfl); intro _ _ _ _ _)
  | ((with_reducible refine x_new ?_); intro _ _ _ _ _)
  | with_reducible refine x_sl ?_
  | with_reducible refine x_noPart ?_
  | with_reducible refine x_part ?_
  | with_reducible refine x_ex_int ?_
  | with_reducible refine x_ex_bl ?_
  | with_reducible refine x_ex_2 ?_
  | with_reducible refine x_test ?_
  | with_reducible refine x_B ?_
  | with_reducible refine x_and ?_
  | with_reducible refine x_or ?_
  | with_reducible refine x_not ?_
  | with_reducible refine x_andV ?_
  | with_reducible refine x_orV ?_
  | with_reducible refine x_notV ?_
  | with_reducible refine x_ifE ?_
  | with_reducible refine x_iteT ?_
  | with_reducible refine x_iteF ?_
  | ((with_reducible refine x_iteD ?_ ?_) <;> intro _)
  | ((with_reducible refine x_iteN ?_ ?_) <;> intro _)
  | with_reducible refine x_if ?_
  | with_reducible refine x_seq ?_
  | with_reducible refine x_next ?_
  | with_reducible refine x_asg ?_
  | with_reducible refine x_gName ?_
  | ((with_reducible refine' x_gTup ?hq ?hn ?_); (case hq => walk_at "hk"); (case hn => exact rfl))
  | with_reducible refine x_gCons ?_
  | with_reducible refine x_gNil ?_
  | ((with_reducible refine' x_gConsE ?h ?_); (case h => exact rfl))
  | ((with_reducible refine x_gNilE ?h ?_); (case h => exact rfl))
  | with_reducible refine x_ret ?_
  | with_reducible refine x_drop ?_
  | with_reducible refine x_par ?_
  | ((with_reducible refine' x_aug ?hx ?_); (case hx => exact rfl))
  | with_reducible refine x_ipI ?_
  | with_reducible refine x_augS ?_
  | with_reducible refine x_gSub ?_
  | ((with_reducible refine' x_setL ?hq ?hi ?_); (case hq => walk_at "hk"); (case hi => first | exact rfl | assumption))
  | with_reducible refine x_cons ?_
  | with_reducible refine x_nil ?_
  | with_reducible refine x_CB ?_
  | with_reducible refine x_abs ?_
  | with_reducible refine x_intI ?_
  | with_reducible refine x_intB ?_
  | ((with_reducible refine' x_lenL ?hq ?_); (case hq => walk_at "hk"))
  | ((with_reducible refine' x_lenT ?hq ?_); (case hq => walk_at "hk"))
  | ((with_reducible refine x_iteTe ?h ?_); (case h => exact rfl))
  | ((with_reducible refine x_iteFe ?h ?_); (case h => exact rfl))
  | walk_at "use"
  | with_reducible refine x_callS ?_
  | ((with_reducible refine x_lc ?_))
  | ((with_reducible refine x_for ?_))
  | ((with_reducible refine x_iR1 ?_))
  | ((with_reducible refine x_iL ?_))
  | ((with_reducible refine x_iZ ?_))
  | ((with_reducible refine x_yes ?_))
  | ((with_reducible refine' x_NIDt ?hq ?_); (case hq => assumption))
  | ((with_reducible refine' x_NIDf ?hq ?_); (case hq => assumption))
  | ((with_reducible refine' x_IIDf ?hq ?_); (case hq => assumption))
  | ((with_reducible refine' x_IIDt ?hq ?_); (case hq => assumption))
  | ((with_reducible refine' x_ixDs ?hd ?hq ?_); (case hd => assumption); (case hq => assumption))
  | ((with_reducible refine x_InSt ?h ?_); (case h => decide +kernel))
  | ((with_reducible refine x_InSf ?h ?_); (case h => decide +kernel))
  | ((with_reducible refine' x_notInI ?hq ?_); (case hq => walk_at "hk"))
  | ((with_reducible refine' x_inTt ?hq ?hv ?ha ?he ?_); (case hq => walk_at "hk"); (case hv => exact rfl); (case ha => exact rfl); (case he => decide +kernel))
  | ((with_reducible refine' x_inTf ?hq ?hv ?ha ?he ?_); (case hq => walk_at "hk"); (case hv => exact rfl); (case ha => exact rfl); (case he => decide +kernel))
  | ((with_reducible refine' x_slT ?hq ?hw ?_); (case hq => walk_at "hk"); (case hw => with_unfolding_all exact of_decide_eq_true rfl))
  | ((with_reducible refine' x_slL ?hq ?_); (case hq => walk_at "hk"))
  | ((with_reducible refine' x_catT ?hq ?hr ?n1 ?n2 ?hl ?_); (case hq => walk_at "hk"); (case hr => walk_at "hk"); (case n1 => exact List.cons_ne_nil _ _); (case n2 => exact List.cons_ne_nil _ _); (case hl => exact Nat.le_of_ble_eq_true rfl))
  | ((with_reducible refine x_bm ?_))
  | ((with_reducible refine x_lstRg ?_))
  | ((with_reducible refine x_rg1 ?_))
  | ((with_reducible refine And.intro ?h ?_); (case h => exact tyL (by assumption)))
  | dsimp only)
local macro_rules | `(tactic| walk_at "use") => `(tactic| fail)
local macro_rules | `(tactic| walk_at "rd") => `(tactic| repeat' (walk_at "rd1"))
local macro_rules | `(tactic| walk_at "ex") => `(tactic| first | exact Ex.refl _ | assumption | (refine' Ex.trans ?he (by assumption); (case he => walk_at "ex")))
local macro_rules | `(tactic| walk_at "rd1") => `(tactic| first
  | ((with_reducible refine x_iteDf ?h ?_); (case h => exact rfl))
  | ((with_reducible refine x_iteDt ?h ?_); (case h => exact rfl))
  | ((with_reducible refine x_iteNf ?h ?_); (case h => exact rfl))
  | ((with_reducible refine x_iteNt ?h ?_); (case h => exact rfl))
  | ((with_reducible refine x_isiI (r := true) ?h ?_); (case h => decide +kernel))
  | ((with_reducible refine x_isiI (r := false) ?h ?_); (case h => decide +kernel))
  | ((with_reducible refine x_isiS (r := true) ?h ?_); (case h => decide +kernel))
  | ((with_reducible refine x_isiS (r := false) ?h ?_); (case h => decide +kernel))
  | ((with_reducible refine x_isiB (r := true) ?h ?_); (case h => decide +kernel))
  | ((with_reducible refine x_isiB (r := false) ?h ?_); (case h => decide +kernel))
  | ((with_reducible refine' x_isiT (r := true) ?hp ?h ?_); (case hp => walk_at "hk"); (case h => decide +kernel))
  | ((with_reducible refine' x_isiT (r := false) ?hp ?h ?_); (case hp => walk_at "hk"); (case h => decide +kernel))
  | ((with_reducible refine' x_isiL (r := true) ?hp ?h ?_); (case hp => walk_at "hk"); (case h => decide +kernel))
  | ((with_reducible refine' x_isiL (r := false) ?hp ?h ?_); (case hp => walk_at "hk"); (case h => decide +kernel))
  | ((with_reducible refine' x_isi2L ?hp ?hl ?_); (case hp => walk_at "hk"); (case hl => walk_at "hk"))
  | ((with_reducible refine' x_isi2T ?hp ?hl ?_); (case hp => walk_at "hk"); (case hl => walk_at "hk"))
  | ((with_reducible refine' x_tupOfL ?hq ?_); (case hq => walk_at "hk"))
  | ((with_reducible refine' x_tupOfT ?hq ?_); (case hq => walk_at "hk"))
  | ((with_reducible refine x_lenS ?h ?_); (case h => exact Nat.le_of_ble_eq_true rfl))
  | ((with_reducible refine' x_all ?hq ?_); (case hq => walk_at "hk"))
  | with_reducible refine x_lenSet ?_)

section
variable {P : Program} {w : World} {K : PySem.W.Frag} {mg : Str → Option Value} {base : Heap} {a : Ad} {H H1 H' : Hp} {Q : VK} {E : XK} {p b s : Addr} {q : C}
open Er
/-! the calls as data -/
theorem C.ok.good {fs : Int} (h : q.ok fs) : q.Good fs := by
  cases q <;> simp [C.ok, isFile] at h <;> refine ⟨?_, ?_, ?_⟩ <;> simp [C.named, C.kOk] <;> omega
theorem C.turned2 : q.turned.turned = q := by cases q <;> simp [C.turned]
theorem C.ok.turned {fs : Int} (h : q.ok fs) : q.turned.ok fs := by
  cases q <;> simp [C.ok, C.turned, isFile] at h ⊢ <;> omega
theorem C.flat {fs : Int} (hfs : fs = 2 ∨ fs = 3) (h : q.ok fs) (hk : q.kAbs < 10 ^ 50) : ∀ v ∈ q.vals, okF v := by
  have ks : ∀ k : Int, k.natAbs < 10 ^ 50 → k.natAbs < 10 ^ 59 := fun k h => Nat.lt_of_lt_of_le h (by decide)
  have fsm : ∀ f : Int, 0 ≤ f ∧ f < fs → f.natAbs < 10 ^ 59 := fun f h => Nat.lt_of_lt_of_le (show f.natAbs < 3 by omega) (by decide)
  cases q <;> simp only [C.ok, isFile, C.kAbs] at h hk <;> intro v hv <;> simp only [C.vals, List.mem_cons, List.not_mem_nil, or_false] at hv
  · rcases hv with rfl | rfl
    · (show strB _ = true; decide +kernel)
    · exact ks _ hk
  · rcases hv with rfl | rfl | rfl
    · (show strB _ = true; decide +kernel)
    · exact fsm _ h.1
    · exact ks _ hk
  · rcases hv with rfl | rfl | rfl
    · (show strB _ = true; decide +kernel)
    · exact fsm _ h.1
    · exact fsm _ h.2.1
  · rcases hv with rfl | rfl | rfl | rfl
    · (show strB _ = true; decide +kernel)
    · exact fsm _ h.1
    · exact fsm _ h.2.1
    · exact ks _ hk
  · subst hv; (show strB _ = true; decide +kernel)
  · rcases hv with rfl | rfl | rfl
    · (show strB _ = true; decide +kernel)
    · exact fsm _ h.1
    · exact fsm _ h.2.1
  all_goals (subst hv; (show strB _ = true; decide +kernel))
def qd (q : C) : PyData := .tuple (q.vals.map toD)
theorem C.dn (h : H p = some (.tup q.vals)) (hf : ∀ v ∈ q.vals, okF v) : DN H (qd q) (.ref p) := dnTup h (dns_map hf)
theorem C.sml (hf : ∀ v ∈ q.vals, okF v) : Sml 1100 1 (qd q) := Sml.tup (b := 10) (n := 100) (sml_map hf) (by rw [List.length_map]; cases q <;> simp [C.vals])
theorem dnInts {ns : List Int} : DNs H (ns.map PyData.int) (ns.map V.int) := by
  induction ns with
  | nil => exact dnNil
  | cons n ns ih => exact dnCons dnInt ih
theorem smlInts {ns : List Int} (h : ∀ n ∈ ns, n.natAbs < 10 ^ 59) : ∀ d ∈ ns.map PyData.int, Sml 0 0 d := by
  intro d hd
  obtain ⟨n, hn, rfl⟩ := List.mem_map.mp hd
  exact Sml.int (h n hn)
theorem Ex.mutN {l : Addr} {o : HO} {xs : List V} (e : Ex H H1) (n : ∀ o, NB o → H l ≠ some o) (h : H1 l = some (.lst xs)) (nb : NB (.lst xs)) : Ex H (upd H1 l o) := by
  refine ⟨fun a o' q nn => ?_, fun b c q => ?_⟩
  · have hne : a ≠ l := fun ea => n o' nn (ea ▸ q)
    rw [upd_ne hne]
    exact e.kp a o' q nn
  · obtain ⟨x0, y0, z0, ns0, k1, k2, _⟩ := id q
    obtain ⟨x, y, z, ns, e1, e2, r⟩ := e.bg b c q
    have hb : b ≠ l := fun ea => by
      subst ea
      rw [h] at e1
      injection e1 with e1
      exact nb x y z c e1
    have hc : c ≠ l := fun ea => n _ NB.ints (ea ▸ k2)
    exact ⟨x, y, z, ns, by rw [upd_ne hb]; exact e1, by rw [upd_ne hc]; exact e2, r⟩
end
end My

set_option Elab.async false
set_option linter.all false
set_option maxRecDepth 100000
set_option maxHeartbeats 8000000
namespace My
open PySem PySem.Spec PyProof.Rows L2 Sx
local macro_rules | `(tactic| walk_at "nb") => `(tactic| first | exact NB.tup | exact NB.ints | exact NB.len (of_decide_eq_true rfl) | exact NB.at0b rfl | exact NB.at3b rfl | exact NB.ins | exact NB.own | exact NB.frz | exact NB.refs (by assumption) | assumption)
local macro_rules | `(tactic| walk_at "ne") => `(tactic| first | assumption | exact Ne.symm (by assumption) | exact ne_of_none (by assumption) (by assumption) | exact Ne.symm (ne_of_none (by assumption) (by assumption)))
local macro_rules | `(tactic| walk_at "hk") => `(tactic| first
  | assumption
  | exact upd_same
  | (refine' (upd_ne ?hkne).trans ?hkq; (case hkne => walk_at "ne"); (case hkq => walk_at "hk"))
  | (refine' Ex.kp (by assumption) _ _ ?hkq ?hkn; (case hkq => walk_at "hk"); (case hkn => walk_at "nb")))
local macro_rules | `(tactic| walk_at "rd1") => `(tactic| first
  | ((with_reducible refine' x_var ?hx ?_); (case hx => exact rfl))
  | with_reducible refine x_c ?_
  | with_reducible refine x_op ?_
  | with_reducible refine x_un ?_
  | with_reducible refine x_I0 ?_
  | with_reducible refine x_U ?_
  | ((with_reducible refine x_I ?hc ?_); (case hc => first | exact (by decide : (0 : Int) < _) | (show (0 : Int) < _; omega) | (show CMul _ _; first | exact .inl ⟨by omega, by omega⟩ | exact .inr ⟨by omega, by omega⟩) | (show CDiv _ _; exact ⟨by omega, by omega⟩) | (show CDivW _ _; exact wide_div (b := 200) (by omega) (by assumption) (by decide) (by decide)) | (show CDivW _ _; exact wide_div (b := 31) (by omega) (by omega) (by decide) (by decide))))
  | with_reducible refine x_EqI ?_
  | with_reducible refine x_NeI ?_
  | ((with_reducible refine x_EqSt ?h ?_); (case h => decide +kernel))
  | ((with_reducible refine x_EqSf ?h ?_); (case h => decide +kernel))
  | ((with_reducible refine x_NeSt ?h ?_); (case h => decide +kernel))
  | ((with_reducible refine x_NeSf ?h ?_); (case h => decide +kernel))
  | with_reducible refine x_EqS ?_
  | with_reducible refine x_NeS ?_
  | ((with_reducible refine' x_ixL ?hq ?hi ?_); (case hq => walk_at "hk"); (case hi => first | exact rfl | assumption))
  | ((with_reducible refine' x_ixT ?hq ?hi ?_); (case hq => walk_at "hk"); (case hi => first | exact rfl | assumption))
  | with_reducible refine x_chain ?_
  | with_reducible refine x_tup ?_
  | with_reducible refine x_lst ?_
  | ((with_reducible refine x_lenNew ?hl ?_); (case hl => exact Nat.le_of_ble_eq_true rfl); intro _ _ _ _ _)
  | ((with_reducible refine x_new ?_); intro _ _ _ _ _)
  | with_reducible refine x_sl ?_
  | with_reducible refine x_noPart ?_
  | with_reducible refine x_part ?_
  | with_reducible refine x_ex_int ?_
  | with_reducible refine x_ex_bl ?_
  | with_reducible refine x_ex_2 ?_
  | with_reducible refine x_test ?_
  | with_reducible refine x_B ?_
  | with_reducible refine x_and ?_
  | with_reducible refine x_or ?_
  | with_reducible refine x_not ?_
  | with_reducible refine x_andV ?_
  | with_reducible refine x_orV ?_
  | with_reducible refine x_notV ?_
  | with_reducible refine x_ifE ?_
  | with_reducible refine x_iteT ?_
  | with_reducible refine x_iteF ?_
  | ((with_reducible refine x_iteD ?_ ?_) <;> intro _)
  | ((with_reducible refine x_iteN ?_ ?_) <;> intro _)
  | with_reducible refine x_if ?_
  | with_reducible refine x_seq ?_
  | with_reducible refine x_next ?_
  | with_reducible refine x_asg ?_
  | with_reducible refine x_gName ?_
  | ((with_reducible refine' x_gTup ?hq ?hn ?_); (case hq => walk_at "hk"); (case hn => exact rfl))
  | with_reducible refine x_gCons ?_
  | with_reducible refine x_gNil ?_
  | ((with_reducible refine' x_gConsE ?h ?_); (case h => exact rfl))
  | ((with_reducible refine x_gNilE ?h ?_); (case h => exact rfl))
  | with_reducible refine x_ret ?_
  | with_reducible refine x_drop ?_
  | with_reducible refine x_par ?_
  | ((with_reducible refine' x_aug ?hx ?_); (case hx => exact rfl))
  | with_reducible refine x_ipI ?_
  | with_reducible refine x_augS ?_
  | with_reducible refine x_gSub ?_
  | ((with_reducible refine' x_setL ?hq ?hi ?_); (case hq => walk_at "hk"); (case hi => first | exact rfl | assumption))
  | with_reducible refine x_cons ?_
  | with_reducible refine x_nil ?_
  | with_reducible refine x_CB ?_
  | with_reducible refine x_abs ?_
  | with_reducible refine x_intI ?_
  | with_reducible refine x_intB ?_
  | ((with_reducible refine' x_lenL ?hq ?_); (case hq => walk_at "hk"))
  | ((with_reducible refine' x_lenT ?hq ?_); (case hq => walk_at "hk"))
  | ((with_reducible refine x_iteTe ?h ?_); (case h => exact rfl))
  | ((with_reducible refine x_iteFe ?h ?_); (case h => exact rfl))
  | walk_at "use"
  | with_reducible refine x_callS ?_
  | ((with_reducible refine x_lc ?_))
  | ((with_reducible refine x_for ?_))
  | ((with_reducible refine x_iR1 ?_))
  | ((with_reducible refine x_iL ?_))
  | ((with_reducible refine x_iZ ?_))
  | ((with_reducible refine x_yes ?_))
  | ((with_reducible refine' x_NIDt ?hq ?_); (case hq => assumption))
  | ((with_reducible refine' x_NIDf ?hq ?_); (case hq => assumption))
  | ((with_reducible refine' x_IIDf ?hq ?_); (case hq => assumption))
  | ((with_reducible refine' x_IIDt ?hq ?_); (case hq => assumption))
  | ((with_reducible refine' x_ixDs ?hd ?hq ?_); (case hd => assumption); (case hq => assumption))
  | ((with_reducible refine x_InSt ?h ?_); (case h => decide +kernel))
  | ((with_reducible refine x_InSf ?h ?_); (case h => decide +kernel))
  | ((with_reducible refine' x_notInI ?hq ?_); (case hq => walk_at "hk"))
  | ((with_reducible refine' x_inTt ?hq ?hv ?ha ?he ?_); (case hq => walk_at "hk"); (case hv => exact rfl); (case ha => exact rfl); (case he => decide +kernel))
  | ((with_reducible refine' x_inTf ?hq ?hv ?ha ?he ?_); (case hq => walk_at "hk"); (case hv => exact rfl); (case ha => exact rfl); (case he => decide +kernel))
  | ((with_reducible refine' x_slT ?hq ?hw ?_); (case hq => walk_at "hk"); (case hw => with_unfolding_all exact of_decide_eq_true rfl))
  | ((with_reducible refine' x_slL ?hq ?_); (case hq => walk_at "hk"))
  | ((with_reducible refine' x_catT ?hq ?hr ?n1 ?n2 ?hl ?_); (case hq => walk_at "hk"); (case hr => walk_at "hk"); (case n1 => exact List.cons_ne_nil _ _); (case n2 => exact List.cons_ne_nil _ _); (case hl => exact Nat.le_of_ble_eq_true rfl))
  | ((with_reducible refine x_bm ?_))
  | ((with_reducible refine x_lstRg ?_))
  | ((with_reducible refine x_rg1 ?_))
  | ((with_reducible refine And.intro ?h ?_); (case h => exact tyL (by assumption)))
  | dsimp only)
local macro_rules | `(tactic| walk_at "use") => `(tactic| fail)
local macro_rules | `(tactic| walk_at "rd") => `(tactic| repeat' (walk_at "rd1"))
local macro_rules | `(tactic| walk_at "ex") => `(tactic| first | exact Ex.refl _ | assumption | (refine' Ex.trans ?he (by assumption); (case he => walk_at "ex")))
local macro_rules | `(tactic| walk_at "rd1") => `(tactic| first
  | ((with_reducible refine x_iteDf ?h ?_); (case h => exact rfl))
  | ((with_reducible refine x_iteDt ?h ?_); (case h => exact rfl))
  | ((with_reducible refine x_iteNf ?h ?_); (case h => exact rfl))
  | ((with_reducible refine x_iteNt ?h ?_); (case h => exact rfl))
  | ((with_reducible refine x_isiI (r := true) ?h ?_); (case h => decide +kernel))
  | ((with_reducible refine x_isiI (r := false) ?h ?_); (case h => decide +kernel))
  | ((with_reducible refine x_isiS (r := true) ?h ?_); (case h => decide +kernel))
  | ((with_reducible refine x_isiS (r := false) ?h ?_); (case h => decide +kernel))
  | ((with_reducible refine x_isiB (r := true) ?h ?_); (case h => decide +kernel))
  | ((with_reducible refine x_isiB (r := false) ?h ?_); (case h => decide +kernel))
  | ((with_reducible refine' x_isiT (r := true) ?hp ?h ?_); (case hp => walk_at "hk"); (case h => decide +kernel))
  | ((with_reducible refine' x_isiT (r := false) ?hp ?h ?_); (case hp => walk_at "hk"); (case h => decide +kernel))
  | ((with_reducible refine' x_isiL (r := true) ?hp ?h ?_); (case hp => walk_at "hk"); (case h => decide +kernel))
  | ((with_reducible refine' x_isiL (r := false) ?hp ?h ?_); (case hp => walk_at "hk"); (case h => decide +kernel))
  | ((with_reducible refine' x_isi2L ?hp ?hl ?_); (case hp => walk_at "hk"); (case hl => walk_at "hk"))
  | ((with_reducible refine' x_isi2T ?hp ?hl ?_); (case hp => walk_at "hk"); (case hl => walk_at "hk"))
  | ((with_reducible refine' x_tupOfL ?hq ?_); (case hq => walk_at "hk"))
  | ((with_reducible refine' x_tupOfT ?hq ?_); (case hq => walk_at "hk"))
  | ((with_reducible refine x_lenS ?h ?_); (case h => exact Nat.le_of_ble_eq_true rfl))
  | ((with_reducible refine' x_all ?hq ?_); (case hq => walk_at "hk"))
  | with_reducible refine x_lenSet ?_)

local macro_rules | `(tactic| walk_at "rd1") => `(tactic| with_reducible refine x_iT ?_)
local macro_rules | `(tactic| walk_at "use") => `(tactic| with_reducible refine u_is_files ?_)
local macro_rules | `(tactic| walk_at "use") => `(tactic| with_reducible refine u_is_index ?_)
/-- the fields of a Script -/
def flds (fl : Int) (t : Addr) : List (Str × V) := putF "held" (.ref t) (putF "width" (.int fl) [])
section
variable {P : Program} {w : World} {K : PySem.W.Frag} {mg : Str → Option Value} {base : Heap} {a : Ad} {H H1 : Hp} {Q : VK} {E : XK} {p b c t s dx : Addr} {fl : Int} {xs : List V} {qs : List C}
/-- things that are such calls -/
inductive Cls (H : Hp) : List V → List C → Prop
  | nil : Cls H [] []
  | cons {p : Addr} {q : C} {vs : List V} {qs : List C} (h : H p = some (.tup q.vals)) (t : Cls H vs qs) : Cls H (.ref p :: vs) (q :: qs)
theorem Cls.mono {vs : List V} {qs : List C} (t : Tx H H1) (h : Cls H vs qs) : Cls H1 vs qs := by
  induction h with
  | nil => exact .nil
  | cons h _ ih => exact .cons (t _ _ h) ih
theorem Cls.ex {vs : List V} {qs : List C} (e : Ex H H1) (h : Cls H vs qs) : Cls H1 vs qs := h.mono e.tx
theorem Cls.app {vs ws : List V} {qs us : List C} (h : Cls H vs qs) (h2 : Cls H ws us) : Cls H (vs ++ ws) (qs ++ us) := by
  induction h with
  | nil => exact h2
  | cons h _ ih => exact .cons h ih
theorem Cls.len {vs : List V} {qs : List C} (h : Cls H vs qs) : vs.length = qs.length := by
  induction h with
  | nil => rfl
  | cons _ _ ih => rw [List.length_cons, List.length_cons, ih]
theorem Cls.refs {vs : List V} {qs : List C} (h : Cls H vs qs) : ∀ v ∈ vs, ∃ a, v = V.ref a := by
  induction h with
  | nil => intro v hv; cases hv
  | cons _ _ ih =>
    intro v hv
    rcases List.mem_cons.mp hv with e | hv
    · exact ⟨_, e⟩
    · exact ih v hv
theorem Cls.nb {vs : List V} {qs : List C} (h : Cls H vs qs) : NB (.lst vs) := NB.refs h.refs
theorem Cls.get {vs : List V} {qs : List C} (h : Cls H vs qs) : ∀ {i : Nat} {v : V}, vs[i]? = some v → ∃ p q, v = .ref p ∧ qs[i]? = some q ∧ H p = some (.tup q.vals) := by
  induction h with
  | nil => intro i v e; simp at e
  | cons h _ ih =>
    intro i v e
    cases i with
    | zero => exact ⟨_, _, by simpa using e.symm, rfl, h⟩
    | succ i => exact ih (by simpa using e)
theorem Cls.take {vs : List V} {qs : List C} (h : Cls H vs qs) : ∀ n, Cls H (vs.take n) (qs.take n) := by
  induction h with
  | nil => intro n; simp; exact .nil
  | cons h _ ih =>
    intro n
    cases n with
    | zero => exact .nil
    | succ n => exact .cons h (ih n)
theorem Cls.drop {vs : List V} {qs : List C} (h : Cls H vs qs) : ∀ n, Cls H (vs.drop n) (qs.drop n) := by
  induction h with
  | nil => intro n; simp; exact .nil
  | cons h t ih =>
    intro n
    cases n with
    | zero => exact .cons h t
    | succ n => exact ih n
theorem Cls.rev {vs : List V} {qs : List C} (h : Cls H vs qs) : Cls H vs.reverse qs.reverse := by
  induction h with
  | nil => exact .nil
  | cons h _ ih =>
    rw [List.reverse_cons, List.reverse_cons]
    exact ih.app (.cons h .nil)
theorem Cls.one {vs : List V} {q : C} {p : Addr} (h : Cls H vs qs) (hp : H p = some (.tup q.vals)) : Cls H (vs ++ [.ref p]) (qs ++ [q]) := h.app (.cons hp .nil)
/-- a Script that stands -/
structure Scr (C : Addr) (H : Hp) (s : Addr) (fl : Int) (qs : List My.C) : Prop where
  ex : ∃ (dx t : Addr) (xs : List V), H s = some (.ins C dx (flds fl t)) ∧ H t = some (.tup xs) ∧ Cls H xs qs
theorem Scr.mono {C : Addr} (h : Scr C H s fl qs) (e : Ex H H1) : Scr C H1 s fl qs := by
  obtain ⟨dx, t, xs, h1, h2, h3⟩ := h.ex
  exact ⟨dx, t, xs, e.kp _ _ h1 NB.ins, e.kp _ _ h2 NB.tup, h3.ex e⟩
/-- a list or a tuple of calls -/
def CSeq (H : Hp) (c : Addr) (qs : List C) : Prop := ∃ xs, (H c = some (.lst xs) ∨ H c = some (.tup xs)) ∧ Cls H xs qs
/-! Script(files, calls) of genuine calls -/
def sp_Script_init (C : Addr) : Sp := fun vs H Q _ => ∃ (H0 : Hp) (x dx c : Addr) (fl : Int) (qs : List My.C), vs = [.ref x, .int fl, .ref c] ∧ H = upd (upd H0 dx (.own x)) x (.ins C dx []) ∧ H0 x = none ∧ H0 dx = none ∧ dx ≠ x ∧
  2 ≤ fl ∧ fl ≤ 3 ∧ CSeq H0 c qs ∧ (∀ q ∈ qs, q.Good fl) ∧ qs.length ≤ 100000 ∧ ∀ H1, Ex H0 H1 → Scr C H1 x fl qs → Q .non H1
theorem u_make {C : Addr} {Q : Addr → Hp → Prop} (hc : CSeq H c qs) (hg : ∀ q ∈ qs, q.Good fl) (h2 : 2 ≤ fl) (h3 : fl ≤ 3) (hl : qs.length ≤ 100000) (k : ∀ x H1, Ex H H1 → Scr C H1 x fl qs → Q x H1) :
    ∀ x dx, H x = none → H dx = none → dx ≠ x → sp_Script_init C (.ref x :: [.int fl, .ref c]) (upd (upd H dx (.own x)) x (.ins C dx [])) (fun v H2 => v = .non ∧ Q x H2) E :=
  fun x dx hx hdx hn => ⟨H, x, dx, c, fl, qs, rfl, rfl, hx, hdx, hn, h2, h3, hc, hg, hl, fun H1 e h1 => ⟨rfl, k x H1 e h1⟩⟩
theorem ok_Script_init (T : Txt K w mg a) : FnOk P w K mg base CX0 5 a.a_Script_init a.fd_Script_init ["self", "files", "calls"] (sp_Script_init a.c_Script) := by
  refine T.F_Script_init.ok sc_Script_init (fun vs H Q E h => ?_) (fun cdv A outer s H vs Q E hr h => ?_)
  · obtain ⟨H0, x, dx, c, fl, xs, rfl, _⟩ := h; rfl
  · obtain ⟨H0, x, dx, c, fl, qs, rfl, rfl, hx, hdx, hn, h2, h3, ⟨xs, hc, hcl⟩, hg, hl, k⟩ := h
    have hx1 : (upd H0 dx (.own x)) x = none := by rw [upd_ne hn.symm]; exact hx
    have e0 : Ex H0 (upd (upd H0 dx (.own x)) x (.ins a.c_Script dx [])) := (Ex.new hdx).trans (Ex.new hx1)
    have G_is_files := ok_is_files (P := P) (base := base) T
    have G_is_call := ok_is_call (P := P) (base := base) T
    have hxI : (upd (upd H0 dx (.own x)) x (.ins a.c_Script dx [])) x = some (.ins a.c_Script dx []) := upd_same
    have hlx : xs.length ≤ 100000 := by rw [hcl.len]; exact hl
    have fin : ∀ (H2 : Hp) (t : Addr), Ex H0 H2 → H2 x = some (.ins a.c_Script dx (putF "width" (.int fl) [])) → H2 t = some (.tup xs) → t ≠ x → Q .non (upd H2 x (.ins a.c_Script dx (flds fl t))) := fun H2 t e i1 i2 ne => by
      have ex : Ex H0 (upd H2 x (.ins a.c_Script dx (flds fl t))) := Ex.mut e hx
      exact k _ ex ⟨dx, t, xs, upd_same, by rw [upd_ne ne]; exact i2, hcl.ex ex⟩
    rcases hc with hc | hc
    · have nbx := hcl.nb
      have hcI := e0.kp _ _ hc nbx
      have hcx : c ≠ x := ne_of_none hc hx
      generalize (upd (upd H0 dx (.own x)) x (.ins a.c_Script dx [])) = HI at e0 hxI hcI ⊢
      refine ⟨_, (pss_cons (ps_if (pt_not (pt_val (pe_call G_is_files (hr.mono (by decide)) (by rfl) T.m_is_files T.k_is_files T.b_is_files .nil pass0 (pa_cons (pv 1) pa_nil)))) (pss_one ps_never) pss_nil)
      (pss_cons (ps_if (pt_not (pt_val (pe_callB call_isiT (by rfl) T.n_isinstance (by decide +kernel) (pa_cons (pv 2) (pa_cons (pe_tup (pa_cons (pe_bltn (v := .ty "list") (u := .type "list") (by rfl) T.n_list (by decide +kernel) rfl) (pa_cons (pe_bltn (v := .ty "tuple") (u := .type "tuple") (by rfl) T.n_tuple (by decide +kernel) rfl) pa_nil))) pa_nil))))) (pss_one ps_never) pss_nil)
      (pss_cons (ps_if (pt_not (pt_val (pe_callB (cr_all rfl) (by rfl) T.n_all (by decide +kernel) (pa_cons (pe_lc (own := [("call", 3)]) rfl sc_Script_init.nd (pi_list (pv 2)) (blkOk_by (own := [("call", 3)]) (N := ["self", "files", "calls", "call"]) (sc := defScope s_Script_init) (by decide +kernel)) (fun _ _ _ _ _ => (pg_name (i := 3) sc_Script_init.nd rfl (Or.inl rfl) (Or.inr rfl))) (fun _ _ _ _ _ => pts_nil) (fun _ _ _ _ _ => (pe_call G_is_call (hr.mono (by decide)) (by rfl) T.m_is_call T.k_is_call T.b_is_call .nil pass0 (pa_cons (pv 1) (pa_cons (pv 3) pa_nil))))) pa_nil)))) (pss_one ps_never) pss_nil)
      (pss_cons (ps_fld (pv 0) (pv 1) rfl)
      (pss_one (ps_fld (pv 0) (pe_callTy c_tupOf (by rfl) T.n_tuple (by decide +kernel) (pa_cons (pv 2) pa_nil)) rfl)))))), ?_⟩
      walk_at "rd"
      all_goals try (exfalso; omega)
      rename_i p1 H1 e1 f1 h1
      refine lc_lst (xs := xs) (by walk_at "hk") hcl.nb (fun i acc _ => acc = List.replicate i (.bl true) ∧ i ≤ xs.length) ⟨rfl, Nat.zero_le _⟩ (fun _ _ _ _ _ h => h) (fun i acc _ h => ?_) (fun x => rfl) (fun i y acc H' hy e hI kk k1 k2 => ?_) (fun p2 ys H2 e2 f2 h2' hI => ?_)
      · obtain ⟨rfl, hi⟩ := h
        refine ⟨?_, by rw [List.length_replicate]; exact Nat.lt_of_le_of_lt (Nat.le_trans hi hlx) (by decide)⟩
        rw [show List.replicate i (V.bl true) = (List.replicate i true).map V.bl by rw [List.map_replicate]]
        exact NB.bls
      · obtain ⟨rfl, hi⟩ := hI
        obtain ⟨p, q, rfl, hq, hp⟩ := hcl.get hy
        have hi' := (List.getElem?_eq_some_iff.mp hy).1
        walk_at "rd"
        refine u_is_call (((e0.trans e1).trans e).kp _ _ hp NB.tup) (hg q (List.mem_of_getElem? hq)) fun H4 e4 => ?_
        exact k1 _ _ e4 ⟨by rw [List.replicate_succ'], hi'⟩
      · obtain ⟨rfl, hi⟩ := hI
        walk_at "rd"
        refine x_allT h2' ?_
        walk_at "rd"
        have hx2 := (e1.trans e2).kp _ _ hxI NB.ins
        have hc2 := (e1.trans e2).kp _ _ hcI hcl.nb
        have e3 : Ex H0 H2 := (e0.trans e1).trans e2
        refine x_setF ?_
        walk_at "rd"
        refine x_setK hx2 T.t_Script.cl T.A_Script_width (by decide) ?_
        walk_at "rd"
        refine x_setF ?_
        walk_at "rd"
        rename_i t H5 e5 f5 h5
        have e6 : Ex H0 (upd H2 x (.ins a.c_Script dx (putF "width" (.int fl) []))) := Ex.mut e3 hx
        refine x_setK (e5.kp _ _ upd_same NB.ins) T.t_Script.cl T.A_Script_held (Nat.lt_of_le_of_lt (length_putF _ _ _) (by show 0 + 1 < 1000; decide)) ?_
        refine fin _ t (e6.trans e5) (e5.kp _ _ upd_same NB.ins) h5 fun e => ?_
        rw [e, upd_same] at f5
        cases f5
    · have hcI := e0.kp _ _ hc NB.tup
      have hcx : c ≠ x := ne_of_none hc hx
      generalize (upd (upd H0 dx (.own x)) x (.ins a.c_Script dx [])) = HI at e0 hxI hcI ⊢
      refine ⟨_, (pss_cons (ps_if (pt_not (pt_val (pe_call G_is_files (hr.mono (by decide)) (by rfl) T.m_is_files T.k_is_files T.b_is_files .nil pass0 (pa_cons (pv 1) pa_nil)))) (pss_one ps_never) pss_nil)
      (pss_cons (ps_if (pt_not (pt_val (pe_callB call_isiT (by rfl) T.n_isinstance (by decide +kernel) (pa_cons (pv 2) (pa_cons (pe_tup (pa_cons (pe_bltn (v := .ty "list") (u := .type "list") (by rfl) T.n_list (by decide +kernel) rfl) (pa_cons (pe_bltn (v := .ty "tuple") (u := .type "tuple") (by rfl) T.n_tuple (by decide +kernel) rfl) pa_nil))) pa_nil))))) (pss_one ps_never) pss_nil)
      (pss_cons (ps_if (pt_not (pt_val (pe_callB (cr_all rfl) (by rfl) T.n_all (by decide +kernel) (pa_cons (pe_lc (own := [("call", 3)]) rfl sc_Script_init.nd (pi_tup (pv 2)) (blkOk_by (own := [("call", 3)]) (N := ["self", "files", "calls", "call"]) (sc := defScope s_Script_init) (by decide +kernel)) (fun _ _ _ _ _ => (pg_name (i := 3) sc_Script_init.nd rfl (Or.inl rfl) (Or.inr rfl))) (fun _ _ _ _ _ => pts_nil) (fun _ _ _ _ _ => (pe_call G_is_call (hr.mono (by decide)) (by rfl) T.m_is_call T.k_is_call T.b_is_call .nil pass0 (pa_cons (pv 1) (pa_cons (pv 3) pa_nil))))) pa_nil)))) (pss_one ps_never) pss_nil)
      (pss_cons (ps_fld (pv 0) (pv 1) rfl)
      (pss_one (ps_fld (pv 0) (pe_callTy c_tupOf (by rfl) T.n_tuple (by decide +kernel) (pa_cons (pv 2) pa_nil)) rfl)))))), ?_⟩
      walk_at "rd"
      all_goals try (exfalso; omega)
      rename_i p1 H1 e1 f1 h1
      refine lc_tup (xs := xs) (by walk_at "hk") (fun i acc _ => acc = List.replicate i (.bl true) ∧ i ≤ xs.length) ⟨rfl, Nat.zero_le _⟩ (fun _ _ _ _ _ h => h) (fun i acc _ h => ?_) (fun x => rfl) (fun i y acc H' hy e hI kk k1 k2 => ?_) (fun p2 ys H2 e2 f2 h2' hI => ?_)
      · obtain ⟨rfl, hi⟩ := h
        refine ⟨?_, by rw [List.length_replicate]; exact Nat.lt_of_le_of_lt (Nat.le_trans hi hlx) (by decide)⟩
        rw [show List.replicate i (V.bl true) = (List.replicate i true).map V.bl by rw [List.map_replicate]]
        exact NB.bls
      · obtain ⟨rfl, hi⟩ := hI
        obtain ⟨p, q, rfl, hq, hp⟩ := hcl.get hy
        have hi' := (List.getElem?_eq_some_iff.mp hy).1
        walk_at "rd"
        refine u_is_call (((e0.trans e1).trans e).kp _ _ hp NB.tup) (hg q (List.mem_of_getElem? hq)) fun H4 e4 => ?_
        exact k1 _ _ e4 ⟨by rw [List.replicate_succ'], hi'⟩
      · obtain ⟨rfl, hi⟩ := hI
        walk_at "rd"
        refine x_allT h2' ?_
        walk_at "rd"
        have hx2 := (e1.trans e2).kp _ _ hxI NB.ins
        have hc2 := (e1.trans e2).kp _ _ hcI NB.tup
        have e3 : Ex H0 H2 := (e0.trans e1).trans e2
        refine x_setF ?_
        walk_at "rd"
        refine x_setK hx2 T.t_Script.cl T.A_Script_width (by decide) ?_
        walk_at "rd"
        refine x_setF ?_
        walk_at "rd"
        have e6 : Ex H0 (upd H2 x (.ins a.c_Script dx (putF "width" (.int fl) []))) := Ex.mut e3 hx
        refine x_setK upd_same T.t_Script.cl T.A_Script_held (Nat.lt_of_le_of_lt (length_putF _ _ _) (by show 0 + 1 < 1000; decide)) ?_
        exact fin _ c e6 upd_same (by rw [upd_ne hcx]; exact hc2) hcx
end
end My

set_option Elab.async false
set_option linter.all false
set_option maxRecDepth 100000
set_option maxHeartbeats 8000000
namespace My
open PySem PySem.Spec PyProof.Rows L2 Sx
local macro_rules | `(tactic| walk_at "nb") => `(tactic| first | exact NB.tup | exact NB.ints | exact NB.len (of_decide_eq_true rfl) | exact NB.at0b rfl | exact NB.at3b rfl | exact NB.ins | exact NB.own | exact NB.frz | exact NB.refs (by assumption) | assumption)
local macro_rules | `(tactic| walk_at "ne") => `(tactic| first | assumption | exact Ne.symm (by assumption) | exact ne_of_none (by assumption) (by assumption) | exact Ne.symm (ne_of_none (by assumption) (by assumption)))
local macro_rules | `(tactic| walk_at "hk") => `(tactic| first
  | assumption
  | exact upd_same
  | (refine' (upd_ne ?hkne).trans ?hkq; (case hkne => walk_at "ne"); (case hkq => walk_at "hk"))
  | (refine' Ex.kp (by assumption) _ _ ?hkq ?hkn; (case hkq => walk_at "hk"); (case hkn => walk_at "nb")))
local macro_rules | `(tactic| walk_at "rd1") => `(tactic| first
  | ((with_reducible refine' x_var ?hx ?_); (case hx => exact rfl))
  | with_reducible refine x_c ?_
  | with_reducible refine x_op ?_
  | with_reducible refine x_un ?_
  | with_reducible refine x_I0 ?_
  | with_reducible refine x_U ?_
  | ((with_reducible refine x_I ?hc ?_); (case hc => first | exact (by decide : (0 : Int) < _) | (show (0 : Int) < _; omega) | (show CMul _ _; first | exact .inl ⟨by omega, by omega⟩ | exact .inr ⟨by omega, by omega⟩) | (show CDiv _ _; exact ⟨by omega, by omega⟩) | (show CDivW _ _; exact wide_div (b := 200) (by omega) (by assumption) (by decide) (by decide)) | (show CDivW _ _; exact wide_div (b := 31) (by omega) (by omega) (by decide) (by decide))))
  | with_reducible refine x_EqI ?_
  | with_reducible refine x_NeI ?_
  | ((with_reducible refine x_EqSt ?h ?_); (case h => decide +kernel))
  | ((with_reducible refine x_EqSf ?h ?_); (case h => decide +kernel))
  | ((with_reducible refine x_NeSt ?h ?_); (case h => decide +kernel))
  | ((with_reducible refine x_NeSf ?h ?_); (case h => decide +kernel))
  | with_reducible refine x_EqS ?_
  | with_reducible refine x_NeS ?_
  | ((with_reducible refine' x_ixL ?hq ?hi ?_); (case hq => walk_at "hk"); (case hi => first | exact rfl | assumption))
  | ((with_reducible refine' x_ixT ?hq ?hi ?_); (case hq => walk_at "hk"); (case hi => first | exact rfl | assumption))
  | with_reducible refine x_chain ?_
  | with_reducible refine x_tup ?_
  | with_reducible refine x_lst ?_
  | ((with_reducible refine x_lenNew ?hl ?_); (case hl => exact Nat.le_of_ble_eq_true rfl); intro _ _ _ _ _)
  | ((with_reducible refine x_new ?_); intro _ _ _ _ _)
  | with_reducible refine x_sl ?_
  | with_reducible refine x_noPart ?_
  | with_reducible refine x_part ?_
  | with_reducible refine x_ex_int ?_
  | with_reducible refine x_ex_bl ?_
  | with_reducible refine x_ex_2 ?_
  | with_reducible refine x_test ?_
  | with_reducible refine x_B ?_
  | with_reducible refine x_and ?_
  | with_reducible refine x_or ?_
  | with_reducible refine x_not ?_
  | with_reducible refine x_andV ?_
  | with_reducible refine x_orV ?_
  | with_reducible refine x_notV ?_
  | with_reducible refine x_ifE ?_
  | with_reducible refine x_iteT ?_
  | with_reducible refine x_iteF ?_
  | ((with_reducible refine x_iteD ?_ ?_) <;> intro _)
  | ((with_reducible refine x_iteN ?_ ?_) <;> intro _)
  | with_reducible refine x_if ?_
  | with_reducible refine x_seq ?_
  | with_reducible refine x_next ?_
  | with_reducible refine x_asg ?_
  | with_reducible refine x_gName ?_
  | ((with_reducible refine' x_gTup ?hq ?hn ?_); (case hq => walk_at "hk"); (case hn => exact rfl))
  | with_reducible refine x_gCons ?_
  | with_reducible refine x_gNil ?_
  | ((with_reducible refine' x_gConsE ?h ?_); (case h => exact rfl))
  | ((with_reducible refine x_gNilE ?h ?_); (case h => exact rfl))
  | with_reducible refine x_ret ?_
  | with_reducible refine x_drop ?_
  | with_reducible refine x_par ?_
  | ((with_reducible refine' x_aug ?hx ?_); (case hx => exact rfl))
  | with_reducible refine x_ipI ?_
  | with_reducible refine x_augS ?_
  | with_reducible refine x_gSub ?_
  | ((with_reducible refine' x_setL ?hq ?hi ?_); (case hq => walk_at "hk"); (case hi => first | exact rfl | assumption))
  | with_reducible refine x_cons ?_
  | with_reducible refine x_nil ?_
  | with_reducible refine x_CB ?_
  | with_reducible refine x_abs ?_
  | with_reducible refine x_intI ?_
  | with_reducible refine x_intB ?_
  | ((with_reducible refine' x_lenL ?hq ?_); (case hq => walk_at "hk"))
  | ((with_reducible refine' x_lenT ?hq ?_); (case hq => walk_at "hk"))
  | ((with_reducible refine x_iteTe ?h ?_); (case h => exact rfl))
  | ((with_reducible refine x_iteFe ?h ?_); (case h => exact rfl))
  | walk_at "use"
  | with_reducible refine x_callS ?_
  | ((with_reducible refine x_lc ?_))
  | ((with_reducible refine x_for ?_))
  | ((with_reducible refine x_iR1 ?_))
  | ((with_reducible refine x_iL ?_))
  | ((with_reducible refine x_iZ ?_))
  | ((with_reducible refine x_yes ?_))
  | ((with_reducible refine' x_NIDt ?hq ?_); (case hq => assumption))
  | ((with_reducible refine' x_NIDf ?hq ?_); (case hq => assumption))
  | ((with_reducible refine' x_IIDf ?hq ?_); (case hq => assumption))
  | ((with_reducible refine' x_IIDt ?hq ?_); (case hq => assumption))
  | ((with_reducible refine' x_ixDs ?hd ?hq ?_); (case hd => assumption); (case hq => assumption))
  | ((with_reducible refine x_InSt ?h ?_); (case h => decide +kernel))
  | ((with_reducible refine x_InSf ?h ?_); (case h => decide +kernel))
  | ((with_reducible refine' x_notInI ?hq ?_); (case hq => walk_at "hk"))
  | ((with_reducible refine' x_inTt ?hq ?hv ?ha ?he ?_); (case hq => walk_at "hk"); (case hv => exact rfl); (case ha => exact rfl); (case he => decide +kernel))
  | ((with_reducible refine' x_inTf ?hq ?hv ?ha ?he ?_); (case hq => walk_at "hk"); (case hv => exact rfl); (case ha => exact rfl); (case he => decide +kernel))
  | ((with_reducible refine' x_slT ?hq ?hw ?_); (case hq => walk_at "hk"); (case hw => with_unfolding_all exact of_decide_eq_true rfl))
  | ((with_reducible refine' x_slL ?hq ?_); (case hq => walk_at "hk"))
  | ((with_reducible refine' x_catT ?hq ?hr ?n1 ?n2 ?hl ?_); (case hq => walk_at "hk"); (case hr => walk_at "hk"); (case n1 => exact List.cons_ne_nil _ _); (case n2 => exact List.cons_ne_nil _ _); (case hl => exact Nat.le_of_ble_eq_true rfl))
  | ((with_reducible refine x_bm ?_))
  | ((with_reducible refine x_lstRg ?_))
  | ((with_reducible refine x_rg1 ?_))
  | ((with_reducible refine And.intro ?h ?_); (case h => exact tyL (by assumption)))
  | dsimp only)
local macro_rules | `(tactic| walk_at "use") => `(tactic| fail)
local macro_rules | `(tactic| walk_at "rd") => `(tactic| repeat' (walk_at "rd1"))
local macro_rules | `(tactic| walk_at "ex") => `(tactic| first | exact Ex.refl _ | assumption | (refine' Ex.trans ?he (by assumption); (case he => walk_at "ex")))
local macro_rules | `(tactic| walk_at "rd1") => `(tactic| first
  | ((with_reducible refine x_iteDf ?h ?_); (case h => exact rfl))
  | ((with_reducible refine x_iteDt ?h ?_); (case h => exact rfl))
  | ((with_reducible refine x_iteNf ?h ?_); (case h => exact rfl))
  | ((with_reducible refine x_iteNt ?h ?_); (case h => exact rfl))
  | ((with_reducible refine x_isiI (r := true) ?h ?_); (case h => decide +kernel))
  | ((with_reducible refine x_isiI (r := false) ?h ?_); (case h => decide +kernel))
  | ((with_reducible refine x_isiS (r := true) ?h ?_); (case h => decide +kernel))
  | ((with_reducible refine x_isiS (r := false) ?h ?_); (case h => decide +kernel))
  | ((with_reducible refine x_isiB (r := true) ?h ?_); (case h => decide +kernel))
  | ((with_reducible refine x_isiB (r := false) ?h ?_); (case h => decide +kernel))
  | ((with_reducible refine' x_isiT (r := true) ?hp ?h ?_); (case hp => walk_at "hk"); (case h => decide +kernel))
  | ((with_reducible refine' x_isiT (r := false) ?hp ?h ?_); (case hp => walk_at "hk"); (case h => decide +kernel))
  | ((with_reducible refine' x_isiL (r := true) ?hp ?h ?_); (case hp => walk_at "hk"); (case h => decide +kernel))
  | ((with_reducible refine' x_isiL (r := false) ?hp ?h ?_); (case hp => walk_at "hk"); (case h => decide +kernel))
  | ((with_reducible refine' x_isi2L ?hp ?hl ?_); (case hp => walk_at "hk"); (case hl => walk_at "hk"))
  | ((with_reducible refine' x_isi2T ?hp ?hl ?_); (case hp => walk_at "hk"); (case hl => walk_at "hk"))
  | ((with_reducible refine' x_tupOfL ?hq ?_); (case hq => walk_at "hk"))
  | ((with_reducible refine' x_tupOfT ?hq ?_); (case hq => walk_at "hk"))
  | ((with_reducible refine x_lenS ?h ?_); (case h => exact Nat.le_of_ble_eq_true rfl))
  | ((with_reducible refine' x_all ?hq ?_); (case hq => walk_at "hk"))
  | with_reducible refine x_lenSet ?_)

local macro_rules | `(tactic| walk_at "rd1") => `(tactic| first
  | with_reducible refine x_iT ?_
  | with_reducible refine x_fld ?_
  | ((with_reducible refine' x_fldK ?h ?c ?n ?l ?_); (case h => walk_at "hk"); (case c => assumption); (case n => assumption); (case l => first | exact rfl | assumption)))
local macro_rules | `(tactic| walk_at "use") => `(tactic| first | with_reducible refine u_is_index ?_ | with_reducible refine u_is_indexI ?_)
section
variable {P : Program} {w : World} {K : PySem.W.Frag} {mg : Str → Option Value} {base : Heap} {a : Ad} {H H1 : Hp} {Q : VK} {E : XK} {p b c t s dx : Addr} {fl gl : Int} {xs : List V} {qs us : List C} {CS : Addr}
open Er
/-! the calls as data -/
theorem C.lay0 (q : C) : (qd q).canLay0 = true ∧ (qd q).depth ≤ 1 := by
  have s1 : ∀ {z : Str}, strB z = true → PyData.strOk z = true := fun {z} h => by
    unfold strB at h
    simp only [Bool.and_eq_true] at h
    first | exact h.1 | exact h.1.1 | exact h.2
  cases q <;> simp [qd, C.vals, toD, PyData.canLay0, PyData.canLayAll0, PyData.depth, PyData.depthAll] <;> (first | decide +kernel | skip)
theorem lay_all (qs : List C) : PyData.canLayAll0 (qs.map qd) = true ∧ PyData.depthAll (qs.map qd) ≤ 1 := by
  induction qs with
  | nil => simp [PyData.canLayAll0, PyData.depthAll]
  | cons q qs ih =>
    obtain ⟨a1, a2⟩ := q.lay0
    simp only [List.map_cons, PyData.canLayAll0, PyData.depthAll, a1, ih.1, Bool.and_self, true_and]
    omega
theorem shaped_qs (qs : List C) : SeqAt.shaped (.tuple (qs.map qd)) = true ∧ SeqAt.shaped (.list (qs.map qd)) = true := by
  obtain ⟨a1, a2⟩ := lay_all qs
  constructor <;> (simp [SeqAt.shaped, PyData.canLay0, PyData.depth, a1]; omega)
theorem toD_dp {v : V} (h : (∃ i, v = .int i) ∨ ∃ z, v = .str z) : Dp K H v (toD v) := by
  rcases h with ⟨i, rfl⟩ | ⟨z, rfl⟩
  · exact .int i
  · exact .str z
theorem C.dp {q : C} (h : H p = some (.tup q.vals)) : Dp K H (.ref p) (qd q) := by
  refine .tup (SqT.of h) ?_
  cases q <;> simp only [C.vals, List.map_cons, List.map_nil] <;> repeat' (first | exact .nil | refine .cons (toD_dp (by first | exact .inl ⟨_, rfl⟩ | exact .inr ⟨_, rfl⟩)) ?_)
theorem Cls.dps (h : Cls H xs qs) : DpAll K H xs (qs.map qd) := by
  induction h with
  | nil => exact .nil
  | cons hp _ ih => exact .cons (C.dp hp) ih
def eqQ (qs us : List C) : Bool := PyData.eqv (.tuple (qs.map qd)) (.tuple (us.map qd))
/-! files -/
def sp_Script_files (CS : Addr) : Sp := fun vs H Q _ => ∃ (s : Addr) (fl : Int) (qs : List My.C), vs = [.ref s] ∧ Scr CS H s fl qs ∧ Q (.int fl) H
theorem ok_Script_files (T : Txt K w mg a) : FnOk P w K mg base CX0 1 a.a_Script_files a.fd_Script_files ["self"] (sp_Script_files a.c_Script) := by
  refine T.F_Script_files.ok sc_Script_files (fun vs H Q E h => ?_) (fun cdv A outer s H vs Q E hr h => ?_)
  · obtain ⟨s, fl, qs, rfl, _⟩ := h; rfl
  · obtain ⟨s, fl, qs, rfl, ⟨dx, t, xs, h1, h2, h3⟩, k⟩ := h
    have cl := T.t_Script.cl
    have nw := T.A_Script_width
    refine ⟨_, (pss_one (ps_ret (pe_fld (pv 0) rfl))), ?_⟩
    walk_at "rd"
    exact k
/-! size -/
/-! calls() -/
def sp_Script_calls (CS : Addr) : Sp := fun vs H Q _ => ∃ (s : Addr) (fl : Int) (qs : List My.C), vs = [.ref s] ∧ Scr CS H s fl qs ∧ ∀ p xs H1, Ex H H1 → H p = none → H1 p = some (.lst xs) → Cls H1 xs qs → Q (.ref p) H1
theorem ok_Script_calls (T : Txt K w mg a) : FnOk P w K mg base CX0 1 a.a_Script_calls a.fd_Script_calls ["self"] (sp_Script_calls a.c_Script) := by
  refine T.F_Script_calls.ok sc_Script_calls (fun vs H Q E h => ?_) (fun cdv A outer s H vs Q E hr h => ?_)
  · obtain ⟨s, fl, qs, rfl, _⟩ := h; rfl
  · obtain ⟨s, fl, qs, rfl, ⟨dx, t, xs, h1, h2, h3⟩, k⟩ := h
    have cl := T.t_Script.cl
    have nh := T.A_Script_held
    refine ⟨_, (pss_one (ps_ret (pe_callTy c_listOf (by rfl) T.n_list (by decide +kernel) (pa_cons (pe_fld (pv 0) rfl) pa_nil)))), ?_⟩
    walk_at "rd"
    refine ⟨t, xs, rfl, .inr (SqT.of h2), fun p hp => ?_⟩
    have e := Ex.new (o := .lst xs) hp
    exact k p xs _ e hp upd_same (h3.ex e)
/-! call_at(i) within -/
def sp_Script_len (K : PySem.W.Frag) (CS : Addr) : Sp := fun vs H Q _ => ∃ (s dx t : Addr) (fl : Int) (xs : List V), vs = [.ref s] ∧ H s = some (.ins CS dx (flds fl t)) ∧ SqT K H t xs ∧ Q (.int xs.length) H
/-! == -/
/-! iter -/
/-! == -/
/-! calls of methods, properties, and built-ins on a Script -/
theorem x_methS {m : Str} {sp : Sp} {ta : TA} {σ : L2.St} (h : Scr CS H s fl qs) (l : ∀ fl t, (flds fl t).lookup m = none) (k : ta σ H fun vs H2 => sp (.ref s :: vs) H2 Q E) : Ow.MethK CS m sp E ta σ (.ref s) H Q := by
  obtain ⟨dx, t, xs, h1, _⟩ := h
  exact ⟨s, dx, _, rfl, h1, l _ _, k⟩
theorem x_propS {sp : Sp} (h : Scr CS H s fl qs) (k : sp [.ref s] H Q E) : Ow.PropK CS sp E (.ref s) H Q := by
  obtain ⟨dx, t, xs, h1, _⟩ := h
  exact ⟨s, dx, _, rfl, h1, k⟩
theorem u_sfiles (h : Scr CS H s fl qs) (k : Q (.int fl) H) : sp_Script_files CS [.ref s] H Q E := ⟨s, fl, qs, rfl, h, k⟩
theorem u_scalls (h : Scr CS H s fl qs) (k : ∀ p xs H1, Ex H H1 → H p = none → H1 p = some (.lst xs) → My.Cls H1 xs qs → Q (.ref p) H1) : sp_Script_calls CS [.ref s] H Q E := ⟨s, fl, qs, rfl, h, k⟩
theorem x_lenS' {X : Cx} {E : XK} {K' : PySem.W.Frag} (eK : X.K = K') (h : Scr CS H s fl qs) (hl : qs.length ≤ 100000) (k : Q (.int qs.length) H) : Ow.rLenC X CS (sp_Script_len K' CS) E [.ref s] H Q := by
  subst eK
  obtain ⟨dx, t, xs, h1, h2, h3⟩ := h
  exact Ow.x_lenC h1 ⟨s, dx, t, fl, xs, rfl, h1, SqT.of h2, xs.length, rfl, by omega, by rw [h3.len]; exact Int.lt_of_le_of_lt (show (qs.length : Int) ≤ 100000 by omega) (by decide), by rw [h3.len]; exact k⟩
theorem x_listS {X : Cx} {K' : PySem.W.Frag} (eK : X.K = K') (h : Scr CS H s fl qs) (k : ∀ p xs H1, Ex H H1 → H p = none → H1 p = some (.lst xs) → My.Cls H1 xs qs → Q (.ref p) H1) : Ow.rListC X CS "held" (sp_Script_len K' CS) [.ref s] H Q := by
  subst eK
  obtain ⟨dx, t, xs, h1, h2, h3⟩ := h
  exact Ow.x_listC h1 rfl (SqT.of h2) (fun H1 g1 g2 => ⟨s, dx, t, fl, xs, rfl, g1, g2, rfl, rfl⟩) fun p H1 e f g => k p xs H1 e f g (h3.ex e)
end
end My

set_option Elab.async false
set_option linter.all false
set_option maxRecDepth 100000
set_option maxHeartbeats 8000000
namespace My
open PySem PySem.Spec PyProof.Rows L2 Sx
local macro_rules | `(tactic| walk_at "nb") => `(tactic| first | exact NB.tup | exact NB.ints | exact NB.len (of_decide_eq_true rfl) | exact NB.at0b rfl | exact NB.at3b rfl | exact NB.ins | exact NB.own | exact NB.frz | exact NB.refs (by assumption) | assumption)
local macro_rules | `(tactic| walk_at "ne") => `(tactic| first | assumption | exact Ne.symm (by assumption) | exact ne_of_none (by assumption) (by assumption) | exact Ne.symm (ne_of_none (by assumption) (by assumption)))
local macro_rules | `(tactic| walk_at "hk") => `(tactic| first
  | assumption
  | exact upd_same
  | (refine' (upd_ne ?hkne).trans ?hkq; (case hkne => walk_at "ne"); (case hkq => walk_at "hk"))
  | (refine' Ex.kp (by assumption) _ _ ?hkq ?hkn; (case hkq => walk_at "hk"); (case hkn => walk_at "nb")))
local macro_rules | `(tactic| walk_at "rd1") => `(tactic| first
  | ((with_reducible refine' x_var ?hx ?_); (case hx => exact rfl))
  | with_reducible refine x_c ?_
  | with_reducible refine x_op ?_
  | with_reducible refine x_un ?_
  | with_reducible refine x_I0 ?_
  | with_reducible refine x_U ?_
  | ((with_reducible refine x_I ?hc ?_); (case hc => first | exact (by decide : (0 : Int) < _) | (show (0 : Int) < _; omega) | (show CMul _ _; first | exact .inl ⟨by omega, by omega⟩ | exact .inr ⟨by omega, by omega⟩) | (show CDiv _ _; exact ⟨by omega, by omega⟩) | (show CDivW _ _; exact wide_div (b := 200) (by omega) (by assumption) (by decide) (by decide)) | (show CDivW _ _; exact wide_div (b := 31) (by omega) (by omega) (by decide) (by decide))))
  | with_reducible refine x_EqI ?_
  | with_reducible refine x_NeI ?_
  | ((with_reducible refine x_EqSt ?h ?_); (case h => decide +kernel))
  | ((with_reducible refine x_EqSf ?h ?_); (case h => decide +kernel))
  | ((with_reducible refine x_NeSt ?h ?_); (case h => decide +kernel))
  | ((with_reducible refine x_NeSf ?h ?_); (case h => decide +kernel))
  | with_reducible refine x_EqS ?_
  | with_reducible refine x_NeS ?_
  | ((with_reducible refine' x_ixL ?hq ?hi ?_); (case hq => walk_at "hk"); (case hi => first | exact rfl | assumption))
  | ((with_reducible refine' x_ixT ?hq ?hi ?_); (case hq => walk_at "hk"); (case hi => first | exact rfl | assumption))
  | with_reducible refine x_chain ?_
  | with_reducible refine x_tup ?_
  | with_reducible refine x_lst ?_
  | ((with_reducible refine x_lenNew ?hl ?_); (case hl => exact Nat.le_of_ble_eq_true rfl); intro _ _ _ _ _)
  | ((with_reducible refine x_new ?_); intro _ _ _ _ _)
  | with_reducible refine x_sl ?_
  | with_reducible refine x_noPart ?_
  | with_reducible refine x_part ?_
  | with_reducible refine x_ex_int ?_
  | with_reducible refine x_ex_bl ?_
  | with_reducible refine x_ex_2 ?_
  | with_reducible refine x_test ?_
  | with_reducible refine x_B ?_
  | with_reducible refine x_and ?_
  | with_reducible refine x_or ?_
  | with_reducible refine x_not ?_
  | with_reducible refine x_andV ?_
  | with_reducible refine x_orV ?_
  | with_reducible refine x_notV ?_
  | with_reducible refine x_ifE ?_
  | with_reducible refine x_iteT ?_
  | with_reducible refine x_iteF ?_
  | ((with_reducible refine x_iteD ?_ ?_) <;> intro _)
  | ((with_reducible refine x_iteN ?_ ?_) <;> intro _)
  | with_reducible refine x_if ?_
  | with_reducible refine x_seq ?_
  | with_reducible refine x_next ?_
  | with_reducible refine x_asg ?_
  | with_reducible refine x_gName ?_
  | ((with_reducible refine' x_gTup ?hq ?hn ?_); (case hq => walk_at "hk"); (case hn => exact rfl))
  | with_reducible refine x_gCons ?_
  | with_reducible refine x_gNil ?_
  | ((with_reducible refine' x_gConsE ?h ?_); (case h => exact rfl))
  | ((with_reducible refine x_gNilE ?h ?_); (case h => exact rfl))
  | with_reducible refine x_ret ?_
  | with_reducible refine x_drop ?_
  | with_reducible refine x_par ?_
  | ((with_reducible refine' x_aug ?hx ?_); (case hx => exact rfl))
  | with_reducible refine x_ipI ?_
  | with_reducible refine x_augS ?_
  | with_reducible refine x_gSub ?_
  | ((with_reducible refine' x_setL ?hq ?hi ?_); (case hq => walk_at "hk"); (case hi => first | exact rfl | assumption))
  | with_reducible refine x_cons ?_
  | with_reducible refine x_nil ?_
  | with_reducible refine x_CB ?_
  | with_reducible refine x_abs ?_
  | with_reducible refine x_intI ?_
  | with_reducible refine x_intB ?_
  | ((with_reducible refine' x_lenL ?hq ?_); (case hq => walk_at "hk"))
  | ((with_reducible refine' x_lenT ?hq ?_); (case hq => walk_at "hk"))
  | ((with_reducible refine x_iteTe ?h ?_); (case h => exact rfl))
  | ((with_reducible refine x_iteFe ?h ?_); (case h => exact rfl))
  | walk_at "use"
  | with_reducible refine x_callS ?_
  | ((with_reducible refine x_lc ?_))
  | ((with_reducible refine x_for ?_))
  | ((with_reducible refine x_iR1 ?_))
  | ((with_reducible refine x_iL ?_))
  | ((with_reducible refine x_iZ ?_))
  | ((with_reducible refine x_yes ?_))
  | ((with_reducible refine' x_NIDt ?hq ?_); (case hq => assumption))
  | ((with_reducible refine' x_NIDf ?hq ?_); (case hq => assumption))
  | ((with_reducible refine' x_IIDf ?hq ?_); (case hq => assumption))
  | ((with_reducible refine' x_IIDt ?hq ?_); (case hq => assumption))
  | ((with_reducible refine' x_ixDs ?hd ?hq ?_); (case hd => assumption); (case hq => assumption))
  | ((with_reducible refine x_InSt ?h ?_); (case h => decide +kernel))
  | ((with_reducible refine x_InSf ?h ?_); (case h => decide +kernel))
  | ((with_reducible refine' x_notInI ?hq ?_); (case hq => walk_at "hk"))
  | ((with_reducible refine' x_inTt ?hq ?hv ?ha ?he ?_); (case hq => walk_at "hk"); (case hv => exact rfl); (case ha => exact rfl); (case he => decide +kernel))
  | ((with_reducible refine' x_inTf ?hq ?hv ?ha ?he ?_); (case hq => walk_at "hk"); (case hv => exact rfl); (case ha => exact rfl); (case he => decide +kernel))
  | ((with_reducible refine' x_slT ?hq ?hw ?_); (case hq => walk_at "hk"); (case hw => with_unfolding_all exact of_decide_eq_true rfl))
  | ((with_reducible refine' x_slL ?hq ?_); (case hq => walk_at "hk"))
  | ((with_reducible refine' x_catT ?hq ?hr ?n1 ?n2 ?hl ?_); (case hq => walk_at "hk"); (case hr => walk_at "hk"); (case n1 => exact List.cons_ne_nil _ _); (case n2 => exact List.cons_ne_nil _ _); (case hl => exact Nat.le_of_ble_eq_true rfl))
  | ((with_reducible refine x_bm ?_))
  | ((with_reducible refine x_lstRg ?_))
  | ((with_reducible refine x_rg1 ?_))
  | ((with_reducible refine And.intro ?h ?_); (case h => exact tyL (by assumption)))
  | dsimp only)
local macro_rules | `(tactic| walk_at "use") => `(tactic| fail)
local macro_rules | `(tactic| walk_at "rd") => `(tactic| repeat' (walk_at "rd1"))
local macro_rules | `(tactic| walk_at "ex") => `(tactic| first | exact Ex.refl _ | assumption | (refine' Ex.trans ?he (by assumption); (case he => walk_at "ex")))
local macro_rules | `(tactic| walk_at "rd1") => `(tactic| first
  | ((with_reducible refine x_iteDf ?h ?_); (case h => exact rfl))
  | ((with_reducible refine x_iteDt ?h ?_); (case h => exact rfl))
  | ((with_reducible refine x_iteNf ?h ?_); (case h => exact rfl))
  | ((with_reducible refine x_iteNt ?h ?_); (case h => exact rfl))
  | ((with_reducible refine x_isiI (r := true) ?h ?_); (case h => decide +kernel))
  | ((with_reducible refine x_isiI (r := false) ?h ?_); (case h => decide +kernel))
  | ((with_reducible refine x_isiS (r := true) ?h ?_); (case h => decide +kernel))
  | ((with_reducible refine x_isiS (r := false) ?h ?_); (case h => decide +kernel))
  | ((with_reducible refine x_isiB (r := true) ?h ?_); (case h => decide +kernel))
  | ((with_reducible refine x_isiB (r := false) ?h ?_); (case h => decide +kernel))
  | ((with_reducible refine' x_isiT (r := true) ?hp ?h ?_); (case hp => walk_at "hk"); (case h => decide +kernel))
  | ((with_reducible refine' x_isiT (r := false) ?hp ?h ?_); (case hp => walk_at "hk"); (case h => decide +kernel))
  | ((with_reducible refine' x_isiL (r := true) ?hp ?h ?_); (case hp => walk_at "hk"); (case h => decide +kernel))
  | ((with_reducible refine' x_isiL (r := false) ?hp ?h ?_); (case hp => walk_at "hk"); (case h => decide +kernel))
  | ((with_reducible refine' x_isi2L ?hp ?hl ?_); (case hp => walk_at "hk"); (case hl => walk_at "hk"))
  | ((with_reducible refine' x_isi2T ?hp ?hl ?_); (case hp => walk_at "hk"); (case hl => walk_at "hk"))
  | ((with_reducible refine' x_tupOfL ?hq ?_); (case hq => walk_at "hk"))
  | ((with_reducible refine' x_tupOfT ?hq ?_); (case hq => walk_at "hk"))
  | ((with_reducible refine x_lenS ?h ?_); (case h => exact Nat.le_of_ble_eq_true rfl))
  | ((with_reducible refine' x_all ?hq ?_); (case hq => walk_at "hk"))
  | with_reducible refine x_lenSet ?_)
local macro_rules | `(tactic| walk_at "nb") => `(tactic| first | exact NB.xd | exact NB.dK)
local macro_rules | `(tactic| walk_at "rd1") => `(tactic| first
  | with_reducible refine Er.x_par3 ?_
  | with_reducible refine Er.x_ex_3 ?_
  | with_reducible refine Er.x_revL0 ?_
  | ((with_reducible refine' Er.x_revL ?hq ?_); (case hq => walk_at "hk"))
  | with_reducible refine Er.x_dget2 ?_
  | with_reducible refine x_dict0 ?_
  | ((with_reducible refine x_pow ?hc ?_); (case hc => exact ⟨by decide, by decide, by decide⟩))
  | ((with_reducible refine And.intro ?h ?_); (case h => exact tyL (by walk_at "hk")))
  | ((with_reducible refine' Er.x_dis ?hq ?_); (case hq => walk_at "hk"))
  | ((with_reducible refine' Er.x_dgo ?hq ?he ?_); (case hq => walk_at "hk"); (case he => exact rfl)))

local macro_rules | `(tactic| walk_at "bg") => `(tactic| first | assumption | exact Ex.bag (by assumption) (by walk_at "bg"))
section
variable {P : Program} {w : World} {K : PySem.W.Frag} {mg : Str → Option Value} {base : Heap} {a : Ad} {H H1 H' : Hp} {Q : VK} {E : XK} {p b s : Addr} {q : C}
/-! where a call brings -/
def mvOpen (x : Nat) (fs rs r f : Int) : Int × Int := match x with
  | 0 => ((r * fs + f) % rs, (r * fs + f) / rs)
  | 1 => ((f * rs + r) / fs, (f * rs + r) % fs)
  | 2 => (r / 2 + r % 2 * ((rs + 1) / 2), f)
  | _ => if r < (rs + 1) / 2 then (2 * r, f) else (2 * (r - (rs + 1) / 2) + 1, f)
def wheelAt (y rs g h : Int) : Int × Int := if y < rs then (rs - 1 - y, g) else (y - rs, h)
def wheelTo (g h k rs r f : Int) : Int × Int := wheelAt (((if f = g then rs - 1 - r else rs + r) + k) % (2 * rs)) rs g h
def mv (q : C) (fs rs r f : Int) : Int × Int := match q with
  | .all k => ((r - k) % rs, f)
  | .up g k => if f ∈ [g] then ((r - k) % rs, f) else (r, f)
  | .swap g h => if f ∈ [g, h] then (r, g + h - f) else (r, f)
  | .wheel g h k => if f ∈ [g, h] then wheelTo g h k rs r f else (r, f)
  | .about => (rs - 1 - r, fs - 1 - f)
  | .front g h => if f ∈ [g, h] then (if r ≠ 0 then (r, f) else (r, g + h - f)) else (r, f)
  | .halve => mvOpen 0 fs rs r f
  | .pair => mvOpen 1 fs rs r f
  | .others => mvOpen 2 fs rs r f
  | .fill => mvOpen 3 fs rs r f
theorem mv_out {q : C} {fs rs r f : Int} (h : f ∉ q.named) (hq : q.named ≠ []) : mv q fs rs r f = (r, f) := by
  cases q with
  | all k => exact absurd rfl hq
  | about => exact absurd rfl hq
  | halve => exact absurd rfl hq
  | pair => exact absurd rfl hq
  | others => exact absurd rfl hq
  | fill => exact absurd rfl hq
  | up g k => exact if_neg h
  | swap g k => exact if_neg h
  | wheel g k l => exact if_neg h
  | front g k => exact if_neg h
theorem mv_up {g k fs rs r f : Int} (h : f ∈ (C.up g k).named) : mv (.up g k) fs rs r f = ((r - k) % rs, f) := if_pos h
theorem mv_swap {g k fs rs r f : Int} (h : f ∈ (C.swap g k).named) : mv (.swap g k) fs rs r f = (r, g + k - f) := if_pos h
theorem mv_wheel {g k l fs rs r f : Int} (h : f ∈ (C.wheel g k l).named) : mv (.wheel g k l) fs rs r f = wheelTo g k l rs r f := if_pos h
theorem mv_front1 {g k fs rs r f : Int} (h : f ∈ (C.front g k).named) (h0 : ¬ r = 0) : mv (.front g k) fs rs r f = (r, f) := (if_pos h).trans (if_pos h0)
theorem mv_front0 {g k fs rs r f : Int} (h : f ∈ (C.front g k).named) (h0 : r = 0) : mv (.front g k) fs rs r f = (r, g + k - f) := (if_pos h).trans (if_neg (fun q => q h0))
def pairV (x : Int × Int) : List V := [.int x.1, .int x.2]
/-! where an open call brings -/
def mvO (q : C) (fs rs r f : Int) : Int × Int := match q with
  | .halve => mvOpen 0 fs rs r f
  | .pair => mvOpen 1 fs rs r f
  | .others => mvOpen 2 fs rs r f
  | .fill => mvOpen 3 fs rs r f
  | _ => (r, f)
theorem x_cond {t : TT} {σ : L2.St} {H : Hp} {Q : Bool → Hp → Prop} (b : Bool) (c : ∀ Q' : Bool → Hp → Prop, (∀ H1, Ex H H1 → Q' b H1) → t σ H Q') (k : ∀ H1, Ex H H1 → Q b H1) : t σ H Q := c Q k
theorem C.isHalve (h : q.wd = "halve") : q = .halve := by cases q <;> first | rfl | (simp only [C.wd] at h; exact absurd h (by decide +kernel))
theorem C.isPair (h : q.wd = "pair") : q = .pair := by cases q <;> first | rfl | (simp only [C.wd] at h; exact absurd h (by decide +kernel))
theorem C.isOthers (h : q.wd = "others") : q = .others := by cases q <;> first | rfl | (simp only [C.wd] at h; exact absurd h (by decide +kernel))
theorem C.isAbout (h : q.wd = "about") : q = .about := by cases q <;> first | rfl | (simp only [C.wd] at h; exact absurd h (by decide +kernel))
theorem x_inTI {K : PySem.W.Frag} {n : Int} (ns : List Int) (h : H p = some (.tup (ns.map V.int))) (k : Q (.bl (decide (n ∈ ns))) H) : rIn K false (.int n) (.ref p) H Q := ⟨p, _, rfl, .inr (SqT.of h), rfl, flat_ints, by rw [if_neg Bool.false_ne_true, inV_ints]; exact k⟩
def C.isTurn (f : Int) : C → Bool
  | .all _ => true | .up g _ => decide (g = f) | _ => false
def C.isTwo (r f : Int) : C → Bool
  | .swap g h => decide (f ∈ [g, h]) | .front g h => decide (f ∈ [g, h]) && decide (r = 0) | _ => false
def C.isRound (f : Int) : C → Bool
  | .wheel g h _ => decide (f ∈ [g, h]) | _ => false
theorem C.turn_at {fs rs r f : Int} (h : q.isTurn f = true) : ∃ c, atI q.vals (-1) = some (.int c) ∧ mv q fs rs r f = ((r - c) % rs, f) := by
  cases q with
  | all c => exact ⟨c, rfl, rfl⟩
  | up g c => cases of_decide_eq_true h; exact ⟨c, rfl, mv_up (.head _)⟩
  | _ => cases h
theorem C.two_at {fs rs r f : Int} (h : q.isTwo r f = true) : ∃ g c, atI q.vals 1 = some (.int g) ∧ atI q.vals 2 = some (.int c) ∧ mv q fs rs r f = (r, g + c - f) := by
  cases q with
  | swap g c => exact ⟨g, c, rfl, rfl, mv_swap (of_decide_eq_true h)⟩
  | front g c =>
    have h' : (decide (f ∈ [g, c]) && decide (r = 0)) = true := h
    rw [Bool.and_eq_true] at h'
    exact ⟨g, c, rfl, rfl, mv_front0 (of_decide_eq_true h'.1) (of_decide_eq_true h'.2)⟩
  | _ => cases h
theorem C.round_ex {f : Int} (h : q.isRound f = true) : ∃ g c k, q = .wheel g c k ∧ f ∈ [g, c] := by
  cases q with
  | wheel g c k => exact ⟨g, c, k, rfl, of_decide_eq_true h⟩
  | _ => cases h
theorem mvO_mv {fs rs r f : Int} (h1 : q.isTurn f = false) (h2 : q.isTwo r f = false) (h3 : q.isRound f = false) (h4 : ¬ q.wd = "about") : mvO q fs rs r f = mv q fs rs r f := by
  cases q with
  | all c => cases h1
  | up g c => exact (mv_out (q := .up g c) (by simp [C.isTurn] at h1; simp [C.named]; omega) (by simp [C.named])).symm
  | swap g c => exact (mv_out (q := .swap g c) (of_decide_eq_false h2) (by simp [C.named])).symm
  | wheel g c k => exact (mv_out (q := .wheel g c k) (of_decide_eq_false h3) (by simp [C.named])).symm
  | about => exact absurd rfl h4
  | front g c =>
    by_cases hm : f ∈ [g, c]
    · have h0 : ¬ r = 0 := fun e => by
        have h' : (decide (f ∈ [g, c]) && decide (r = 0)) = false := h2
        rw [decide_eq_true hm, decide_eq_true e] at h'
        cases h'
      exact (mv_front1 hm h0).symm
    · exact (mv_out (q := .front g c) hm (by simp [C.named])).symm
  | halve => rfl
  | pair => rfl
  | others => rfl
  | fill => rfl
/-! the law's own open calls -/
def sp_Lopen : Sp := fun vs H Q _ => ∃ (q : C) (fs rs r f : Int) (pl : Addr), vs = [.str q.wd, .int fs, .int rs, .ref pl] ∧ q.straight = false ∧ H pl = some (.tup [.int r, .int f]) ∧ (fs = 2 ∨ fs = 3) ∧ 0 < rs ∧ rs < 1000 ∧ (0 ≤ f ∧ f < fs) ∧ (0 ≤ r ∧ r < rs) ∧ ∀ p1 H1, Ex H H1 → H1 p1 = some (.tup (pairV (mvO q fs rs r f))) → Q (.ref p1) H1
theorem u_Lopen {fs rs r f : Int} {pl : Addr} (h0 : q.straight = false) (h : H pl = some (.tup [.int r, .int f])) (h1 : fs = 2 ∨ fs = 3) (h2 : 0 < rs) (h3 : rs < 1000) (h4 : 0 ≤ f ∧ f < fs) (h5 : 0 ≤ r ∧ r < rs) (k : ∀ p1 H1, Ex H H1 → H1 p1 = some (.tup (pairV (mvO q fs rs r f))) → Q (.ref p1) H1) :
    sp_Lopen [.str q.wd, .int fs, .int rs, .ref pl] H Q E := ⟨q, fs, rs, r, f, pl, rfl, h0, h, h1, h2, h3, h4, h5, k⟩
theorem C.onlyFill (h : q.straight = false) (h1 : ¬ q.wd = "halve") (h2 : ¬ q.wd = "pair") (h3 : ¬ q.wd = "others") : q = .fill := by
  cases q with
  | halve => exact absurd rfl h1
  | pair => exact absurd rfl h2
  | others => exact absurd rfl h3
  | fill => rfl
  | _ => exact absurd h (by simp [C.straight])
theorem ok_Lopen (T : Txt K w mg a) : FnOk P w K mg base CX0 1 a.a_Lopen a.fd_Lopen ["_law_word", "_law_files", "_law_rows", "_law_place"] sp_Lopen := by
  refine T.F_Lopen.ok sc_Lopen (fun vs H Q E h => ?_) (fun cdv A outer s H vs Q E hr h => ?_)
  · obtain ⟨q, fs, rs, r, f, pl, rfl, _⟩ := h; rfl
  · obtain ⟨q, fs, rs, r, f, pl, rfl, hq, hpl, hfs, hrs, hbig, hff, hrr, k⟩ := h
    have hf0 : 0 < fs := by omega
    have fin : ∀ {x : Int × Int} {p1 : Addr} {H1 : Hp}, Ex H H1 → H1 p1 = some (.tup (pairV x)) → x = mvO q fs rs r f → Q (.ref p1) H1 := fun e h hx => k _ _ e (by rw [← hx]; exact h)
    clear k
    refine ⟨_, (pss_cons (ps_par (i := 4) (j := 5) rfl sc_Lopen.nd rfl rfl (by decide) rfl rfl (pa_cons (pe_op op_add (pe_op op_mul (pe_ix ix_tup (pv 3) pe_int (fun _ _ => rfl)) (pv 1)) (pe_ix ix_tup (pv 3) pe_int (fun _ _ => rfl))) (pa_cons (pe_op op_sub (pv 2) (pe_op op_fdiv (pv 2) pe_int)) pa_nil)) rfl)
      (pss_cons (ps_if (pt_cmpR op_eq (pv 0) pe_str (nomark _)) (pss_one (ps_ret (pe_tup (pa_cons (pe_op op_sub (pv 4) (pe_op op_mul (pv 2) (pe_op op_fdivW (pv 4) (pv 2)))) (pa_cons (pe_op op_fdivW (pv 4) (pv 2)) pa_nil))))) pss_nil)
      (pss_cons (ps_if (pt_cmpR op_eq (pv 0) pe_str (nomark _)) (pss_cons (ps_set (i := 6) sc_Lopen.nd rfl (Or.inl rfl) (pe_op op_add (pe_op op_mul (pe_ix ix_tup (pv 3) pe_int (fun _ _ => rfl)) (pv 2)) (pe_ix ix_tup (pv 3) pe_int (fun _ _ => rfl))))
      (pss_one (ps_ret (pe_tup (pa_cons (pe_op op_fdivW (pv 6) (pv 1)) (pa_cons (pe_op op_sub (pv 6) (pe_op op_mul (pv 1) (pe_op op_fdivW (pv 6) (pv 1)))) pa_nil)))))) pss_nil)
      (pss_cons (ps_set (i := 7) sc_Lopen.nd rfl (Or.inl rfl) (pe_op op_sub (pe_ix ix_tup (pv 3) pe_int (fun _ _ => rfl)) (pe_op op_mul pe_int (pe_op op_fdiv (pe_ix ix_tup (pv 3) pe_int (fun _ _ => rfl)) pe_int))))
      (pss_cons (ps_if (pt_cmpR op_eq (pv 0) pe_str (nomark _)) (pss_one (ps_ret (pe_tup (pa_cons (pe_op op_add (pe_op op_fdiv (pe_ix ix_tup (pv 3) pe_int (fun _ _ => rfl)) pe_int) (pe_op op_mul (pv 5) (pv 7))) (pa_cons (pe_ix ix_tup (pv 3) pe_int (fun _ _ => rfl)) pa_nil))))) pss_nil)
      (pss_cons (ps_set (i := 8) sc_Lopen.nd rfl (Or.inl rfl) (pe_callTy c_int (by rfl) T.n_int (by decide +kernel) (pa_cons (pe_cmpR op_ge (pe_ix ix_tup (pv 3) pe_int (fun _ _ => rfl)) (pv 5) (nomark _)) pa_nil)))
      (pss_one (ps_ret (pe_tup (pa_cons (pe_op op_add (pe_op op_mul pe_int (pe_op op_sub (pe_ix ix_tup (pv 3) pe_int (fun _ _ => rfl)) (pe_op op_mul (pv 5) (pv 8)))) (pv 8)) (pa_cons (pe_ix ix_tup (pv 3) pe_int (fun _ _ => rfl)) pa_nil))))))))))), ?_⟩
    walk_at "rd"
    · rename_i hc _ _ _ _ h
      cases C.isHalve hc
      exact fin (by walk_at "ex") (x := (_, _)) h (by rw [← Int.emod_def]; rfl)
    · rename_i hc _ _ _ _ h
      cases C.isPair hc
      exact fin (by walk_at "ex") (x := (_, _)) h (by rw [← Int.emod_def]; rfl)
    · rename_i hc _ _ _ _ h
      cases C.isOthers hc
      refine fin (by walk_at "ex") (x := (_, _)) h ?_
      rw [show r - 2 * (r / 2) = r % 2 by omega, show rs - rs / 2 = (rs + 1) / 2 by omega, Int.mul_comm]
      rfl
    · rename_i h1 h2 h3 _ _ _ _ h
      cases C.onlyFill hq h1 h2 h3
      refine fin (by walk_at "ex") (x := (_, _)) h ?_
      rw [show rs - rs / 2 = (rs + 1) / 2 by omega]
      simp only [mvO, mvOpen]
      by_cases hl : (rs + 1) / 2 ≤ r
      · rw [decide_eq_true hl, if_pos rfl, if_neg (by omega), Int.mul_one]
      · rw [decide_eq_false hl, if_neg Bool.false_ne_true, if_pos (by omega), Int.mul_zero, Int.sub_zero, Int.add_zero]
/-! where a call leads, by the law -/
def sp_Lgoes : Sp := fun vs H Q _ => ∃ (p : Addr) (q : C) (fs rs r f : Int) (pl : Addr), vs = [.ref p, .int fs, .int rs, .ref pl] ∧ H p = some (.tup q.vals) ∧ q.ok fs ∧ H pl = some (.tup [.int r, .int f]) ∧ (fs = 2 ∨ fs = 3) ∧ 0 < rs ∧ rs < 1000 ∧ (0 ≤ f ∧ f < fs) ∧ (0 ≤ r ∧ r < rs) ∧ ∀ p1 H1, Ex H H1 → H1 p1 = some (.tup (pairV (mv q fs rs r f))) → Q (.ref p1) H1
theorem u_Lgoes {fs rs r f : Int} {pl : Addr} (h0 : H p = some (.tup q.vals)) (ho : q.ok fs) (h : H pl = some (.tup [.int r, .int f])) (h1 : fs = 2 ∨ fs = 3) (h2 : 0 < rs) (h3 : rs < 1000) (h4 : 0 ≤ f ∧ f < fs) (h5 : 0 ≤ r ∧ r < rs) (k : ∀ p1 H1, Ex H H1 → H1 p1 = some (.tup (pairV (mv q fs rs r f))) → Q (.ref p1) H1) :
    sp_Lgoes [.ref p, .int fs, .int rs, .ref pl] H Q E := ⟨p, q, fs, rs, r, f, pl, rfl, h0, ho, h, h1, h2, h3, h4, h5, k⟩
theorem C.inOpen : inV (.str q.wd) [.str "halve", .str "pair", .str "others", .str "fill"] = !q.straight := by cases q <;> simp only [C.wd, C.straight] <;> decide +kernel
theorem x_inOp {l : Addr} (h : H l = some (.tup [.str "halve", .str "pair", .str "others", .str "fill"])) (k : Q (.bl (!q.straight)) H) : rIn K false (.str q.wd) (.ref l) H Q := ⟨l, _, rfl, .inr (SqT.of h), rfl, rfl, by rw [if_neg Bool.false_ne_true, C.inOpen]; exact k⟩
theorem mvO_place {fs rs r f : Int} (h : q.straight = true) : mvO q fs rs r f = (r, f) := by
  cases q <;> first | rfl | cases h
theorem ok_Lgoes (T : Txt K w mg a) : FnOk P w K mg base CX0 2 a.a_Lgoes a.fd_Lgoes ["_law_call_here", "_law_files", "_law_rows", "_law_place"] sp_Lgoes := by
  refine T.F_Lgoes.ok sc_Lgoes (fun vs H Q E h => ?_) (fun cdv A outer s H vs Q E hr h => ?_)
  · obtain ⟨p, q, fs, rs, r, f, pl, rfl, _⟩ := h; rfl
  · obtain ⟨p, q, fs, rs, r, f, pl, rfl, hp, ho, hpl, hfs, hrs, hbig, hff, hrr, k⟩ := h
    have G_Lopen := ok_Lopen (P := P) (base := base) T
    have h0 : atI q.vals 0 = some (.str q.wd) := C.wd0
    have fin : ∀ {x : Int × Int} {p1 : Addr} {H1 : Hp}, Ex H H1 → H1 p1 = some (.tup (pairV x)) → x = mv q fs rs r f → Q (.ref p1) H1 := fun e h hx => k _ _ e (by rw [← hx]; exact h)
    clear k
    refine ⟨_, (pss_cons (ps_par3 (i := 4) (j := 5) (l := 6) rfl sc_Lgoes.nd rfl rfl rfl (by decide) (by decide) (by decide) rfl rfl rfl (pa_cons (pe_ix ix_tup (pv 0) pe_int (fun _ _ => rfl)) (pa_cons (pe_ix ix_tup (pv 3) pe_int (fun _ _ => rfl)) (pa_cons (pe_ix ix_tup (pv 3) pe_int (fun _ _ => rfl)) pa_nil))) rfl)
      (pss_cons (ps_if (PW.pt (pw_or (pt_cmpR op_eq (pv 4) pe_str (nomark _)) (pw_or1 (PW.pt (pw_and (pt_cmpR op_eq (pv 4) pe_str (nomark _)) (pw_and1 (pt_cmpR op_eq (pv 6) (pe_ix ix_tup (pv 0) pe_int (fun _ _ => rfl)) (nomark _)))))))) (pss_one (ps_ret (pe_tup (pa_cons (pe_op op_mod (pe_callTy c_int (by rfl) T.n_int (by decide +kernel) (pa_cons (pe_op op_sub (pv 5) (pe_ix ix_tup (pv 0) (pe_un un_neg pe_int) (fun _ _ => rfl))) pa_nil)) (pv 2)) (pa_cons (pv 6) pa_nil))))) pss_nil)
      (pss_cons (ps_if (pt_cmpR op_eq (pv 4) pe_str (nomark _)) (pss_one (ps_ret (pe_tup (pa_cons (pe_op op_sub (pe_op op_sub (pv 2) pe_int) (pv 5)) (pa_cons (pe_op op_sub (pe_op op_sub (pv 1) pe_int) (pv 6)) pa_nil))))) pss_nil)
      (pss_cons (ps_if (PW.pt (pw_and (pt_cmpR op_in_seq (pv 4) (pe_tup (pa_cons pe_str (pa_cons pe_str pa_nil))) (by rfl)) (pw_and (pt_cmpR op_in_seq (pv 6) (pe_slice sl_tup (pv 0) (po_some pe_int) po_none) (by rfl)) (pw_and1 (PW.pt (pw_or (pt_cmpR op_eq (pv 4) pe_str (nomark _)) (pw_or1 (pt_cmpR op_eq (pv 5) pe_int (nomark _))))))))) (pss_one (ps_ret (pe_tup (pa_cons (pv 5) (pa_cons (pe_op op_sub (pe_op op_add (pe_ix ix_tup (pv 0) pe_int (fun _ _ => rfl)) (pe_ix ix_tup (pv 0) pe_int (fun _ _ => rfl))) (pv 6)) pa_nil))))) pss_nil)
      (pss_cons (ps_if (PW.pt (pw_and (pt_cmpR op_eq (pv 4) pe_str (nomark _)) (pw_and1 (pt_cmpR op_in_seq (pv 6) (pe_slice sl_tup (pv 0) (po_some pe_int) (po_some pe_int)) (by rfl))))) (pss_cons (ps_set (i := 7) sc_Lgoes.nd rfl (Or.inl rfl) (pe_op op_mod (pe_callTy c_int (by rfl) T.n_int (by decide +kernel) (pa_cons (pe_op op_add (pe_ifExp (pt_cmpR op_eq (pv 6) (pe_ix ix_tup (pv 0) pe_int (fun _ _ => rfl)) (nomark _)) (pe_op op_add (pv 2) (pv 5)) (pe_op op_sub (pe_op op_sub (pv 2) pe_int) (pv 5))) (pe_ix ix_tup (pv 0) pe_int (fun _ _ => rfl))) pa_nil)) (pe_op op_mul pe_int (pv 2))))
      (pss_one (ps_ret (pe_ifExp (pt_cmpR op_ge (pv 7) (pv 2) (nomark _)) (pe_tup (pa_cons (pe_op op_sub (pv 7) (pv 2)) (pa_cons (pe_ix ix_tup (pv 0) pe_int (fun _ _ => rfl)) pa_nil))) (pe_tup (pa_cons (pe_op op_sub (pe_op op_sub (pv 2) pe_int) (pv 7)) (pa_cons (pe_ix ix_tup (pv 0) pe_int (fun _ _ => rfl)) pa_nil))))))) pss_nil)
      (pss_cons (ps_if (pt_cmpR op_in_seq (pv 4) (pe_tup (pa_cons pe_str (pa_cons pe_str (pa_cons pe_str (pa_cons pe_str pa_nil))))) (by rfl)) (pss_one (ps_ret (pe_call G_Lopen (hr.mono (by decide)) (by rfl) T.m_Lopen T.k_Lopen T.b_Lopen .nil pass0 (pa_cons (pv 4) (pa_cons (pv 1) (pa_cons (pv 2) (pa_cons (pv 3) pa_nil))))))) pss_nil)
      (pss_one (ps_ret (pv 3))))))))), ?_⟩
    refine x_seq (Er.x_par3 ?_)
    repeat ((fail_if_success (refine x_seq (x_if ?_))); walk_at "rd1")
    dsimp only
    refine x_seq (x_if (x_cond (q.isTurn f) (fun Q' kk => ?_) fun H1 e1 => ?_))
    · clear fin G_Lopen
      cases q <;> simp only [C.wd] <;> walk_at "rd"
      · exact kk _ (by walk_at "ex")
      · rename_i g c
        rw [show C.isTurn f (.up g c) = decide (f = g) from decide_eq_decide.mpr ⟨Eq.symm, Eq.symm⟩] at kk
        exact kk _ (by walk_at "ex")
      all_goals exact kk _ (by walk_at "ex")
    have hp1 := e1.kp _ _ hp NB.tup
    have hpl1 := e1.kp _ _ hpl NB.tup
    refine x_iteB (fun b1 => ?_) (fun b1 => ?_)
    · obtain ⟨c, c1, c2⟩ := C.turn_at (fs := fs) (rs := rs) (r := r) b1
      walk_at "rd"
      rename_i h
      exact fin (by walk_at "ex") (x := (_, _)) h c2.symm
    refine x_next ?_
    dsimp only
    repeat ((fail_if_success (refine x_next (x_seq (x_if ?_)))); walk_at "rd1")
    · rename_i hc _ _ _ _ h
      cases C.isAbout hc
      exact fin (by walk_at "ex") (x := (_, _)) h rfl
    rename_i b0
    refine x_next ?_
    dsimp only
    refine x_seq (x_if (x_cond (q.isTwo r f) (fun Q' kk => ?_) fun H2 e2 => ?_))
    · clear fin G_Lopen
      cases q with
      | swap g c =>
        simp only [C.wd]
        walk_at "rd"
        rename_i h2
        refine x_inTI [g, c] h2 ?_
        walk_at "rd"
        · rename_i c1
          rw [show C.isTwo r f (.swap g c) = true from decide_eq_true c1] at kk
          exact kk _ (by walk_at "ex")
        · rename_i c1
          rw [show C.isTwo r f (.swap g c) = false from decide_eq_false c1] at kk
          exact kk _ (by walk_at "ex")
      | front g c =>
        simp only [C.wd]
        walk_at "rd"
        rename_i h2
        refine x_inTI [g, c] h2 ?_
        walk_at "rd"
        · rename_i c1
          rw [show C.isTwo r f (.front g c) = decide (r = 0) from by show (decide (f ∈ [g, c]) && decide (r = 0)) = _; rw [decide_eq_true c1, Bool.true_and]] at kk
          exact kk _ (by walk_at "ex")
        · rename_i c1
          rw [show C.isTwo r f (.front g c) = false from by show (decide (f ∈ [g, c]) && decide (r = 0)) = _; rw [decide_eq_false c1, Bool.false_and]] at kk
          exact kk _ (by walk_at "ex")
      | _ => simp only [C.wd]; walk_at "rd"; exact kk _ (by walk_at "ex")
    have hp2 := e2.kp _ _ hp1 NB.tup
    have hpl2 := e2.kp _ _ hpl1 NB.tup
    refine x_iteB (fun b2 => ?_) (fun b2 => ?_)
    · obtain ⟨g, c, c1, c2, c3⟩ := C.two_at (fs := fs) (rs := rs) b2
      walk_at "rd"
      rename_i h
      exact fin (by walk_at "ex") (x := (_, _)) h c3.symm
    refine x_next ?_
    dsimp only
    refine x_seq (x_if (x_cond (q.isRound f) (fun Q' kk => ?_) fun H3 e3 => ?_))
    · clear fin G_Lopen
      cases q with
      | wheel g c z =>
        simp only [C.wd]
        walk_at "rd"
        rename_i p1 H2 e2 f2 h2
        refine x_inTI [g, c] h2 ?_
        walk_at "rd"
        exact kk _ (by walk_at "ex")
      | _ => simp only [C.wd]; walk_at "rd"; exact kk _ (by walk_at "ex")
    have hp3 := e3.kp _ _ hp2 NB.tup
    have hpl3 := e3.kp _ _ hpl2 NB.tup
    refine x_iteB (fun b3 => ?_) (fun b3 => ?_)
    · clear b1 b2
      obtain ⟨g, h, c, rfl, c1⟩ := C.round_ex b3
      clear b3 hp hp1 hp2 hpl hpl1 hpl2 G_Lopen
      have e03 : Ex H H3 := (e1.trans e2).trans e3
      clear e1 e2 e3
      obtain ⟨_, _, ngh, _⟩ := ho
      have c2 : f = g ∨ f = h := by simpa using c1
      walk_at "rd"
      · rename_i i1 i2 _ _ _ _ hh
        refine fin (by walk_at "ex") (x := (_, _)) hh ?_
        rw [mv_wheel c1]; unfold wheelTo; rw [show (if f = g then rs - 1 - r else rs + r) = rs + r from if_neg (by omega)]; unfold wheelAt; rw [if_neg (by omega)]
      · rename_i i1 i2 _ _ _ _ hh
        refine fin (by walk_at "ex") (x := (_, _)) hh ?_
        rw [mv_wheel c1]; unfold wheelTo; rw [show (if f = g then rs - 1 - r else rs + r) = rs + r from if_neg (by omega)]; unfold wheelAt; rw [if_pos (by omega)]
      · rename_i i1 i2 _ _ _ _ hh
        refine fin (by walk_at "ex") (x := (_, _)) hh ?_
        rw [mv_wheel c1]; unfold wheelTo; rw [show (if f = g then rs - 1 - r else rs + r) = rs - 1 - r from if_pos (by omega)]; unfold wheelAt; rw [if_neg (by omega)]
      · rename_i i1 i2 _ _ _ _ hh
        refine fin (by walk_at "ex") (x := (_, _)) hh ?_
        rw [mv_wheel c1]; unfold wheelTo; rw [show (if f = g then rs - 1 - r else rs + r) = rs - 1 - r from if_pos (by omega)]; unfold wheelAt; rw [if_pos (by omega)]
    refine x_next ?_
    have mm := mvO_mv (fs := fs) (rs := rs) b1 b2 b3 b0
    walk_at "rd"
    rename_i hl
    refine x_inOp hl ?_
    walk_at "rd"
    cases hq : q.straight with
    | false =>
      walk_at "rd"
      refine u_Lopen hq (by walk_at "hk") hfs hrs hbig hff hrr fun p5 H5 e5 h5 => ?_
      exact fin (by walk_at "ex") h5 mm
    | true =>
      walk_at "rd"
      exact fin (by walk_at "ex") (x := (r, f)) (by walk_at "hk") ((mvO_place hq).symm.trans mm)
end
end My

set_option Elab.async false
set_option linter.all false
set_option maxRecDepth 100000
set_option maxHeartbeats 8000000
namespace My
open PySem PySem.Spec PyProof.Rows L2 Sx
local macro_rules | `(tactic| walk_at "nb") => `(tactic| first | exact NB.tup | exact NB.ints | exact NB.len (of_decide_eq_true rfl) | exact NB.at0b rfl | exact NB.at3b rfl | exact NB.ins | exact NB.own | exact NB.frz | exact NB.refs (by assumption) | assumption)
local macro_rules | `(tactic| walk_at "ne") => `(tactic| first | assumption | exact Ne.symm (by assumption) | exact ne_of_none (by assumption) (by assumption) | exact Ne.symm (ne_of_none (by assumption) (by assumption)))
local macro_rules | `(tactic| walk_at "hk") => `(tactic| first
  | assumption
  | exact upd_same
  | (refine' (upd_ne ?hkne).trans ?hkq; (case hkne => walk_at "ne"); (case hkq => walk_at "hk"))
  | (refine' Ex.kp (by assumption) _ _ ?hkq ?hkn; (case hkq => walk_at "hk"); (case hkn => walk_at "nb")))
local macro_rules | `(tactic| walk_at "rd1") => `(tactic| first
  | ((with_reducible refine' x_var ?hx ?_); (case hx => exact rfl))
  | with_reducible refine x_c ?_
  | with_reducible refine x_op ?_
  | with_reducible refine x_un ?_
  | with_reducible refine x_I0 ?_
  | with_reducible refine x_U ?_
  | ((with_reducible refine x_I ?hc ?_); (case hc => first | exact (by decide : (0 : Int) < _) | (show (0 : Int) < _; omega) | (show CMul _ _; first | exact .inl ⟨by omega, by omega⟩ | exact .inr ⟨by omega, by omega⟩) | (show CDiv _ _; exact ⟨by omega, by omega⟩) | (show CDivW _ _; exact wide_div (b := 200) (by omega) (by assumption) (by decide) (by decide)) | (show CDivW _ _; exact wide_div (b := 31) (by omega) (by omega) (by decide) (by decide))))
  | with_reducible refine x_EqI ?_
  | with_reducible refine x_NeI ?_
  | ((with_reducible refine x_EqSt ?h ?_); (case h => decide +kernel))
  | ((with_reducible refine x_EqSf ?h ?_); (case h => decide +kernel))
  | ((with_reducible refine x_NeSt ?h ?_); (case h => decide +kernel))
  | ((with_reducible refine x_NeSf ?h ?_); (case h => decide +kernel))
  | with_reducible refine x_EqS ?_
  | with_reducible refine x_NeS ?_
  | ((with_reducible refine' x_ixL ?hq ?hi ?_); (case hq => walk_at "hk"); (case hi => first | exact rfl | assumption))
  | ((with_reducible refine' x_ixT ?hq ?hi ?_); (case hq => walk_at "hk"); (case hi => first | exact rfl | assumption))
  | with_reducible refine x_chain ?_
  | with_reducible refine x_tup ?_
  | with_reducible refine x_lst ?_
  | ((with_reducible refine x_lenNew ?hl ?_); (case hl => exact Nat.le_of_ble_eq_true rfl); intro _ _ _ _ _)
  | ((with_reducible refine x_new ?_); intro _ _ _ _ _)
  | with_reducible refine x_sl ?_
  | with_reducible refine x_noPart ?_
  | with_reducible refine x_part ?_
  | with_reducible refine x_ex_int ?_
  | with_reducible refine x_ex_bl ?_
  | with_reducible refine x_ex_2 ?_
  | with_reducible refine x_test ?_
  | with_reducible refine x_B ?_
  | with_reducible refine x_and ?_
  | with_reducible refine x_or ?_
  | with_reducible refine x_not ?_
  | with_reducible refine x_andV ?_
  | with_reducible refine x_orV ?_
  | with_reducible refine x_notV ?_
  | with_reducible refine x_ifE ?_
  | with_reducible refine x_iteT ?_
  | with_reducible refine x_iteF ?_
  | ((with_reducible refine x_iteD ?_ ?_) <;> intro _)
  | ((with_reducible refine x_iteN ?_ ?_) <;> intro _)
  | with_reducible refine x_if ?_
  | with_reducible refine x_seq ?_
  | with_reducible refine x_next ?_
  | with_reducible refine x_asg ?_
  | with_reducible refine x_gName ?_
  | ((with_reducible refine' x_gTup ?hq ?hn ?_); (case hq => walk_at "hk"); (case hn => exact rfl))
  | with_reducible refine x_gCons ?_
  | with_reducible refine x_gNil ?_
  | ((with_reducible refine' x_gConsE ?h ?_); (case h => exact rfl))
  | ((with_reducible refine x_gNilE ?h ?_); (case h => exact rfl))
  | with_reducible refine x_ret ?_
  | with_reducible refine x_drop ?_
  | with_reducible refine x_par ?_
  | ((with_reducible refine' x_aug ?hx ?_); (case hx => exact rfl))
  | with_reducible refine x_ipI ?_
  | with_reducible refine x_augS ?_
  | with_reducible refine x_gSub ?_
  | ((with_reducible refine' x_setL ?hq ?hi ?_); (case hq => walk_at "hk"); (case hi => first | exact rfl | assumption))
  | with_reducible refine x_cons ?_
  | with_reducible refine x_nil ?_
  | with_reducible refine x_CB ?_
  | with_reducible refine x_abs ?_
  | with_reducible refine x_intI ?_
  | with_reducible refine x_intB ?_
  | ((with_reducible refine' x_lenL ?hq ?_); (case hq => walk_at "hk"))
  | ((with_reducible refine' x_lenT ?hq ?_); (case hq => walk_at "hk"))
  | ((with_reducible refine x_iteTe ?h ?_); (case h => exact rfl))
  | ((with_reducible refine x_iteFe ?h ?_); (case h => exact rfl))
  | walk_at "use"
  | with_reducible refine x_callS ?_
  | ((with_reducible refine x_lc ?_))
  | ((with_reducible refine x_for ?_))
  | ((with_reducible refine x_iR1 ?_))
  | ((with_reducible refine x_iL ?_))
  | ((with_reducible refine x_iZ ?_))
  | ((with_reducible refine x_yes ?_))
  | ((with_reducible refine' x_NIDt ?hq ?_); (case hq => assumption))
  | ((with_reducible refine' x_NIDf ?hq ?_); (case hq => assumption))
  | ((with_reducible refine' x_IIDf ?hq ?_); (case hq => assumption))
  | ((with_reducible refine' x_IIDt ?hq ?_); (case hq => assumption))
  | ((with_reducible refine' x_ixDs ?hd ?hq ?_); (case hd => assumption); (case hq => assumption))
  | ((with_reducible refine x_InSt ?h ?_); (case h => decide +kernel))
  | ((with_reducible refine x_InSf ?h ?_); (case h => decide +kernel))
  | ((with_reducible refine' x_notInI ?hq ?_); (case hq => walk_at "hk"))
  | ((with_reducible refine' x_inTt ?hq ?hv ?ha ?he ?_); (case hq => walk_at "hk"); (case hv => exact rfl); (case ha => exact rfl); (case he => decide +kernel))
  | ((with_reducible refine' x_inTf ?hq ?hv ?ha ?he ?_); (case hq => walk_at "hk"); (case hv => exact rfl); (case ha => exact rfl); (case he => decide +kernel))
  | ((with_reducible refine' x_slT ?hq ?hw ?_); (case hq => walk_at "hk"); (case hw => with_unfolding_all exact of_decide_eq_true rfl))
  | ((with_reducible refine' x_slL ?hq ?_); (case hq => walk_at "hk"))
  | ((with_reducible refine' x_catT ?hq ?hr ?n1 ?n2 ?hl ?_); (case hq => walk_at "hk"); (case hr => walk_at "hk"); (case n1 => exact List.cons_ne_nil _ _); (case n2 => exact List.cons_ne_nil _ _); (case hl => exact Nat.le_of_ble_eq_true rfl))
  | ((with_reducible refine x_bm ?_))
  | ((with_reducible refine x_lstRg ?_))
  | ((with_reducible refine x_rg1 ?_))
  | ((with_reducible refine And.intro ?h ?_); (case h => exact tyL (by assumption)))
  | dsimp only)
local macro_rules | `(tactic| walk_at "use") => `(tactic| fail)
local macro_rules | `(tactic| walk_at "rd") => `(tactic| repeat' (walk_at "rd1"))
local macro_rules | `(tactic| walk_at "ex") => `(tactic| first | exact Ex.refl _ | assumption | (refine' Ex.trans ?he (by assumption); (case he => walk_at "ex")))

open Cl
/-! the columns behind a call -/
def onLine (fs rs : Int) (x : Int × Int) : Prop := (0 ≤ x.1 ∧ x.1 < rs) ∧ (0 ≤ x.2 ∧ x.2 < fs)
/-- who stands where, behind a call -/
def mvg (q : C) (n m : Nat) (g : Int → Int → Int) : Int → Int → Int := fun r f => g (mv q.turned n m r f).1 (mv q.turned n m r f).2
section
variable {n m : Nat} {g : Int → Int → Int}
theorem beh_all {k : Int} (hm : 0 < m) : tab n m (mvg (.all k) n m g) = (tab n m g).map fun l => l.drop (k % m).toNat ++ l.take (k % m).toNat := by
  have h0 := Int.emod_nonneg k (show (m : Int) ≠ 0 by omega)
  have h1 := Int.emod_lt_of_pos k (show (0 : Int) < m by omega)
  unfold tab
  rw [List.map_map]
  refine List.map_congr_left fun f _ => ?_
  show col m _ f = (col m g f).drop _ ++ (col m g f).take _
  rw [rot_col (by omega)]
  refine col_congr fun r _ _ => ?_
  show g ((r - -k) % m) f = g ((r + ((k % m).toNat : Int)) % m) f
  rw [Int.toNat_of_nonneg h0, Int.add_emod_emod, Int.sub_neg]
theorem beh_up {f : Nat} {k : Int} (hm : 0 < m) (hf : f < n) : tab n m (mvg (.up f k) n m g) = (tab n m g).set f ((col m g f).drop (k % m).toNat ++ (col m g f).take (k % m).toNat) := by
  have h0 := Int.emod_nonneg k (show (m : Int) ≠ 0 by omega)
  have h1 := Int.emod_lt_of_pos k (show (0 : Int) < m by omega)
  rw [rot_col (by omega), tab_set hf]
  refine tab_congr fun r x _ _ _ _ => ?_
  show g (mv (.up f (-k)) n m r x).1 (mv (.up f (-k)) n m r x).2 = _
  by_cases c : x = f
  · subst c
    rw [mv_up (by simp [C.named]), if_pos rfl]
    show g ((r - -k) % m) f = _
    rw [Int.toNat_of_nonneg h0, Int.add_emod_emod, Int.sub_neg]
  · rw [mv_out (q := .up f (-k)) (by simpa [C.named] using c) (List.cons_ne_nil _ _), if_neg c]
theorem beh_swap {a b : Nat} (ha : a < n) (hb : b < n) (hab : a ≠ b) : tab n m (mvg (.swap a b) n m g) = ((tab n m g).set a (col m g b)).set b (col m g a) := by
  rw [show col m g b = col m (fun r _ => g r b) a from rfl, tab_set ha, show col m g a = col m (fun r _ => g r a) b from rfl, tab_set hb]
  refine tab_congr fun r x _ _ _ _ => ?_
  show g (mv (.swap a b) n m r x).1 (mv (.swap a b) n m r x).2 = _
  by_cases c : x = b
  · rw [mv_swap (by simp [C.named, c]), if_pos c]
    show g r (a + b - x) = _
    rw [c, show (a : Int) + b - b = a by omega]
  · rw [if_neg c]
    by_cases d : x = a
    · rw [mv_swap (by simp [C.named, d]), if_pos d]
      show g r (a + b - x) = _
      rw [d, show (a : Int) + b - a = b by omega]
    · rw [mv_out (q := .swap a b) (by simp [C.named, c, d]) (List.cons_ne_nil _ _), if_neg d]
theorem beh_about : tab n m (mvg .about n m g) = (tab n m g).reverse.map List.reverse := by
  symm
  refine is_tab (by simp [tab]) fun i hi => ?_
  rw [List.getElem?_map, List.getElem?_reverse (by rw [tab_len]; exact hi), tab_len, tab_get (by omega)]
  show some (col m g _).reverse = _
  rw [col_rev, show ((n - 1 - i : Nat) : Int) = n - 1 - i by omega]
  rfl
theorem beh_front {a b : Nat} (hm : 0 < m) (ha : a < n) (hb : b < n) (hab : a ≠ b) : tab n m (mvg (.front a b) n m g) = ((tab n m g).set a ((col m g b).take 1 ++ (col m g a).drop 1)).set b ((col m g a).take 1 ++ (col m g b).drop 1) := by
  have mix : ∀ x y : Nat, (col m g x).take 1 ++ (col m g y).drop 1 = col m (fun r _ => if r = 0 then g r x else g r y) y := fun x y => by
    refine is_col (by simp [col]; omega) fun i hi => ?_
    rw [List.getElem?_append]
    simp only [List.length_take, col_len]
    by_cases h : i < min 1 m
    · rw [if_pos h, List.getElem?_take, if_pos (by omega), col_get hi, if_pos (by omega)]
    · rw [if_neg h, List.getElem?_drop, show 1 + (i - min 1 m) = i by omega, col_get hi, if_neg (by omega)]
  rw [mix, mix, show col m (fun r _ => if r = 0 then g r b else g r a) a = col m (fun r x => if r = 0 then g r b else g r a) a from rfl, tab_set ha, tab_set hb]
  refine tab_congr fun r x _ _ _ _ => ?_
  show g (mv (.front a b) n m r x).1 (mv (.front a b) n m r x).2 = _
  by_cases c : x = b
  · rw [if_pos c]
    by_cases z : r = 0
    · rw [mv_front0 (by simp [C.named, c]) z, if_pos z]
      show g r (a + b - x) = _
      rw [c, show (a : Int) + b - b = a by omega]
    · rw [mv_front1 (by simp [C.named, c]) z, if_neg z, c]
  · rw [if_neg c]
    by_cases d : x = a
    · rw [if_pos d]
      by_cases z : r = 0
      · rw [mv_front0 (by simp [C.named, d]) z, if_pos z]
        show g r (a + b - x) = _
        rw [d, show (a : Int) + b - a = b by omega]
      · rw [mv_front1 (by simp [C.named, d]) z, if_neg z, d]
    · rw [mv_out (q := .front a b) (by simp [C.named, c, d]) (List.cons_ne_nil _ _), if_neg d]
/-! the ring of a wheel -/
def ring (m : Nat) (g : Int → Int → Int) (a b : Int) : List Int := (col m g a).reverse ++ col m g b
theorem ring_len {a b : Int} : (ring m g a b).length = 2 * m := by simp [ring, col]; omega
theorem ring_get {a b : Int} {i : Nat} (h : i < 2 * m) : (ring m g a b)[i]? = some (g (wheelAt i m a b).1 (wheelAt i m a b).2) := by
  unfold ring wheelAt
  rw [List.getElem?_append]
  simp only [List.length_reverse, col_len]
  by_cases c : i < m
  · rw [if_pos c, if_pos (by omega), List.getElem?_reverse (by rw [col_len]; exact c), col_len, col_get (by omega), show ((m - 1 - i : Nat) : Int) = m - 1 - i by omega]
  · rw [if_neg c, if_neg (by omega), col_get (by omega), show ((i - m : Nat) : Int) = i - m by omega]
theorem rot_get {l : List Int} {c i : Nat} (hc : c < l.length) (hi : i < l.length) : (l.drop c ++ l.take c)[i]? = l[(i + c) % l.length]? := by
  rw [List.getElem?_append]
  simp only [List.length_drop]
  by_cases h : i < l.length - c
  · rw [if_pos h, List.getElem?_drop, Nat.mod_eq_of_lt (by omega), Nat.add_comm]
  · rw [if_neg h, List.getElem?_take, if_pos (by omega), show i + c = (i - (l.length - c)) + l.length by omega, Nat.add_mod_right, Nat.mod_eq_of_lt (by omega)]
theorem beh_wheel {a b : Nat} {k : Int} (hm : 0 < m) (ha : a < n) (hb : b < n) (hab : a ≠ b) (L : List Int) (hL : L = (ring m g a b).drop (-k % (2 * m : Nat)).toNat ++ (ring m g a b).take (-k % (2 * m : Nat)).toNat) :
    tab n m (mvg (.wheel a b k) n m g) = ((tab n m g).set a (L.take m).reverse).set b (L.drop m) := by
  have h0 := Int.emod_nonneg (-k) (show ((2 * m : Nat) : Int) ≠ 0 by omega)
  have h1 := Int.emod_lt_of_pos (-k) (show (0 : Int) < (2 * m : Nat) by omega)
  have hLl : L.length = 2 * m := by rw [hL]; simp only [List.length_append, List.length_drop, List.length_take, ring_len]; omega
  have hLg : ∀ i : Nat, i < 2 * m → L[i]? = some (g (wheelAt (((i : Int) + -k) % (2 * m)) m a b).1 (wheelAt (((i : Int) + -k) % (2 * m)) m a b).2) := fun i hi => by
    have e : (((i + (-k % (2 * m : Nat)).toNat) % (2 * m) : Nat) : Int) = ((i : Int) + -k) % (2 * m) := by
      rw [Int.natCast_emod, Int.natCast_add, Int.toNat_of_nonneg h0, Int.add_emod_emod]
      simp
    rw [hL, rot_get (by rw [ring_len]; omega) (by rw [ring_len]; exact hi), ring_len, ring_get (Nat.mod_lt _ (by omega)), e]
  have ea : (L.take m).reverse = col m (fun r _ => g (wheelAt ((m - 1 - r + -k) % (2 * m)) m a b).1 (wheelAt ((m - 1 - r + -k) % (2 * m)) m a b).2) a := by
    refine is_col (by rw [List.length_reverse, List.length_take]; omega) fun i hi => ?_
    rw [List.getElem?_reverse (by rw [List.length_take]; omega), List.length_take, show min m L.length - 1 - i = m - 1 - i by omega, List.getElem?_take, if_pos (by omega), hLg _ (by omega), show ((m - 1 - i : Nat) : Int) = m - 1 - i by omega]
  have eb : L.drop m = col m (fun r _ => g (wheelAt ((m + r + -k) % (2 * m)) m a b).1 (wheelAt ((m + r + -k) % (2 * m)) m a b).2) b := by
    refine is_col (by rw [List.length_drop]; omega) fun i hi => ?_
    rw [List.getElem?_drop, hLg _ (by omega), show ((m + i : Nat) : Int) = m + i by omega]
  rw [ea, eb, tab_set ha, tab_set hb]
  refine tab_congr fun r x _ _ _ _ => ?_
  show g (mv (.wheel a b (-k)) n m r x).1 (mv (.wheel a b (-k)) n m r x).2 = _
  by_cases c : x = b
  · have : x ≠ a := by omega
    rw [if_pos c, mv_wheel (by simp [C.named, c])]
    unfold wheelTo
    rw [if_neg this]
  · rw [if_neg c]
    by_cases d : x = a
    · rw [if_pos d, mv_wheel (by simp [C.named, d])]
      unfold wheelTo
      rw [if_pos d]
    · rw [mv_out (q := .wheel a b (-k)) (by simp [C.named, c, d]) (List.cons_ne_nil _ _), if_neg d]
/-! open calls -/
theorem ord_get {i : Nat} (h : i < n * m) : (ord n m g)[i]? = some (g ((i : Int) / n) ((i : Int) % n)) := by
  unfold ord
  rw [List.getElem?_map, List.getElem?_range h]
  rfl
theorem run_lt {i r : Nat} (hi : i < n) (hr : r < m) : i * m + r < n * m := by
  have : (i + 1) * m ≤ n * m := Nat.mul_le_mul_right m hi
  rw [Nat.add_mul, Nat.one_mul] at this
  omega
theorem beh_halve : tab n m (mvg .halve n m g) = (List.range n).map fun i => ((ord n m g).drop (i * m)).take m := by
  symm
  refine is_tab (by simp) fun i hi => ?_
  rw [List.getElem?_map, List.getElem?_range hi]
  refine congrArg some (is_col ?_ fun r hr => ?_)
  · have : (i + 1) * m ≤ n * m := Nat.mul_le_mul_right m hi
    rw [Nat.add_mul, Nat.one_mul] at this
    rw [List.length_take, List.length_drop, ord_len]; omega
  · rw [List.getElem?_take, if_pos hr, List.getElem?_drop, ord_get (run_lt hi hr)]
    show _ = some (g (((i : Int) * m + r) / n) (((i : Int) * m + r) % n))
    rw [show ((i * m + r : Nat) : Int) = (i : Int) * m + r by simp]
theorem flat_get {i r : Nat} (hi : i < n) (hr : r < m) : ((tab n m g).flatten)[i * m + r]? = some (g r i) := by
  have gen : ∀ (N : Nat) (G : Int → Int → Int) (i : Nat), i < N → ((tab N m G).flatten)[i * m + r]? = some (G r i) := by
    intro N
    induction N with
    | zero => intro G i h; omega
    | succ N ih =>
      intro G i h
      have e : tab (N + 1) m G = col m G 0 :: tab N m (fun r f => G r (f + 1)) := by
        unfold tab
        rw [List.range_succ_eq_map, List.map_cons, List.map_map]
        congr 1
      rw [e, List.flatten_cons, List.getElem?_append, col_len]
      cases i with
      | zero => rw [Nat.zero_mul, Nat.zero_add, if_pos hr, col_get hr]; rfl
      | succ i =>
        rw [if_neg (by rw [Nat.add_mul]; omega), show (i + 1) * m + r - m = i * m + r by rw [Nat.add_mul]; omega, ih _ i (by omega)]
        rfl
  exact gen n g i hi
theorem flat_len : ((tab n m g).flatten).length = n * m := by
  have : ∀ N (G : Int → Int → Int), ((tab N m G).flatten).length = N * m := fun N G => by
    unfold tab
    rw [List.length_flatten, List.map_map]
    have : (List.range N).map (List.length ∘ fun f : Nat => col m G f) = List.replicate N m := by
      refine List.ext_getElem? fun i => ?_
      rw [List.getElem?_map, List.getElem?_replicate]
      by_cases h : i < N
      · rw [List.getElem?_range h, if_pos h]; exact congrArg some (col_len ..)
      · rw [List.getElem?_eq_none (by simpa using h), if_neg h]; rfl
    rw [this, List.sum_replicate_nat]
  exact this n g
theorem flat_is (hm : 0 < m) : (tab n m g).flatten = (List.range (n * m)).map fun i : Nat => g ((i : Int) % m) ((i : Int) / m) := by
  refine List.ext_getElem? fun i => ?_
  by_cases h : i < n * m
  · rw [List.getElem?_map, List.getElem?_range h]
    have h1 : i / m < n := Nat.div_lt_of_lt_mul (by rw [Nat.mul_comm]; exact h)
    have h2 : i % m < m := Nat.mod_lt _ hm
    have := flat_get (g := g) h1 h2
    rw [Nat.div_add_mod' ] at this
    rw [this]
    show some (g ((i % m : Nat) : Int) ((i / m : Nat) : Int)) = _
    rw [Int.natCast_emod, Int.natCast_ediv]
    rfl
  · rw [List.getElem?_eq_none (by rw [flat_len]; omega), List.getElem?_eq_none (by simpa using h)]
theorem beh_others (hm : 0 < m) : tab n m (mvg .others n m g) = (tab n m g).map fun l => ((List.range ((m + 1) / 2)).map fun i => 2 * i).filterMap (l[·]?) ++ ((List.range (m / 2)).map fun i => 1 + 2 * i).filterMap (l[·]?) := by
  unfold tab
  rw [List.map_map]
  refine List.map_congr_left fun f _ => ?_
  symm
  show (_ : List Nat).filterMap ((col m g f)[·]?) ++ (_ : List Nat).filterMap ((col m g f)[·]?) = _
  rw [pick_col (fun k hk => by obtain ⟨i, hi, rfl⟩ := List.mem_map.mp hk; have := List.mem_range.mp hi; omega), pick_col (fun k hk => by obtain ⟨i, hi, rfl⟩ := List.mem_map.mp hk; have := List.mem_range.mp hi; omega)]
  refine is_col (by simp; omega) fun i hi => ?_
  rw [List.getElem?_append]
  simp only [List.length_map, List.length_range]
  show _ = some (g (if (i : Int) < ((m : Int) + 1) / 2 then (2 * (i : Int), (f : Int)) else (2 * ((i : Int) - ((m : Int) + 1) / 2) + 1, (f : Int))).1 (if (i : Int) < ((m : Int) + 1) / 2 then (2 * (i : Int), (f : Int)) else (2 * ((i : Int) - ((m : Int) + 1) / 2) + 1, (f : Int))).2)
  by_cases h : i < (m + 1) / 2
  · rw [if_pos h, if_pos (by omega), List.getElem?_map, List.getElem?_map, List.getElem?_range h]
    show some (g ((2 * i : Nat) : Int) f) = _
    rw [show ((2 * i : Nat) : Int) = 2 * (i : Int) by omega]
  · rw [if_neg h, if_neg (by omega), List.getElem?_map, List.getElem?_map, List.getElem?_range (by omega)]
    show some (g ((1 + 2 * (i - (m + 1) / 2) : Nat) : Int) f) = _
    rw [show ((1 + 2 * (i - (m + 1) / 2) : Nat) : Int) = 2 * ((i : Int) - ((m : Int) + 1) / 2) + 1 by omega]

theorem map_get {l : List Int} {i : Nat} {x : Int} (h : l[i]? = some x) : (l.map V.int)[i]? = some (.int x) := by rw [List.getElem?_map, h]; rfl
theorem is_ints {l : List V} {l' : List Int} (hl : l.length = l'.length) (h : ∀ i : Nat, i < l'.length → l[i]? = (l'.map V.int)[i]?) : l = l'.map V.int := by
  refine List.ext_getElem? fun i => ?_
  by_cases c : i < l'.length
  · exact h i c
  · rw [List.getElem?_eq_none (by omega), List.getElem?_eq_none (by simpa using c)]
theorem fill_put {f : Nat} (hm : 0 < m) : Er.putV (Er.putV ((col m g f).map V.int) (steps 0 2 ((m + 1) / 2)) (((col m g f).take ((m + 1) / 2)).map V.int)) (steps 1 2 (m / 2)) (((col m g f).drop ((m + 1) / 2)).map V.int) = (col m (mvg .fill n m g) f).map V.int := by
  refine is_ints (by rw [Er.putV_length, Er.putV_length, List.length_map, col_len, col_len]) fun i hi => ?_
  rw [col_len] at hi
  rw [map_get (col_get hi)]
  have tgt : mvg .fill n m g i f = g ((i : Int) / 2 + (i : Int) % 2 * (((m : Int) + 1) / 2)) f := rfl
  rw [tgt]
  by_cases p : i % 2 = 0
  · have hx : i ∉ steps 1 2 (m / 2) := fun h => by obtain ⟨j, _, e⟩ := steps_mem.mp h; omega
    rw [put_out hx]
    have e : i = 0 + 2 * (i / 2) := by omega
    have := put_steps (xs := (col m g f).map V.int) (ys := ((col m g f).take ((m + 1) / 2)).map V.int) (s := 0) (d := 2) (c := (m + 1) / 2) (j := i / 2) (y := .int (g ((i / 2 : Nat) : Int) f)) (by decide) (by omega) (map_get (by rw [List.getElem?_take, if_pos (by omega), col_get (by omega)])) (by rw [List.length_map, col_len]; omega)
    rw [← e] at this
    rw [this, show (i : Int) / 2 + (i : Int) % 2 * (((m : Int) + 1) / 2) = ((i / 2 : Nat) : Int) by rw [show (i : Int) % 2 = 0 by omega]; omega]
  · have e : i = 1 + 2 * (i / 2) := by omega
    have := put_steps (xs := Er.putV ((col m g f).map V.int) (steps 0 2 ((m + 1) / 2)) (((col m g f).take ((m + 1) / 2)).map V.int)) (ys := ((col m g f).drop ((m + 1) / 2)).map V.int) (s := 1) (d := 2) (c := m / 2) (j := i / 2) (y := .int (g (((m + 1) / 2 + i / 2 : Nat) : Int) f)) (by decide) (by omega) (map_get (by rw [List.getElem?_drop, col_get (by omega)])) (by rw [Er.putV_length, List.length_map, col_len]; omega)
    rw [← e] at this
    rw [this, show (i : Int) / 2 + (i : Int) % 2 * (((m : Int) + 1) / 2) = (((m + 1) / 2 + i / 2 : Nat) : Int) by rw [show (i : Int) % 2 = 1 by omega]; omega]
/-! the order, column by column -/
def ordP (n m : Nat) (g : Int → Int → Int) (j : Nat) : List Int := (List.range (n * m)).map fun i : Nat => if i % n < j then g ((i : Int) / n) ((i : Int) % n) else 0
theorem ordP_len {j : Nat} : (ordP n m g j).length = n * m := by simp [ordP]
theorem ordP_get {j i : Nat} (h : i < n * m) : (ordP n m g j)[i]? = some (if i % n < j then g ((i : Int) / n) ((i : Int) % n) else 0) := by
  unfold ordP
  rw [List.getElem?_map, List.getElem?_range h]
  rfl
theorem ordP_all (hn : 0 < n) : ordP n m g n = ord n m g := List.map_congr_left fun i _ => if_pos (Nat.mod_lt _ hn)
theorem ordP_none : ordP n m g 0 = List.replicate (n * m) 0 := by
  refine List.ext_getElem? fun i => ?_
  by_cases h : i < n * m
  · rw [ordP_get h, List.getElem?_replicate, if_pos h]; rfl
  · rw [List.getElem?_eq_none (by rw [ordP_len]; omega), List.getElem?_eq_none (by simpa using h)]
theorem ord_put {j : Nat} (hj : j < n) : Er.putV ((ordP n m g j).map V.int) (steps j n m) ((col m g j).map V.int) = (ordP n m g (j + 1)).map V.int := by
  refine is_ints (by rw [Er.putV_length, List.length_map, ordP_len, ordP_len]) fun i hi => ?_
  rw [ordP_len] at hi
  rw [map_get (ordP_get hi)]
  have hd : i / n < m := Nat.div_lt_of_lt_mul hi
  have e : i = i % n + n * (i / n) := (Nat.mod_add_div i n).symm
  by_cases p : i % n = j
  · have := put_steps (xs := (ordP n m g j).map V.int) (ys := (col m g j).map V.int) (s := j) (d := n) (c := m) (j := i / n) (y := .int (g ((i / n : Nat) : Int) j)) (by omega) hd (map_get (col_get hd)) (by rw [List.length_map, ordP_len, ← p, ← e]; exact hi)
    rw [← p, ← e] at this
    rw [p] at this
    rw [this, if_pos (by omega), show (i : Int) % n = ((i % n : Nat) : Int) by simp, p, show (i : Int) / n = ((i / n : Nat) : Int) by simp]
  · have hx : i ∉ steps j n m := fun h => by
      obtain ⟨k, hk, e'⟩ := steps_mem.mp h
      apply p
      rw [← e', Nat.add_mul_mod_self_left, Nat.mod_eq_of_lt hj]
    rw [put_out hx, map_get (ordP_get hi)]
    by_cases q : i % n < j
    · rw [if_pos q, if_pos (by omega)]
    · rw [if_neg q, if_neg (by omega)]
theorem count_n {j : Nat} (hj : j < n) : (n * m - j + n - 1) / n = m := by
  rcases Nat.eq_zero_or_pos m with h | h
  · subst h
    rw [Nat.mul_zero]
    exact Nat.div_eq_of_lt (by omega)
  · have h1 : n ≤ n * m := Nat.le_mul_of_pos_right n h
    rw [show n * m - j + n - 1 = (n - 1 - j) + n * m by omega, Nat.add_mul_div_left _ _ (by omega), Nat.div_eq_of_lt (by omega), Nat.zero_add]
theorem places_col {j : Nat} (hj : j < n) : Er.places (n * m) (some (j : Int)) none (some (n : Int)) = steps j n m := by
  rcases Nat.eq_zero_or_pos m with h | h
  · subst h
    rw [Nat.mul_zero]
    unfold Er.places sliceBounds sliceRange steps
    have : (n : Int) > 0 := by omega
    have h2 : ¬ ((j : Int) < 0) := by omega
    simp only [Option.getD_some, this, if_true, h2, if_false]
    rw [show max (0 : Int) (min (j : Int) ((0 : Nat) : Int)) = 0 by omega]
    simp
  · have h1 : n ≤ n * m := Nat.le_mul_of_pos_right n h
    rw [places_up j (by omega) (by omega), count_n hj]
    rfl
theorem steps_lt {j i : Nat} (hj : j < n) (hi : i < m) : j + n * i < n * m := by
  have : n * (i + 1) ≤ n * m := Nat.mul_le_mul_left n hi
  rw [Nat.mul_add, Nat.mul_one] at this
  omega
theorem pick_range {h : Int → Int} {N : Nat} {ks : List Nat} (hk : ∀ k ∈ ks, k < N) : ks.filterMap (((List.range N).map fun i : Nat => h i)[·]?) = ks.map fun k : Nat => h k := by
  induction ks with
  | nil => rfl
  | cons k ks ih =>
    rw [List.filterMap_cons, List.getElem?_map, List.getElem?_range (hk k (.head _)), List.map_cons, ih fun z hz => hk z (.tail _ hz)]
    rfl
theorem cols_of {h : Int → Int} {j : Nat} (hj : j < n) : Er.pickV (((List.range (n * m)).map fun i : Nat => h i).map V.int) (some (j : Int)) none (some (n : Int)) = (col m (fun r f => h (r * n + f)) j).map V.int := by
  rw [pickV_ints, List.length_map, List.length_range, places_col hj, pick_range (fun k hk => by obtain ⟨i, hi, rfl⟩ := steps_mem.mp hk; exact steps_lt hj hi)]
  refine congrArg (List.map V.int) ?_
  unfold col steps
  rw [List.map_map]
  refine List.map_congr_left fun i _ => ?_
  show h ((j + n * i : Nat) : Int) = _
  rw [show ((j + n * i : Nat) : Int) = (i : Int) * n + j by rw [Int.natCast_add, Int.natCast_mul, Int.mul_comm]; omega]
end
end My

set_option Elab.async false
set_option linter.all false
set_option maxRecDepth 100000
set_option maxHeartbeats 4000000
namespace My
open PySem
def seat (g rs r f : Int) : Int := if f = g then rs - 1 - r else rs + r
theorem wheel_range {g h k rs r f : Int} (hrs : 0 < rs) : 0 ≤ (wheelTo g h k rs r f).1 ∧ (wheelTo g h k rs r f).1 < rs ∧ ((wheelTo g h k rs r f).2 = g ∨ (wheelTo g h k rs r f).2 = h) := by
  unfold wheelTo wheelAt
  have h0 := Int.emod_nonneg ((if f = g then rs - 1 - r else rs + r) + k) (show 2 * rs ≠ 0 by omega)
  have h1 := Int.emod_lt_of_pos ((if f = g then rs - 1 - r else rs + r) + k) (show 0 < 2 * rs by omega)
  generalize ((if f = g then rs - 1 - r else rs + r) + k) % (2 * rs) = y at h0 h1
  by_cases c : y < rs
  · rw [if_pos c]; exact ⟨by show 0 ≤ rs - 1 - y; omega, by show rs - 1 - y < rs; omega, .inl rfl⟩
  · rw [if_neg c]; exact ⟨by show 0 ≤ y - rs; omega, by show y - rs < rs; omega, .inr rfl⟩
theorem seat_at {g h rs y : Int} (hgh : g ≠ h) : seat g rs (wheelAt y rs g h).1 (wheelAt y rs g h).2 = y := by
  unfold wheelAt seat
  by_cases c : y < rs
  · rw [if_pos c, if_pos rfl]; show rs - 1 - (rs - 1 - y) = y; omega
  · rw [if_neg c, if_neg (fun e => hgh e.symm)]; show rs + (y - rs) = y; omega
theorem at_seat {g h rs r f : Int} (hf : f = g ∨ f = h) (hgh : g ≠ h) (h0 : 0 ≤ r) (h1 : r < rs) : wheelAt (seat g rs r f) rs g h = (r, f) := by
  unfold wheelAt seat
  by_cases c : f = g
  · rw [if_pos c, if_pos (by omega), c]; congr 1; omega
  · have e : f = h := by rcases hf with q | q; exact absurd q c; exact q
    rw [if_neg c, if_neg (by omega), e]; congr 1; omega
theorem seat_range {g h rs r f : Int} (h0 : 0 ≤ r) (h1 : r < rs) : 0 ≤ seat g rs r f ∧ seat g rs r f < 2 * rs := by
  unfold seat; split <;> omega
theorem wheel_back {g h k rs r f : Int} (hf : f = g ∨ f = h) (hgh : g ≠ h) (h0 : 0 ≤ r) (h1 : r < rs) : wheelTo g h (-k) rs (wheelTo g h k rs r f).1 (wheelTo g h k rs r f).2 = (r, f) := by
  have e1 : wheelTo g h k rs r f = wheelAt ((seat g rs r f + k) % (2 * rs)) rs g h := rfl
  have e2 : ∀ r f, wheelTo g h (-k) rs r f = wheelAt ((seat g rs r f + -k) % (2 * rs)) rs g h := fun _ _ => rfl
  rw [e2, e1, seat_at hgh]
  have sr := seat_range (g := g) (h := h) (f := f) h0 h1
  have : ((seat g rs r f + k) % (2 * rs) + -k) % (2 * rs) = seat g rs r f := by
    rw [Int.emod_add_emod]
    rw [show seat g rs r f + k + -k = seat g rs r f by omega]
    exact Int.emod_eq_of_lt sr.1 sr.2
  rw [this]
  exact at_seat hf hgh h0 h1
theorem emod_back {r k rs : Int} (h0 : 0 ≤ r) (h1 : r < rs) : ((r - k) % rs - -k) % rs = r := by
  rw [show (r - k) % rs - -k = (r - k) % rs + k by omega, Int.emod_add_emod, show r - k + k = r by omega]
  exact Int.emod_eq_of_lt h0 h1
theorem num_range {fs rs r f : Int} (hr : 0 ≤ r ∧ r < rs) (hf : 0 ≤ f ∧ f < fs) : 0 ≤ r * fs + f ∧ r * fs + f < rs * fs := by
  have h1 : 0 ≤ r * fs := Int.mul_nonneg hr.1 (by omega)
  have h2 : (r + 1) * fs ≤ rs * fs := Int.mul_le_mul_of_nonneg_right (by omega) (by omega)
  rw [Int.add_mul, Int.one_mul] at h2
  omega
theorem ediv_of {x a b : Int} (hb : 0 ≤ b ∧ b < x) : (a * x + b) / x = a := by
  rw [Int.add_comm, Int.add_mul_ediv_right _ _ (by omega), Int.ediv_eq_zero_of_lt hb.1 hb.2]; omega
theorem emod_of {x a b : Int} (hb : 0 ≤ b ∧ b < x) : (a * x + b) % x = b := by
  rw [Int.add_comm, Int.add_mul_emod_self_right]
  exact Int.emod_eq_of_lt hb.1 hb.2
theorem mv_range {q : C} {fs rs r f : Int} (hq : q.ok fs) (hr : 0 ≤ r ∧ r < rs) (hf : 0 ≤ f ∧ f < fs) : onLine fs rs (mv q fs rs r f) := by
  have hrs : 0 < rs := by omega
  have em : ∀ x : Int, 0 ≤ x % rs ∧ x % rs < rs := fun x => ⟨Int.emod_nonneg _ (by omega), Int.emod_lt_of_pos _ hrs⟩
  have nr := num_range hr hf
  have nr2 := num_range (fs := rs) (rs := fs) hf hr
  cases q with
  | all k => exact ⟨em _, hf⟩
  | about => exact ⟨by show 0 ≤ rs - 1 - r ∧ rs - 1 - r < rs; omega, by show 0 ≤ fs - 1 - f ∧ fs - 1 - f < fs; omega⟩
  | up g k =>
    by_cases c : f ∈ (C.up g k).named
    · rw [mv_up c]; exact ⟨em _, hf⟩
    · rw [mv_out c (List.cons_ne_nil _ _)]; exact ⟨hr, hf⟩
  | swap g h =>
    by_cases c : f ∈ (C.swap g h).named
    · rw [mv_swap c]
      have c' : f = g ∨ f = h := by simpa [C.named] using c
      obtain ⟨a1, a2, a3⟩ : isFile fs g ∧ isFile fs h ∧ g ≠ h := hq
      unfold isFile at a1 a2
      exact ⟨hr, by show 0 ≤ g + h - f ∧ g + h - f < fs; omega⟩
    · rw [mv_out c (List.cons_ne_nil _ _)]; exact ⟨hr, hf⟩
  | front g h =>
    by_cases c : f ∈ (C.front g h).named
    · by_cases c0 : r = 0
      · rw [mv_front0 c c0]
        have c' : f = g ∨ f = h := by simpa [C.named] using c
        obtain ⟨a1, a2, a3⟩ : isFile fs g ∧ isFile fs h ∧ g ≠ h := hq
        unfold isFile at a1 a2
        exact ⟨hr, by show 0 ≤ g + h - f ∧ g + h - f < fs; omega⟩
      · rw [mv_front1 c c0]; exact ⟨hr, hf⟩
    · rw [mv_out c (List.cons_ne_nil _ _)]; exact ⟨hr, hf⟩
  | wheel g h k =>
    by_cases c : f ∈ (C.wheel g h k).named
    · rw [mv_wheel c]
      obtain ⟨a1, a2, a3, _⟩ : isFile fs g ∧ isFile fs h ∧ g ≠ h ∧ k ≠ 0 := hq
      obtain ⟨b1, b2, b3⟩ := wheel_range (g := g) (h := h) (k := k) (r := r) (f := f) hrs
      refine ⟨⟨b1, b2⟩, ?_⟩
      rcases b3 with e | e
      · rw [e]; exact a1
      · rw [e]; exact a2
    · rw [mv_out c (List.cons_ne_nil _ _)]; exact ⟨hr, hf⟩
  | halve =>
    refine ⟨em _, ?_⟩
    show 0 ≤ (r * fs + f) / rs ∧ (r * fs + f) / rs < fs
    exact ⟨Int.ediv_nonneg nr.1 (by omega), Int.ediv_lt_of_lt_mul hrs (by rw [Int.mul_comm fs rs]; exact nr.2)⟩
  | pair =>
    have hf0 : 0 < fs := by omega
    refine ⟨?_, ⟨Int.emod_nonneg _ (by omega), Int.emod_lt_of_pos _ hf0⟩⟩
    show 0 ≤ (f * rs + r) / fs ∧ (f * rs + r) / fs < rs
    exact ⟨Int.ediv_nonneg nr2.1 (by omega), Int.ediv_lt_of_lt_mul hf0 (by rw [Int.mul_comm rs fs]; exact nr2.2)⟩
  | others =>
    refine ⟨?_, hf⟩
    show 0 ≤ r / 2 + r % 2 * ((rs + 1) / 2) ∧ r / 2 + r % 2 * ((rs + 1) / 2) < rs
    rcases (show r % 2 = 0 ∨ r % 2 = 1 by omega) with e | e
    · rw [e]; omega
    · rw [e]; omega
  | fill =>
    show onLine fs rs (if r < (rs + 1) / 2 then (2 * r, f) else (2 * (r - (rs + 1) / 2) + 1, f))
    by_cases c : r < (rs + 1) / 2
    · rw [if_pos c]; exact ⟨by show 0 ≤ 2 * r ∧ 2 * r < rs; omega, hf⟩
    · rw [if_neg c]; exact ⟨by show 0 ≤ 2 * (r - (rs + 1) / 2) + 1 ∧ 2 * (r - (rs + 1) / 2) + 1 < rs; omega, hf⟩
theorem mv_back {q : C} {fs rs r f : Int} (hq : q.ok fs) (hr : 0 ≤ r ∧ r < rs) (hf : 0 ≤ f ∧ f < fs) : mv q.turned fs rs (mv q fs rs r f).1 (mv q fs rs r f).2 = (r, f) := by
  have hrs : 0 < rs := by omega
  have nr := num_range hr hf
  have nr2 := num_range (fs := rs) (rs := fs) hf hr
  cases q with
  | all k => show (((r - k) % rs - -k) % rs, f) = (r, f); rw [emod_back hr.1 hr.2]
  | about => show (rs - 1 - (rs - 1 - r), fs - 1 - (fs - 1 - f)) = (r, f); congr 1 <;> omega
  | up g k =>
    by_cases c : f ∈ (C.up g k).named
    · rw [mv_up c]
      show mv (.up g (-k)) fs rs ((r - k) % rs) f = _
      rw [mv_up (show f ∈ (C.up g (-k)).named from c), emod_back hr.1 hr.2]
    · rw [mv_out c (List.cons_ne_nil _ _)]
      exact mv_out (q := .up g (-k)) c (List.cons_ne_nil _ _)
  | swap g h =>
    by_cases c : f ∈ (C.swap g h).named
    · rw [mv_swap c]
      have c' : f = g ∨ f = h := by simpa [C.named] using c
      show mv (.swap g h) fs rs r (g + h - f) = _
      rw [mv_swap (by simp [C.named]; omega)]
      congr 1; omega
    · rw [mv_out c (List.cons_ne_nil _ _)]
      exact mv_out (q := .swap g h) c (List.cons_ne_nil _ _)
  | front g h =>
    by_cases c : f ∈ (C.front g h).named
    · by_cases c0 : r = 0
      · rw [mv_front0 c c0]
        have c' : f = g ∨ f = h := by simpa [C.named] using c
        show mv (.front g h) fs rs r (g + h - f) = _
        rw [mv_front0 (by simp [C.named]; omega) c0]
        congr 1; omega
      · rw [mv_front1 c c0]
        exact mv_front1 c c0
    · rw [mv_out c (List.cons_ne_nil _ _)]
      exact mv_out (q := .front g h) c (List.cons_ne_nil _ _)
  | wheel g h k =>
    obtain ⟨a1, a2, a3, _⟩ : isFile fs g ∧ isFile fs h ∧ g ≠ h ∧ k ≠ 0 := hq
    by_cases c : f ∈ (C.wheel g h k).named
    · rw [mv_wheel c]
      have c' : f = g ∨ f = h := by simpa [C.named] using c
      obtain ⟨b1, b2, b3⟩ := wheel_range (g := g) (h := h) (k := k) (r := r) (f := f) hrs
      show mv (.wheel g h (-k)) fs rs (wheelTo g h k rs r f).1 (wheelTo g h k rs r f).2 = _
      rw [mv_wheel (by simp only [C.named, List.mem_cons, List.not_mem_nil, or_false]; exact b3)]
      exact wheel_back c' a3 hr.1 hr.2
    · rw [mv_out c (List.cons_ne_nil _ _)]
      exact mv_out (q := .wheel g h (-k)) c (List.cons_ne_nil _ _)
  | halve =>
    show (((r * fs + f) / rs * rs + (r * fs + f) % rs) / fs, ((r * fs + f) / rs * rs + (r * fs + f) % rs) % fs) = (r, f)
    rw [Int.ediv_mul_add_emod, ediv_of hf, emod_of hf]
  | pair =>
    show (((f * rs + r) / fs * fs + (f * rs + r) % fs) % rs, ((f * rs + r) / fs * fs + (f * rs + r) % fs) / rs) = (r, f)
    rw [Int.ediv_mul_add_emod, ediv_of hr, emod_of hr]
  | others =>
    show mvOpen 3 fs rs (r / 2 + r % 2 * ((rs + 1) / 2)) f = (r, f)
    show (if r / 2 + r % 2 * ((rs + 1) / 2) < (rs + 1) / 2 then (2 * (r / 2 + r % 2 * ((rs + 1) / 2)), f) else (2 * (r / 2 + r % 2 * ((rs + 1) / 2) - (rs + 1) / 2) + 1, f)) = (r, f)
    rcases (show r % 2 = 0 ∨ r % 2 = 1 by omega) with e | e
    · rw [e, if_pos (by omega)]; congr 1; omega
    · rw [e, if_neg (by omega)]; congr 1; omega
  | fill =>
    show mvOpen 2 fs rs (if r < (rs + 1) / 2 then (2 * r, f) else (2 * (r - (rs + 1) / 2) + 1, f)).1 (if r < (rs + 1) / 2 then (2 * r, f) else (2 * (r - (rs + 1) / 2) + 1, f)).2 = (r, f)
    by_cases c : r < (rs + 1) / 2
    · rw [if_pos c]
      show (2 * r / 2 + 2 * r % 2 * ((rs + 1) / 2), f) = (r, f)
      rw [show 2 * r % 2 = 0 by omega]; congr 1; omega
    · rw [if_neg c]
      show ((2 * (r - (rs + 1) / 2) + 1) / 2 + (2 * (r - (rs + 1) / 2) + 1) % 2 * ((rs + 1) / 2), f) = (r, f)
      rw [show (2 * (r - (rs + 1) / 2) + 1) % 2 = 1 by omega]; congr 1; omega
/-! the other side -/
end My

set_option Elab.async false
set_option linter.all false
set_option maxRecDepth 100000
set_option maxHeartbeats 8000000
namespace My
open PySem PySem.Spec PyProof.Rows L2 Sx
local macro_rules | `(tactic| walk_at "nb") => `(tactic| first | exact NB.tup | exact NB.ints | exact NB.len (of_decide_eq_true rfl) | exact NB.at0b rfl | exact NB.at3b rfl | exact NB.ins | exact NB.own | exact NB.frz | exact NB.refs (by assumption) | assumption)
local macro_rules | `(tactic| walk_at "ne") => `(tactic| first | assumption | exact Ne.symm (by assumption) | exact ne_of_none (by assumption) (by assumption) | exact Ne.symm (ne_of_none (by assumption) (by assumption)))
local macro_rules | `(tactic| walk_at "hk") => `(tactic| first
  | assumption
  | exact upd_same
  | (refine' (upd_ne ?hkne).trans ?hkq; (case hkne => walk_at "ne"); (case hkq => walk_at "hk"))
  | (refine' Ex.kp (by assumption) _ _ ?hkq ?hkn; (case hkq => walk_at "hk"); (case hkn => walk_at "nb")))
local macro_rules | `(tactic| walk_at "rd1") => `(tactic| first
  | ((with_reducible refine' x_var ?hx ?_); (case hx => exact rfl))
  | with_reducible refine x_c ?_
  | with_reducible refine x_op ?_
  | with_reducible refine x_un ?_
  | with_reducible refine x_I0 ?_
  | with_reducible refine x_U ?_
  | ((with_reducible refine x_I ?hc ?_); (case hc => first | exact (by decide : (0 : Int) < _) | (show (0 : Int) < _; omega) | (show CMul _ _; first | exact .inl ⟨by omega, by omega⟩ | exact .inr ⟨by omega, by omega⟩) | (show CDiv _ _; exact ⟨by omega, by omega⟩) | (show CDivW _ _; exact wide_div (b := 200) (by omega) (by assumption) (by decide) (by decide)) | (show CDivW _ _; exact wide_div (b := 31) (by omega) (by omega) (by decide) (by decide))))
  | with_reducible refine x_EqI ?_
  | with_reducible refine x_NeI ?_
  | ((with_reducible refine x_EqSt ?h ?_); (case h => decide +kernel))
  | ((with_reducible refine x_EqSf ?h ?_); (case h => decide +kernel))
  | ((with_reducible refine x_NeSt ?h ?_); (case h => decide +kernel))
  | ((with_reducible refine x_NeSf ?h ?_); (case h => decide +kernel))
  | with_reducible refine x_EqS ?_
  | with_reducible refine x_NeS ?_
  | ((with_reducible refine' x_ixL ?hq ?hi ?_); (case hq => walk_at "hk"); (case hi => first | exact rfl | assumption))
  | ((with_reducible refine' x_ixT ?hq ?hi ?_); (case hq => walk_at "hk"); (case hi => first | exact rfl | assumption))
  | with_reducible refine x_chain ?_
  | with_reducible refine x_tup ?_
  | with_reducible refine x_lst ?_
  | ((with_reducible refine x_lenNew ?hl ?_); (case hl => exact Nat.le_of_ble_eq_true rfl); intro _ _ _ _ _)
  | ((with_reducible refine x_new ?_); intro _ _ _ _ _)
  | with_reducible refine x_sl ?_
  | with_reducible refine x_noPart ?_
  | with_reducible refine x_part ?_
  | with_reducible refine x_ex_int ?_
  | with_reducible refine x_ex_bl ?_
  | with_reducible refine x_ex_2 ?_
  | with_reducible refine x_test ?_
  | with_reducible refine x_B ?_
  | with_reducible refine x_and ?_
  | with_reducible refine x_or ?_
  | with_reducible refine x_not ?_
  | with_reducible refine x_andV ?_
  | with_reducible refine x_orV ?_
  | with_reducible refine x_notV ?_
  | with_reducible refine x_ifE ?_
  | with_reducible refine x_iteT ?_
  | with_reducible refine x_iteF ?_
  | ((with_reducible refine x_iteD ?_ ?_) <;> intro _)
  | ((with_reducible refine x_iteN ?_ ?_) <;> intro _)
  | with_reducible refine x_if ?_
  | with_reducible refine x_seq ?_
  | with_reducible refine x_next ?_
  | with_reducible refine x_asg ?_
  | with_reducible refine x_gName ?_
  | ((with_reducible refine' x_gTup ?hq ?hn ?_); (case hq => walk_at "hk"); (case hn => exact rfl))
  | with_reducible refine x_gCons ?_
  | with_reducible refine x_gNil ?_
  | ((with_reducible refine' x_gConsE ?h ?_); (case h => exact rfl))
  | ((with_reducible refine x_gNilE ?h ?_); (case h => exact rfl))
  | with_reducible refine x_ret ?_
  | with_reducible refine x_drop ?_
  | with_reducible refine x_par ?_
  | ((with_reducible refine' x_aug ?hx ?_); (case hx => exact rfl))
  | with_reducible refine x_ipI ?_
  | with_reducible refine x_augS ?_
  | with_reducible refine x_gSub ?_
  | ((with_reducible refine' x_setL ?hq ?hi ?_); (case hq => walk_at "hk"); (case hi => first | exact rfl | assumption))
  | with_reducible refine x_cons ?_
  | with_reducible refine x_nil ?_
  | with_reducible refine x_CB ?_
  | with_reducible refine x_abs ?_
  | with_reducible refine x_intI ?_
  | with_reducible refine x_intB ?_
  | ((with_reducible refine' x_lenL ?hq ?_); (case hq => walk_at "hk"))
  | ((with_reducible refine' x_lenT ?hq ?_); (case hq => walk_at "hk"))
  | ((with_reducible refine x_iteTe ?h ?_); (case h => exact rfl))
  | ((with_reducible refine x_iteFe ?h ?_); (case h => exact rfl))
  | walk_at "use"
  | with_reducible refine x_callS ?_
  | ((with_reducible refine x_lc ?_))
  | ((with_reducible refine x_for ?_))
  | ((with_reducible refine x_iR1 ?_))
  | ((with_reducible refine x_iL ?_))
  | ((with_reducible refine x_iZ ?_))
  | ((with_reducible refine x_yes ?_))
  | ((with_reducible refine' x_NIDt ?hq ?_); (case hq => assumption))
  | ((with_reducible refine' x_NIDf ?hq ?_); (case hq => assumption))
  | ((with_reducible refine' x_IIDf ?hq ?_); (case hq => assumption))
  | ((with_reducible refine' x_IIDt ?hq ?_); (case hq => assumption))
  | ((with_reducible refine' x_ixDs ?hd ?hq ?_); (case hd => assumption); (case hq => assumption))
  | ((with_reducible refine x_InSt ?h ?_); (case h => decide +kernel))
  | ((with_reducible refine x_InSf ?h ?_); (case h => decide +kernel))
  | ((with_reducible refine' x_notInI ?hq ?_); (case hq => walk_at "hk"))
  | ((with_reducible refine' x_inTt ?hq ?hv ?ha ?he ?_); (case hq => walk_at "hk"); (case hv => exact rfl); (case ha => exact rfl); (case he => decide +kernel))
  | ((with_reducible refine' x_inTf ?hq ?hv ?ha ?he ?_); (case hq => walk_at "hk"); (case hv => exact rfl); (case ha => exact rfl); (case he => decide +kernel))
  | ((with_reducible refine' x_slT ?hq ?hw ?_); (case hq => walk_at "hk"); (case hw => with_unfolding_all exact of_decide_eq_true rfl))
  | ((with_reducible refine' x_slL ?hq ?_); (case hq => walk_at "hk"))
  | ((with_reducible refine' x_catT ?hq ?hr ?n1 ?n2 ?hl ?_); (case hq => walk_at "hk"); (case hr => walk_at "hk"); (case n1 => exact List.cons_ne_nil _ _); (case n2 => exact List.cons_ne_nil _ _); (case hl => exact Nat.le_of_ble_eq_true rfl))
  | ((with_reducible refine x_bm ?_))
  | ((with_reducible refine x_lstRg ?_))
  | ((with_reducible refine x_rg1 ?_))
  | ((with_reducible refine And.intro ?h ?_); (case h => exact tyL (by assumption)))
  | dsimp only)
local macro_rules | `(tactic| walk_at "use") => `(tactic| fail)
local macro_rules | `(tactic| walk_at "rd") => `(tactic| repeat' (walk_at "rd1"))
local macro_rules | `(tactic| walk_at "ex") => `(tactic| first | exact Ex.refl _ | assumption | (refine' Ex.trans ?he (by assumption); (case he => walk_at "ex")))
local macro_rules | `(tactic| walk_at "rd1") => `(tactic| first
  | ((with_reducible refine x_iteDf ?h ?_); (case h => exact rfl))
  | ((with_reducible refine x_iteDt ?h ?_); (case h => exact rfl))
  | ((with_reducible refine x_iteNf ?h ?_); (case h => exact rfl))
  | ((with_reducible refine x_iteNt ?h ?_); (case h => exact rfl))
  | ((with_reducible refine x_isiI (r := true) ?h ?_); (case h => decide +kernel))
  | ((with_reducible refine x_isiI (r := false) ?h ?_); (case h => decide +kernel))
  | ((with_reducible refine x_isiS (r := true) ?h ?_); (case h => decide +kernel))
  | ((with_reducible refine x_isiS (r := false) ?h ?_); (case h => decide +kernel))
  | ((with_reducible refine x_isiB (r := true) ?h ?_); (case h => decide +kernel))
  | ((with_reducible refine x_isiB (r := false) ?h ?_); (case h => decide +kernel))
  | ((with_reducible refine' x_isiT (r := true) ?hp ?h ?_); (case hp => walk_at "hk"); (case h => decide +kernel))
  | ((with_reducible refine' x_isiT (r := false) ?hp ?h ?_); (case hp => walk_at "hk"); (case h => decide +kernel))
  | ((with_reducible refine' x_isiL (r := true) ?hp ?h ?_); (case hp => walk_at "hk"); (case h => decide +kernel))
  | ((with_reducible refine' x_isiL (r := false) ?hp ?h ?_); (case hp => walk_at "hk"); (case h => decide +kernel))
  | ((with_reducible refine' x_isi2L ?hp ?hl ?_); (case hp => walk_at "hk"); (case hl => walk_at "hk"))
  | ((with_reducible refine' x_isi2T ?hp ?hl ?_); (case hp => walk_at "hk"); (case hl => walk_at "hk"))
  | ((with_reducible refine' x_tupOfL ?hq ?_); (case hq => walk_at "hk"))
  | ((with_reducible refine' x_tupOfT ?hq ?_); (case hq => walk_at "hk"))
  | ((with_reducible refine x_lenS ?h ?_); (case h => exact Nat.le_of_ble_eq_true rfl))
  | ((with_reducible refine' x_all ?hq ?_); (case hq => walk_at "hk"))
  | with_reducible refine x_lenSet ?_)

section
variable {q : C} {qs us : List C} {fs rs r f : Int}
def led (qs : List C) (fs rs : Int) (x : Int × Int) : Int × Int := qs.foldl (fun x q => mv q fs rs x.1 x.2) x
theorem led_range {x : Int × Int} (h : ∀ q ∈ qs, q.ok fs) (hx : onLine fs rs x) : onLine fs rs (led qs fs rs x) := by
  induction qs generalizing x with
  | nil => exact hx
  | cons q qs ih => exact ih (fun z hz => h z (.tail _ hz)) (mv_range (h q (.head _)) hx.1 hx.2)
end
end My

set_option Elab.async false
set_option linter.all false
set_option maxRecDepth 100000
set_option maxHeartbeats 8000000
namespace My
open PySem PySem.Spec PyProof.Rows L2 Sx
local macro_rules | `(tactic| walk_at "nb") => `(tactic| first | exact NB.tup | exact NB.ints | exact NB.len (of_decide_eq_true rfl) | exact NB.at0b rfl | exact NB.at3b rfl | exact NB.ins | exact NB.own | exact NB.frz | exact NB.refs (by assumption) | assumption)
local macro_rules | `(tactic| walk_at "ne") => `(tactic| first | assumption | exact Ne.symm (by assumption) | exact ne_of_none (by assumption) (by assumption) | exact Ne.symm (ne_of_none (by assumption) (by assumption)))
local macro_rules | `(tactic| walk_at "hk") => `(tactic| first
  | assumption
  | exact upd_same
  | (refine' (upd_ne ?hkne).trans ?hkq; (case hkne => walk_at "ne"); (case hkq => walk_at "hk"))
  | (refine' Ex.kp (by assumption) _ _ ?hkq ?hkn; (case hkq => walk_at "hk"); (case hkn => walk_at "nb")))
local macro_rules | `(tactic| walk_at "rd1") => `(tactic| first
  | ((with_reducible refine' x_var ?hx ?_); (case hx => exact rfl))
  | with_reducible refine x_c ?_
  | with_reducible refine x_op ?_
  | with_reducible refine x_un ?_
  | with_reducible refine x_I0 ?_
  | with_reducible refine x_U ?_
  | ((with_reducible refine x_I ?hc ?_); (case hc => first | exact (by decide : (0 : Int) < _) | (show (0 : Int) < _; omega) | (show CMul _ _; first | exact .inl ⟨by omega, by omega⟩ | exact .inr ⟨by omega, by omega⟩) | (show CDiv _ _; exact ⟨by omega, by omega⟩) | (show CDivW _ _; exact wide_div (b := 200) (by omega) (by assumption) (by decide) (by decide)) | (show CDivW _ _; exact wide_div (b := 31) (by omega) (by omega) (by decide) (by decide))))
  | with_reducible refine x_EqI ?_
  | with_reducible refine x_NeI ?_
  | ((with_reducible refine x_EqSt ?h ?_); (case h => decide +kernel))
  | ((with_reducible refine x_EqSf ?h ?_); (case h => decide +kernel))
  | ((with_reducible refine x_NeSt ?h ?_); (case h => decide +kernel))
  | ((with_reducible refine x_NeSf ?h ?_); (case h => decide +kernel))
  | with_reducible refine x_EqS ?_
  | with_reducible refine x_NeS ?_
  | ((with_reducible refine' x_ixL ?hq ?hi ?_); (case hq => walk_at "hk"); (case hi => first | exact rfl | assumption))
  | ((with_reducible refine' x_ixT ?hq ?hi ?_); (case hq => walk_at "hk"); (case hi => first | exact rfl | assumption))
  | with_reducible refine x_chain ?_
  | with_reducible refine x_tup ?_
  | with_reducible refine x_lst ?_
  | ((with_reducible refine x_lenNew ?hl ?_); (case hl => exact Nat.le_of_ble_eq_true rfl); intro _ _ _ _ _)
  | ((with_reducible refine x_new ?_); intro _ _ _ _ _)
  | with_reducible refine x_sl ?_
  | with_reducible refine x_noPart ?_
  | with_reducible refine x_part ?_
  | with_reducible refine x_ex_int ?_
  | with_reducible refine x_ex_bl ?_
  | with_reducible refine x_ex_2 ?_
  | with_reducible refine x_test ?_
  | with_reducible refine x_B ?_
  | with_reducible refine x_and ?_
  | with_reducible refine x_or ?_
  | with_reducible refine x_not ?_
  | with_reducible refine x_andV ?_
  | with_reducible refine x_orV ?_
  | with_reducible refine x_notV ?_
  | with_reducible refine x_ifE ?_
  | with_reducible refine x_iteT ?_
  | with_reducible refine x_iteF ?_
  | ((with_reducible refine x_iteD ?_ ?_) <;> intro _)
  | ((with_reducible refine x_iteN ?_ ?_) <;> intro _)
  | with_reducible refine x_if ?_
  | with_reducible refine x_seq ?_
  | with_reducible refine x_next ?_
  | with_reducible refine x_asg ?_
  | with_reducible refine x_gName ?_
  | ((with_reducible refine' x_gTup ?hq ?hn ?_); (case hq => walk_at "hk"); (case hn => exact rfl))
  | with_reducible refine x_gCons ?_
  | with_reducible refine x_gNil ?_
  | ((with_reducible refine' x_gConsE ?h ?_); (case h => exact rfl))
  | ((with_reducible refine x_gNilE ?h ?_); (case h => exact rfl))
  | with_reducible refine x_ret ?_
  | with_reducible refine x_drop ?_
  | with_reducible refine x_par ?_
  | ((with_reducible refine' x_aug ?hx ?_); (case hx => exact rfl))
  | with_reducible refine x_ipI ?_
  | with_reducible refine x_augS ?_
  | with_reducible refine x_gSub ?_
  | ((with_reducible refine' x_setL ?hq ?hi ?_); (case hq => walk_at "hk"); (case hi => first | exact rfl | assumption))
  | with_reducible refine x_cons ?_
  | with_reducible refine x_nil ?_
  | with_reducible refine x_CB ?_
  | with_reducible refine x_abs ?_
  | with_reducible refine x_intI ?_
  | with_reducible refine x_intB ?_
  | ((with_reducible refine' x_lenL ?hq ?_); (case hq => walk_at "hk"))
  | ((with_reducible refine' x_lenT ?hq ?_); (case hq => walk_at "hk"))
  | ((with_reducible refine x_iteTe ?h ?_); (case h => exact rfl))
  | ((with_reducible refine x_iteFe ?h ?_); (case h => exact rfl))
  | walk_at "use"
  | with_reducible refine x_callS ?_
  | ((with_reducible refine x_lc ?_))
  | ((with_reducible refine x_for ?_))
  | ((with_reducible refine x_iR1 ?_))
  | ((with_reducible refine x_iL ?_))
  | ((with_reducible refine x_iZ ?_))
  | ((with_reducible refine x_yes ?_))
  | ((with_reducible refine' x_NIDt ?hq ?_); (case hq => assumption))
  | ((with_reducible refine' x_NIDf ?hq ?_); (case hq => assumption))
  | ((with_reducible refine' x_IIDf ?hq ?_); (case hq => assumption))
  | ((with_reducible refine' x_IIDt ?hq ?_); (case hq => assumption))
  | ((with_reducible refine' x_ixDs ?hd ?hq ?_); (case hd => assumption); (case hq => assumption))
  | ((with_reducible refine x_InSt ?h ?_); (case h => decide +kernel))
  | ((with_reducible refine x_InSf ?h ?_); (case h => decide +kernel))
  | ((with_reducible refine' x_notInI ?hq ?_); (case hq => walk_at "hk"))
  | ((with_reducible refine' x_inTt ?hq ?hv ?ha ?he ?_); (case hq => walk_at "hk"); (case hv => exact rfl); (case ha => exact rfl); (case he => decide +kernel))
  | ((with_reducible refine' x_inTf ?hq ?hv ?ha ?he ?_); (case hq => walk_at "hk"); (case hv => exact rfl); (case ha => exact rfl); (case he => decide +kernel))
  | ((with_reducible refine' x_slT ?hq ?hw ?_); (case hq => walk_at "hk"); (case hw => with_unfolding_all exact of_decide_eq_true rfl))
  | ((with_reducible refine' x_slL ?hq ?_); (case hq => walk_at "hk"))
  | ((with_reducible refine' x_catT ?hq ?hr ?n1 ?n2 ?hl ?_); (case hq => walk_at "hk"); (case hr => walk_at "hk"); (case n1 => exact List.cons_ne_nil _ _); (case n2 => exact List.cons_ne_nil _ _); (case hl => exact Nat.le_of_ble_eq_true rfl))
  | ((with_reducible refine x_bm ?_))
  | ((with_reducible refine x_lstRg ?_))
  | ((with_reducible refine x_rg1 ?_))
  | ((with_reducible refine And.intro ?h ?_); (case h => exact tyL (by assumption)))
  | dsimp only)
local macro_rules | `(tactic| walk_at "use") => `(tactic| fail)
local macro_rules | `(tactic| walk_at "rd") => `(tactic| repeat' (walk_at "rd1"))
local macro_rules | `(tactic| walk_at "ex") => `(tactic| first | exact Ex.refl _ | assumption | (refine' Ex.trans ?he (by assumption); (case he => walk_at "ex")))
local macro_rules | `(tactic| walk_at "rd1") => `(tactic| first
  | ((with_reducible refine x_iteDf ?h ?_); (case h => exact rfl))
  | ((with_reducible refine x_iteDt ?h ?_); (case h => exact rfl))
  | ((with_reducible refine x_iteNf ?h ?_); (case h => exact rfl))
  | ((with_reducible refine x_iteNt ?h ?_); (case h => exact rfl))
  | ((with_reducible refine x_isiI (r := true) ?h ?_); (case h => decide +kernel))
  | ((with_reducible refine x_isiI (r := false) ?h ?_); (case h => decide +kernel))
  | ((with_reducible refine x_isiS (r := true) ?h ?_); (case h => decide +kernel))
  | ((with_reducible refine x_isiS (r := false) ?h ?_); (case h => decide +kernel))
  | ((with_reducible refine x_isiB (r := true) ?h ?_); (case h => decide +kernel))
  | ((with_reducible refine x_isiB (r := false) ?h ?_); (case h => decide +kernel))
  | ((with_reducible refine' x_isiT (r := true) ?hp ?h ?_); (case hp => walk_at "hk"); (case h => decide +kernel))
  | ((with_reducible refine' x_isiT (r := false) ?hp ?h ?_); (case hp => walk_at "hk"); (case h => decide +kernel))
  | ((with_reducible refine' x_isiL (r := true) ?hp ?h ?_); (case hp => walk_at "hk"); (case h => decide +kernel))
  | ((with_reducible refine' x_isiL (r := false) ?hp ?h ?_); (case hp => walk_at "hk"); (case h => decide +kernel))
  | ((with_reducible refine' x_isi2L ?hp ?hl ?_); (case hp => walk_at "hk"); (case hl => walk_at "hk"))
  | ((with_reducible refine' x_isi2T ?hp ?hl ?_); (case hp => walk_at "hk"); (case hl => walk_at "hk"))
  | ((with_reducible refine' x_tupOfL ?hq ?_); (case hq => walk_at "hk"))
  | ((with_reducible refine' x_tupOfT ?hq ?_); (case hq => walk_at "hk"))
  | ((with_reducible refine x_lenS ?h ?_); (case h => exact Nat.le_of_ble_eq_true rfl))
  | ((with_reducible refine' x_all ?hq ?_); (case hq => walk_at "hk"))
  | with_reducible refine x_lenSet ?_)
local macro_rules | `(tactic| walk_at "rd1") => `(tactic| first
  | with_reducible refine Er.x_iR2 ?_
  | with_reducible refine Er.x_iEn ?_
  | with_reducible refine Er.x_cont ?_
  | ((with_reducible refine Er.x_isBt ?h ?_); (case h => exact rfl))
  | ((with_reducible refine Er.x_isBf ?h ?_); (case h => exact rfl))
  | ((with_reducible refine Er.x_isNBt ?h ?_); (case h => exact rfl))
  | ((with_reducible refine Er.x_isNBf ?h ?_); (case h => exact rfl))
  | with_reducible refine Er.x_isB ?_
  | with_reducible refine Er.x_isNB ?_)

open Cl
local macro_rules | `(tactic| walk_at "nb") => `(tactic| first | exact NB.ints | assumption | (refine Ow.Refs.nb ?_; assumption))
local macro_rules | `(tactic| walk_at "rd1") => `(tactic| first
  | with_reducible refine Er.x_stepL ?_
  | ((with_reducible refine' Er.x_stepK ?h ?h0 ?_); (case h => walk_at "hk"); (case h0 => decide); intro _ _ _ _ _)
  | with_reducible refine Er.x_gStep ?_
  | ((with_reducible refine' x_cat ?h ?h' ?l ?_); (case h => walk_at "hk"); (case h' => walk_at "hk"); (case l => assumption))
  | ((with_reducible refine' x_listOfL ?h ?_); (case h => walk_at "hk")))
section
variable {P : Program} {w : World} {K : PySem.W.Frag} {mg : Str → Option Value} {base : Heap} {a : Ad} {H H1 : Hp} {Q : VK} {E : XK} {p b c t s dx : Addr} {fl gl : Int} {xs ps : List V} {qs us : List C} {n m : Nat} {g : Int → Int → Int} {ls : List (List Int)}
open Er
/-- lists of ints, one behind another -/
inductive Cols (H : Hp) : List V → List (List Int) → Prop
  | nil : Cols H [] []
  | cons {p : Addr} {l : List Int} {ps : List V} {ls : List (List Int)} (h : H p = some (.lst (l.map V.int))) (t : Cols H ps ls) : Cols H (.ref p :: ps) (l :: ls)
theorem Cols.ex (e : Ex H H1) (h : Cols H ps ls) : Cols H1 ps ls := by
  induction h with
  | nil => exact .nil
  | cons h _ ih => exact .cons (e.kp _ _ h NB.ints) ih
theorem Cols.len (h : Cols H ps ls) : ps.length = ls.length := by
  induction h with
  | nil => rfl
  | cons _ _ ih => rw [List.length_cons, List.length_cons, ih]
theorem Cols.refs (h : Cols H ps ls) : Ow.Refs ps := by
  induction h with
  | nil => exact Ow.Refs.nil
  | cons _ _ ih => exact Ow.Refs.cons ih
theorem Cols.nb (h : Cols H ps ls) : NB (.lst ps) := h.refs.nb
theorem Cols.get (h : Cols H ps ls) : ∀ {i : Nat} {l : List Int}, ls[i]? = some l → ∃ p, ps[i]? = some (.ref p) ∧ H p = some (.lst (l.map V.int)) := by
  induction h with
  | nil => intro i l e; simp at e
  | cons h _ ih =>
    intro i l e
    cases i with
    | zero => exact ⟨_, rfl, by rw [h, show _ = l from Option.some.inj e]⟩
    | succ i => exact ih (by simpa using e)
theorem Cols.getV (h : Cols H ps ls) : ∀ {i : Nat} {v : V}, ps[i]? = some v → ∃ p l, v = .ref p ∧ ls[i]? = some l ∧ H p = some (.lst (l.map V.int)) := by
  induction h with
  | nil => intro i l e; simp at e
  | cons h _ ih =>
    intro i v e
    cases i with
    | zero => exact ⟨_, _, by simpa using e.symm, rfl, h⟩
    | succ i => exact ih (by simpa using e)
theorem Cols.set {l : List Int} (h : Cols H ps ls) (hp : H p = some (.lst (l.map V.int))) : ∀ i, Cols H (ps.set i (.ref p)) (ls.set i l) := by
  induction h with
  | nil => intro i; exact .nil
  | cons h t ih =>
    intro i
    cases i with
    | zero => exact .cons hp t
    | succ i => exact .cons h (ih i)
theorem Cols.app {qs : List V} {ks : List (List Int)} (h : Cols H ps ls) (h2 : Cols H qs ks) : Cols H (ps ++ qs) (ls ++ ks) := by
  induction h with
  | nil => exact h2
  | cons h _ ih => exact .cons h ih
theorem Cols.one {l : List Int} (h : Cols H ps ls) (hp : H p = some (.lst (l.map V.int))) : Cols H (ps ++ [.ref p]) (ls ++ [l]) := h.app (.cons hp .nil)
theorem Cols.rev (h : Cols H ps ls) : Cols H ps.reverse ls.reverse := by
  induction h with
  | nil => exact .nil
  | cons h _ ih => rw [List.reverse_cons, List.reverse_cons]; exact ih.one h
/-- columns that stand -/
def ColsAt (H : Hp) (a : Addr) (ls : List (List Int)) : Prop := ∃ ps, H a = some (.lst ps) ∧ Cols H ps ls
theorem ColsAt.ex (e : Ex H H1) (h : ColsAt H b ls) : ColsAt H1 b ls := by
  obtain ⟨ps, h1, h2⟩ := h
  exact ⟨ps, e.kp _ _ h1 h2.nb, h2.ex e⟩
/-- how large a line may be -/
def Sz (n m : Nat) : Prop := (n = 2 ∨ n = 3) ∧ 0 < m ∧ m ≤ 100000
def sp_beh (W : C → Prop) : Sp := fun vs H Q _ => ∃ (b p : Addr) (q : C) (n m : Nat) (g : Int → Int → Int), vs = [.ref b, .ref p] ∧ H p = some (.tup q.vals) ∧ W q ∧ q.ok n ∧ Sz n m ∧ ColsAt H b (tab n m g) ∧ ∀ t H1, Ex H H1 → ColsAt H1 t (tab n m (mvg q n m g)) → Q (.ref t) H1
theorem u_beh {W : C → Prop} {q : C} (hp : H p = some (.tup q.vals)) (hw : W q) (ho : q.ok n) (hz : Sz n m) (hc : ColsAt H b (tab n m g)) (k : ∀ t H1, Ex H H1 → ColsAt H1 t (tab n m (mvg q n m g)) → Q (.ref t) H1) : sp_beh W [.ref b, .ref p] H Q E := ⟨b, p, q, n, m, g, rfl, hp, hw, ho, hz, hc, k⟩
theorem sz_line {k : Nat} (h : k ≤ 1000000) : k ≤ sizeLine := Nat.le_trans h (by decide)
theorem ne_cols {H0 : Hp} {l : List Int} (h : H p = some (.lst (l.map V.int))) (h2 : H t = some (.lst ps)) (hr : Ow.Refs ps) (hne : l ≠ []) : p ≠ t := fun e => by
  subst e
  rw [h] at h2
  have e2 : l.map V.int = ps := by injection h2 with h2; injection h2
  cases l with
  | nil => exact hne rfl
  | cons x l =>
    obtain ⟨a, ha⟩ := hr (.int x) (by rw [← e2]; simp)
    cases ha
theorem Cols.upd {o : HO} (h : Cols H ps ls) (h2 : H t = some (.lst xs)) (hr : Ow.Refs xs) (hne : ∀ l ∈ ls, l ≠ []) : Cols (L2.upd H t o) ps ls := by
  induction h with
  | nil => exact .nil
  | cons h _ ih => exact .cons (by rw [upd_ne (ne_cols (H0 := H) h h2 hr (hne _ (.head _)))]; exact h) (ih fun l hl => hne l (.tail _ hl))
theorem tab_ne (hm : 0 < m) : ∀ l ∈ tab n m g, l ≠ [] := fun l hl e => by
  obtain ⟨f, _, rfl⟩ := List.mem_map.mp hl
  have := col_len m g f
  rw [e] at this
  simp at this
  omega
/-- [F(column) for column in columns] -/
theorem lc_cols {F : List Int → List Int} {σ : L2.St} {j : Nat} {vs : List Nat} {tt : TT} {te : TE} (hb : H b = some (.lst ps)) (hc : Cols H ps ls) (ne : ∀ l ∈ ls, F l ≠ []) (sz : ls.length ≤ 1000) (hw : ∀ x, wipe ((wipe σ vs).set j (some x)) vs = wipe σ vs)
    (turn : ∀ (p : Addr) (l : List Int) H', l ∈ ls → Ex H H' → H' p = some (.lst (l.map V.int)) → ∀ kk : Option V → Hp → Prop, (∀ p2 H4, Ex H' H4 → H4 p2 = some (.lst ((F l).map V.int)) → kk (some (.ref p2)) H4) →
      tt ((wipe σ vs).set j (some (.ref p))) H' fun b H3 => if b = true then te ((wipe σ vs).set j (some (.ref p))) H3 (fun y H4 => kk (some y) H4) else kk none H3)
    (k : ∀ p H2, Ex H H2 → ColsAt H2 p (ls.map F) → Q (.ref p) H2) : LK K (.ref b) H fun J H2 => LcGo J (gName j) tt te vs σ H2 Q := by
  have hl := hc.len
  have nb : ∀ i, ∀ l ∈ (ls.take i).map F, l ≠ [] := fun i l h => by
    obtain ⟨l', h', rfl⟩ := List.mem_map.mp h
    exact ne l' (List.mem_of_mem_take h')
  refine lc_lstC hb hc.nb (fun i acc H => Cols H acc ((ls.take i).map F) ∧ acc.length = i ∧ i ≤ ls.length ∧ Ow.Refs acc) (fun D _ => ⟨.nil, rfl, Nat.zero_le _, Ow.Refs.nil⟩) (fun i acc y H D hd h => ⟨h.1.upd hd (fun v hv => h.2.2.2 v (List.mem_append_left _ hv)) (nb _), h.2⟩) (fun i acc H h => ⟨h.1.nb, Nat.lt_of_le_of_lt (show _ ≤ 1000 by omega) (by decide)⟩) hw (fun i x acc H' hx e hI kk k1 => ?_) (fun p ys H2 e hp h2 hI => ?_)
  · obtain ⟨p, l, rfl, hl', hp⟩ := (hc.ex e).getV hx
    have hi := (List.getElem?_eq_some_iff.mp hl').1
    refine turn p l H' (List.mem_of_getElem? hl') e hp kk fun p2 H4 e4 h4 => ?_
    refine k1 _ _ e4 ⟨?_, by simp; omega, by omega, ?_⟩
    · rw [List.take_add_one, hl', List.map_append]
      exact (hI.1.ex e4).one h4
    · intro v hv
      rcases List.mem_append.mp hv with hv | hv
      · exact hI.2.2.2 v hv
      · exact ⟨p2, by simpa using hv⟩
  · have := hI.1
    rw [hl, List.take_of_length_le (Nat.le_refl _)] at this
    exact k p H2 e ⟨ys, h2, this⟩
theorem ok_behind_all (T : Txt K w mg a) : FnOk P w K mg base CX0 1 a.a_behind_all a.fd_behind_all ["columns", "call"] (sp_beh fun q => ∃ k, q = .all k) := by
  refine T.F_behind_all.ok sc_behind_all (fun vs H Q E h => ?_) (fun cdv A outer s H vs Q E hr h => ?_)
  · obtain ⟨b, p, q, n, m, g, rfl, _⟩ := h; rfl
  · obtain ⟨b, p, q, n, m, g, rfl, hp, ⟨c, rfl⟩, ho, hz, ⟨ps, hb, hc⟩, k⟩ := h
    obtain ⟨hn, hm, hm1⟩ := hz
    have nbp := hc.nb
    obtain ⟨p0, e0, h0⟩ := hc.get (tab_get (show 0 < n by omega))
    have hl0 : ((((col m g ((0 : Nat) : Int)).map V.int).length : Nat) : Int) = m := by rw [List.length_map, col_len]
    refine ⟨_, (pss_cons (ps_set (i := 2) sc_behind_all.nd rfl (Or.inr rfl) (pe_op op_mod (pe_ix ix_tup (pv 1) pe_int (fun _ _ => rfl)) (pe_callB c_len (by rfl) T.n_len PySem.boot_len (pa_cons (pe_ix ix_list (pv 0) pe_int (fun _ _ => rfl)) pa_nil))))
      (pss_one (ps_ret (pe_lc (own := [("column", 3)]) rfl sc_behind_all.nd (pi_list (pv 0)) (blkOk_by (own := [("column", 3)]) (N := ["columns", "call", "cut", "column"]) (sc := defScope s_behind_all) (by decide +kernel)) (fun _ _ _ _ _ => (pg_name (i := 3) sc_behind_all.nd rfl (Or.inl rfl) (Or.inr rfl))) (fun _ _ _ _ _ => pts_nil) (fun _ _ _ _ _ => (pe_op op_cat (pe_slice Ow.sl_listB (pv 3) (po_some (pv 2)) po_none) (pe_slice Ow.sl_listB (pv 3) po_none (po_some (pv 2))))))))), ?_⟩
    walk_at "rd"
    refine x_ixL hb (at_nat (by decide) e0) ?_
    walk_at "rd"
    rw [hl0]
    have b0 := Int.emod_nonneg c (show (m : Int) ≠ 0 by omega)
    have b1 := Int.emod_lt_of_pos c (show (0 : Int) < m by omega)
    have bt := beh_all (n := n) (g := g) (k := c) hm
    generalize c % (m : Int) = d at b0 b1 bt ⊢
    obtain ⟨d, rfl⟩ := Int.eq_ofNat_of_zero_le b0
    rw [Int.toNat_natCast] at bt
    have cl : ∀ l ∈ tab n m g, l.length = m := fun l hl => by obtain ⟨f, _, rfl⟩ := List.mem_map.mp hl; exact col_len ..
    refine lc_cols (F := fun l => l.drop d ++ l.take d) hb hc (fun l hl e => ?_) (by rw [tab_len]; omega) (fun x => rfl) (fun p l H' hl e hp' kk k1 => ?_) (fun t H2 e hc2 => ?_)
    · have := congrArg List.length e
      simp only [List.length_append, List.length_drop, List.length_take, List.length_nil, cl l hl] at this
      omega
    · have ll := cl l hl
      walk_at "rd"
      rename_i p2 H2 e2 f2 h2 p3 H3 e3 f3 h3
      rw [Ow.cut_drop] at h2
      rw [Ow.cut_take] at h3
      have h2' := e3.kp _ _ h2 (by rw [← List.map_drop]; exact NB.ints)
      refine x_cat h2' h3 (sz_line (by simp; omega)) ?_
      walk_at "rd"
      rename_i p4 H4 e4 f4 h4
      refine k1 _ _ (by walk_at "ex") ?_
      rw [h4, List.map_append, List.map_drop, List.map_take]
    · refine k t H2 e ?_
      rw [bt]
      exact hc2
end
end My

set_option Elab.async false
set_option linter.all false
set_option maxRecDepth 100000
set_option maxHeartbeats 8000000
namespace My
open PySem PySem.Spec PyProof.Rows L2 Sx
local macro_rules | `(tactic| walk_at "nb") => `(tactic| first | exact NB.tup | exact NB.ints | exact NB.len (of_decide_eq_true rfl) | exact NB.at0b rfl | exact NB.at3b rfl | exact NB.ins | exact NB.own | exact NB.frz | exact NB.refs (by assumption) | assumption)
local macro_rules | `(tactic| walk_at "ne") => `(tactic| first | assumption | exact Ne.symm (by assumption) | exact ne_of_none (by assumption) (by assumption) | exact Ne.symm (ne_of_none (by assumption) (by assumption)))
local macro_rules | `(tactic| walk_at "hk") => `(tactic| first
  | assumption
  | exact upd_same
  | (refine' (upd_ne ?hkne).trans ?hkq; (case hkne => walk_at "ne"); (case hkq => walk_at "hk"))
  | (refine' Ex.kp (by assumption) _ _ ?hkq ?hkn; (case hkq => walk_at "hk"); (case hkn => walk_at "nb")))
local macro_rules | `(tactic| walk_at "rd1") => `(tactic| first
  | ((with_reducible refine' x_var ?hx ?_); (case hx => exact rfl))
  | with_reducible refine x_c ?_
  | with_reducible refine x_op ?_
  | with_reducible refine x_un ?_
  | with_reducible refine x_I0 ?_
  | with_reducible refine x_U ?_
  | ((with_reducible refine x_I ?hc ?_); (case hc => first | exact (by decide : (0 : Int) < _) | (show (0 : Int) < _; omega) | (show CMul _ _; first | exact .inl ⟨by omega, by omega⟩ | exact .inr ⟨by omega, by omega⟩) | (show CDiv _ _; exact ⟨by omega, by omega⟩) | (show CDivW _ _; exact wide_div (b := 200) (by omega) (by assumption) (by decide) (by decide)) | (show CDivW _ _; exact wide_div (b := 31) (by omega) (by omega) (by decide) (by decide))))
  | with_reducible refine x_EqI ?_
  | with_reducible refine x_NeI ?_
  | ((with_reducible refine x_EqSt ?h ?_); (case h => decide +kernel))
  | ((with_reducible refine x_EqSf ?h ?_); (case h => decide +kernel))
  | ((with_reducible refine x_NeSt ?h ?_); (case h => decide +kernel))
  | ((with_reducible refine x_NeSf ?h ?_); (case h => decide +kernel))
  | with_reducible refine x_EqS ?_
  | with_reducible refine x_NeS ?_
  | ((with_reducible refine' x_ixL ?hq ?hi ?_); (case hq => walk_at "hk"); (case hi => first | exact rfl | assumption))
  | ((with_reducible refine' x_ixT ?hq ?hi ?_); (case hq => walk_at "hk"); (case hi => first | exact rfl | assumption))
  | with_reducible refine x_chain ?_
  | with_reducible refine x_tup ?_
  | with_reducible refine x_lst ?_
  | ((with_reducible refine x_lenNew ?hl ?_); (case hl => exact Nat.le_of_ble_eq_true rfl); intro _ _ _ _ _)
  | ((with_reducible refine x_new ?_); intro _ _ _ _ _)
  | with_reducible refine x_sl ?_
  | with_reducible refine x_noPart ?_
  | with_reducible refine x_part ?_
  | with_reducible refine x_ex_int ?_
  | with_reducible refine x_ex_bl ?_
  | with_reducible refine x_ex_2 ?_
  | with_reducible refine x_test ?_
  | with_reducible refine x_B ?_
  | with_reducible refine x_and ?_
  | with_reducible refine x_or ?_
  | with_reducible refine x_not ?_
  | with_reducible refine x_andV ?_
  | with_reducible refine x_orV ?_
  | with_reducible refine x_notV ?_
  | with_reducible refine x_ifE ?_
  | with_reducible refine x_iteT ?_
  | with_reducible refine x_iteF ?_
  | ((with_reducible refine x_iteD ?_ ?_) <;> intro _)
  | ((with_reducible refine x_iteN ?_ ?_) <;> intro _)
  | with_reducible refine x_if ?_
  | with_reducible refine x_seq ?_
  | with_reducible refine x_next ?_
  | with_reducible refine x_asg ?_
  | with_reducible refine x_gName ?_
  | ((with_reducible refine' x_gTup ?hq ?hn ?_); (case hq => walk_at "hk"); (case hn => exact rfl))
  | with_reducible refine x_gCons ?_
  | with_reducible refine x_gNil ?_
  | ((with_reducible refine' x_gConsE ?h ?_); (case h => exact rfl))
  | ((with_reducible refine x_gNilE ?h ?_); (case h => exact rfl))
  | with_reducible refine x_ret ?_
  | with_reducible refine x_drop ?_
  | with_reducible refine x_par ?_
  | ((with_reducible refine' x_aug ?hx ?_); (case hx => exact rfl))
  | with_reducible refine x_ipI ?_
  | with_reducible refine x_augS ?_
  | with_reducible refine x_gSub ?_
  | ((with_reducible refine' x_setL ?hq ?hi ?_); (case hq => walk_at "hk"); (case hi => first | exact rfl | assumption))
  | with_reducible refine x_cons ?_
  | with_reducible refine x_nil ?_
  | with_reducible refine x_CB ?_
  | with_reducible refine x_abs ?_
  | with_reducible refine x_intI ?_
  | with_reducible refine x_intB ?_
  | ((with_reducible refine' x_lenL ?hq ?_); (case hq => walk_at "hk"))
  | ((with_reducible refine' x_lenT ?hq ?_); (case hq => walk_at "hk"))
  | ((with_reducible refine x_iteTe ?h ?_); (case h => exact rfl))
  | ((with_reducible refine x_iteFe ?h ?_); (case h => exact rfl))
  | walk_at "use"
  | with_reducible refine x_callS ?_
  | ((with_reducible refine x_lc ?_))
  | ((with_reducible refine x_for ?_))
  | ((with_reducible refine x_iR1 ?_))
  | ((with_reducible refine x_iL ?_))
  | ((with_reducible refine x_iZ ?_))
  | ((with_reducible refine x_yes ?_))
  | ((with_reducible refine' x_NIDt ?hq ?_); (case hq => assumption))
  | ((with_reducible refine' x_NIDf ?hq ?_); (case hq => assumption))
  | ((with_reducible refine' x_IIDf ?hq ?_); (case hq => assumption))
  | ((with_reducible refine' x_IIDt ?hq ?_); (case hq => assumption))
  | ((with_reducible refine' x_ixDs ?hd ?hq ?_); (case hd => assumption); (case hq => assumption))
  | ((with_reducible refine x_InSt ?h ?_); (case h => decide +kernel))
  | ((with_reducible refine x_InSf ?h ?_); (case h => decide +kernel))
  | ((with_reducible refine' x_notInI ?hq ?_); (case hq => walk_at "hk"))
  | ((with_reducible refine' x_inTt ?hq ?hv ?ha ?he ?_); (case hq => walk_at "hk"); (case hv => exact rfl); (case ha => exact rfl); (case he => decide +kernel))
  | ((with_reducible refine' x_inTf ?hq ?hv ?ha ?he ?_); (case hq => walk_at "hk"); (case hv => exact rfl); (case ha => exact rfl); (case he => decide +kernel))
  | ((with_reducible refine' x_slT ?hq ?hw ?_); (case hq => walk_at "hk"); (case hw => with_unfolding_all exact of_decide_eq_true rfl))
  | ((with_reducible refine' x_slL ?hq ?_); (case hq => walk_at "hk"))
  | ((with_reducible refine' x_catT ?hq ?hr ?n1 ?n2 ?hl ?_); (case hq => walk_at "hk"); (case hr => walk_at "hk"); (case n1 => exact List.cons_ne_nil _ _); (case n2 => exact List.cons_ne_nil _ _); (case hl => exact Nat.le_of_ble_eq_true rfl))
  | ((with_reducible refine x_bm ?_))
  | ((with_reducible refine x_lstRg ?_))
  | ((with_reducible refine x_rg1 ?_))
  | ((with_reducible refine And.intro ?h ?_); (case h => exact tyL (by assumption)))
  | dsimp only)
local macro_rules | `(tactic| walk_at "use") => `(tactic| fail)
local macro_rules | `(tactic| walk_at "rd") => `(tactic| repeat' (walk_at "rd1"))
local macro_rules | `(tactic| walk_at "ex") => `(tactic| first | exact Ex.refl _ | assumption | (refine' Ex.trans ?he (by assumption); (case he => walk_at "ex")))
local macro_rules | `(tactic| walk_at "rd1") => `(tactic| first
  | ((with_reducible refine x_iteDf ?h ?_); (case h => exact rfl))
  | ((with_reducible refine x_iteDt ?h ?_); (case h => exact rfl))
  | ((with_reducible refine x_iteNf ?h ?_); (case h => exact rfl))
  | ((with_reducible refine x_iteNt ?h ?_); (case h => exact rfl))
  | ((with_reducible refine x_isiI (r := true) ?h ?_); (case h => decide +kernel))
  | ((with_reducible refine x_isiI (r := false) ?h ?_); (case h => decide +kernel))
  | ((with_reducible refine x_isiS (r := true) ?h ?_); (case h => decide +kernel))
  | ((with_reducible refine x_isiS (r := false) ?h ?_); (case h => decide +kernel))
  | ((with_reducible refine x_isiB (r := true) ?h ?_); (case h => decide +kernel))
  | ((with_reducible refine x_isiB (r := false) ?h ?_); (case h => decide +kernel))
  | ((with_reducible refine' x_isiT (r := true) ?hp ?h ?_); (case hp => walk_at "hk"); (case h => decide +kernel))
  | ((with_reducible refine' x_isiT (r := false) ?hp ?h ?_); (case hp => walk_at "hk"); (case h => decide +kernel))
  | ((with_reducible refine' x_isiL (r := true) ?hp ?h ?_); (case hp => walk_at "hk"); (case h => decide +kernel))
  | ((with_reducible refine' x_isiL (r := false) ?hp ?h ?_); (case hp => walk_at "hk"); (case h => decide +kernel))
  | ((with_reducible refine' x_isi2L ?hp ?hl ?_); (case hp => walk_at "hk"); (case hl => walk_at "hk"))
  | ((with_reducible refine' x_isi2T ?hp ?hl ?_); (case hp => walk_at "hk"); (case hl => walk_at "hk"))
  | ((with_reducible refine' x_tupOfL ?hq ?_); (case hq => walk_at "hk"))
  | ((with_reducible refine' x_tupOfT ?hq ?_); (case hq => walk_at "hk"))
  | ((with_reducible refine x_lenS ?h ?_); (case h => exact Nat.le_of_ble_eq_true rfl))
  | ((with_reducible refine' x_all ?hq ?_); (case hq => walk_at "hk"))
  | with_reducible refine x_lenSet ?_)
local macro_rules | `(tactic| walk_at "rd1") => `(tactic| first
  | with_reducible refine Er.x_iR2 ?_
  | with_reducible refine Er.x_iEn ?_
  | with_reducible refine Er.x_cont ?_
  | ((with_reducible refine Er.x_isBt ?h ?_); (case h => exact rfl))
  | ((with_reducible refine Er.x_isBf ?h ?_); (case h => exact rfl))
  | ((with_reducible refine Er.x_isNBt ?h ?_); (case h => exact rfl))
  | ((with_reducible refine Er.x_isNBf ?h ?_); (case h => exact rfl))
  | with_reducible refine Er.x_isB ?_
  | with_reducible refine Er.x_isNB ?_)

open Cl
local macro_rules | `(tactic| walk_at "nb") => `(tactic| first | exact NB.ints | assumption | (refine Ow.Refs.nb ?_; assumption))
local macro_rules | `(tactic| walk_at "rd1") => `(tactic| first
  | with_reducible refine Er.x_stepL ?_
  | ((with_reducible refine' Er.x_stepK ?h ?h0 ?_); (case h => walk_at "hk"); (case h0 => decide); intro _ _ _ _ _)
  | with_reducible refine Er.x_gStep ?_
  | ((with_reducible refine' x_listOfL ?h ?_); (case h => walk_at "hk")))
section
variable {P : Program} {w : World} {K : PySem.W.Frag} {mg : Str → Option Value} {base : Heap} {a : Ad} {H H1 : Hp} {Q : VK} {E : XK} {p b c t s dx : Addr} {fl gl : Int} {xs ps : List V} {qs us : List C} {n m : Nat} {g : Int → Int → Int} {ls : List (List Int)}
open Er
theorem col_ne (hm : 0 < m) {f : Int} : col m g f ≠ [] := fun e => by
  have := col_len m g f
  rw [e] at this
  simp at this
  omega
theorem ints_len {l : List Int} : (((l.map V.int).length : Nat) : Int) = l.length := by rw [List.length_map]
theorem ok_behind_up (T : Txt K w mg a) : FnOk P w K mg base CX0 1 a.a_behind_up a.fd_behind_up ["columns", "call"] (sp_beh fun q => ∃ f k, q = .up f k) := by
  refine T.F_behind_up.ok sc_behind_up (fun vs H Q E h => ?_) (fun cdv A outer s H vs Q E hr h => ?_)
  · obtain ⟨b, p, q, n, m, g, rfl, _⟩ := h; rfl
  · obtain ⟨b, p, q, n, m, g, rfl, hp, ⟨f, c, rfl⟩, ho, hz, ⟨ps, hb, hc⟩, k⟩ := h
    obtain ⟨hn, hm, hm1⟩ := hz
    obtain ⟨⟨f0, f1⟩, _⟩ : isFile n f ∧ c ≠ 0 := ho
    obtain ⟨f, rfl⟩ := Int.eq_ofNat_of_zero_le f0
    have hfn : f < n := by omega
    have nbp := hc.nb
    have hpl : ps.length = n := by rw [hc.len, tab_len]
    obtain ⟨pf, ef, hf⟩ := hc.get (tab_get hfn)
    refine ⟨_, (pss_cons (ps_set (i := 2) sc_behind_up.nd rfl (Or.inl rfl) (pe_callTy c_listOf (by rfl) T.n_list (by decide +kernel) (pa_cons (pv 0) pa_nil)))
      (pss_cons (ps_set (i := 3) sc_behind_up.nd rfl (Or.inl rfl) (pe_ix ix_list (pv 0) (pe_ix ix_tup (pv 1) pe_int (fun _ _ => rfl)) (fun _ _ => rfl)))
      (pss_cons (ps_set (i := 4) sc_behind_up.nd rfl (Or.inl rfl) (pe_op op_mod (pe_ix ix_tup (pv 1) pe_int (fun _ _ => rfl)) (pe_callB c_len (by rfl) T.n_len PySem.boot_len (pa_cons (pv 3) pa_nil))))
      (pss_cons (ps_asg (pe_op op_cat (pe_slice sl_list (pv 3) (po_some (pv 4)) po_none) (pe_slice sl_list (pv 3) po_none (po_some (pv 4)))) (pg_sub (pv 2) (pe_ix ix_tup (pv 1) pe_int (fun _ _ => rfl)) set_list))
      (pss_one (ps_ret (pv 2))))))), ?_⟩
    walk_at "rd"
    rename_i t0 H0 e0 f0' g0
    refine x_ixL (by walk_at "hk") (at_nat (by omega) (by rw [Int.toNat_natCast]; exact ef)) ?_
    walk_at "rd"
    rw [ints_len, col_len]
    refine x_I (show (0 : Int) < m by omega) ?_
    have b0 := Int.emod_nonneg c (show (m : Int) ≠ 0 by omega)
    have b1 := Int.emod_lt_of_pos c (show (0 : Int) < m by omega)
    have bt := beh_up (g := g) (k := c) hm hfn
    generalize c % (m : Int) = d at b0 b1 bt ⊢
    obtain ⟨d, rfl⟩ := Int.eq_ofNat_of_zero_le b0
    rw [Int.toNat_natCast] at bt
    walk_at "rd"
    rename_i p2 H2 e2 f2 h2 p3 H3 e3 f3 h3
    rw [Ow.cut_drop, ← List.map_drop] at h2
    rw [Ow.cut_take, ← List.map_take] at h3
    refine x_cat (e3.kp _ _ h2 NB.ints) h3 (sz_line (by simp [col]; omega)) ?_
    walk_at "rd"
    rename_i p4 H4 e4 f4 h4
    rw [← List.map_append] at h4
    have hc4 := hc.ex (e0.trans ((e2.trans e3).trans e4))
    have g4 := ((e2.trans e3).trans e4).kp _ _ g0 nbp
    refine x_setL g4 (i := (f : Int)) (j := f) (by unfold ixN; rw [if_pos (by omega)]; simp; omega) ?_
    have eF : Ex H (upd H4 t0 (.lst (ps.set f (.ref p4)))) := Ex.mut (e0.trans ((e2.trans e3).trans e4)) f0'
    walk_at "rd"
    refine k t0 _ eF ?_
    rw [bt]
    refine ⟨_, upd_same, (hc4.set h4 f).upd g4 hc.refs fun l hl => ?_⟩
    rw [← bt] at hl
    exact tab_ne hm l hl
theorem ix_nat {k i : Nat} (h : i < k) : ixN k (i : Int) = some i := by
  unfold ixN
  rw [if_pos (by omega), if_pos (by omega), Int.toNat_natCast]
theorem two_nat {f h : Int} (h1 : isFile n f) (h2 : isFile n h) (hn : f ≠ h) : ∃ i j : Nat, f = i ∧ h = j ∧ i < n ∧ j < n ∧ i ≠ j := by
  unfold isFile at h1 h2
  exact ⟨f.toNat, h.toNat, by omega, by omega, by omega, by omega, by omega⟩
/-- told[f], told[g] = .. -/
theorem sets_end {qs : C} {t0 pa pb : Addr} {i j : Nat} {la lb : List Int} {H4 : Hp} {k : Addr → Hp → Prop} (e : Ex H H4) (hn : NF H t0) (g4 : H4 t0 = some (.lst ps)) (hc : Cols H ps (tab n m g)) (hm : 0 < m) (h1 : H4 pa = some (.lst (la.map V.int))) (h2 : H4 pb = some (.lst (lb.map V.int)))
    (et : tab n m (mvg qs n m g) = ((tab n m g).set i la).set j lb) (kk : ∀ H5, Ex H H5 → ColsAt H5 t0 (tab n m (mvg qs n m g)) → k t0 H5) : k t0 (upd (upd H4 t0 (.lst (ps.set i (.ref pa)))) t0 (.lst ((ps.set i (.ref pa)).set j (.ref pb)))) := by
  have hc4 := hc.ex e
  have fin := ((hc4.set h1 i).set h2 j)
  rw [← et] at fin
  have ne := tab_ne (n := n) (g := mvg qs n m g) hm
  have eF : Ex H (upd (upd H4 t0 (.lst (ps.set i (.ref pa)))) t0 (.lst ((ps.set i (.ref pa)).set j (.ref pb)))) := Er.mutN (Er.mutN e hn g4 hc.nb) hn upd_same (hc4.set h1 i).nb
  refine kk _ eF ⟨_, upd_same, ?_⟩
  have e1 := fin.upd (o := .lst (ps.set i (.ref pa))) g4 hc.refs ne
  have hr1 : Ow.Refs (ps.set i (.ref pa)) := (hc4.set h1 i).refs
  exact e1.upd upd_same hr1 ne
theorem ok_behind_swap (T : Txt K w mg a) : FnOk P w K mg base CX0 1 a.a_behind_swap a.fd_behind_swap ["columns", "call"] (sp_beh fun q => ∃ f k, q = .swap f k) := by
  refine T.F_behind_swap.ok sc_behind_swap (fun vs H Q E h => ?_) (fun cdv A outer s H vs Q E hr h => ?_)
  · obtain ⟨b, p, q, n, m, g, rfl, _⟩ := h; rfl
  · obtain ⟨b, p, q, n, m, g, rfl, hp, ⟨f, c, rfl⟩, ho, hz, ⟨ps, hb, hc⟩, k⟩ := h
    obtain ⟨hn, hm, hm1⟩ := hz
    obtain ⟨h1, h2, h3⟩ : isFile n f ∧ isFile n c ∧ f ≠ c := ho
    obtain ⟨i, j, rfl, rfl, hi, hj, hij⟩ := two_nat h1 h2 h3
    have nbp := hc.nb
    have hpl : ps.length = n := by rw [hc.len, tab_len]
    obtain ⟨pi, ei, hpi⟩ := hc.get (tab_get hi)
    obtain ⟨pj, ej, hpj⟩ := hc.get (tab_get hj)
    have ai : atI ps (i : Int) = some (.ref pi) := at_nat (by omega) (by rw [Int.toNat_natCast]; exact ei)
    have aj : atI ps (j : Int) = some (.ref pj) := at_nat (by omega) (by rw [Int.toNat_natCast]; exact ej)
    refine ⟨_, (pss_cons (ps_asg (pe_slice sl_tup (pv 1) (po_some pe_int) po_none) (pg_tup rfl (pgs_cons (pg_name (i := 2) sc_behind_swap.nd rfl (Or.inl rfl)) (pgs_cons (pg_name (i := 3) sc_behind_swap.nd rfl (Or.inl rfl)) pgs_nil))))
      (pss_cons (ps_set (i := 4) sc_behind_swap.nd rfl (Or.inl rfl) (pe_callTy c_listOf (by rfl) T.n_list (by decide +kernel) (pa_cons (pv 0) pa_nil)))
      (pss_cons (ps_asg (pe_tup (pa_cons (pe_ix ix_list (pv 0) (pv 3) (fun _ _ => rfl)) (pa_cons (pe_ix ix_list (pv 0) (pv 2) (fun _ _ => rfl)) pa_nil))) (pg_tup rfl (pgs_cons (pg_sub (pv 4) (pv 2) set_list) (pgs_cons (pg_sub (pv 4) (pv 3) set_list) pgs_nil))))
      (pss_one (ps_ret (pv 4)))))), ?_⟩
    walk_at "rd"
    rename_i p1 H0 e0 f0' g0 t0 H2 e2 f2 h2 tp H3 e3 f3 h3
    refine x_setL (e3.kp _ _ h2 nbp) (ix_nat (by omega)) ?_
    walk_at "rd"
    refine x_setL upd_same (ix_nat (by rw [List.length_set]; omega)) ?_
    walk_at "rd"
    refine sets_end (qs := .swap i j) (k := fun t H5 => Q (.ref t) H5) (e0.trans (e2.trans e3)) (NF.new e0 f2) (e3.kp _ _ h2 nbp) hc hm (by walk_at "hk") (by walk_at "hk") (beh_swap hi hj hij) (fun H5 e5 h5 => k t0 H5 e5 h5)
theorem ok_behind_front (T : Txt K w mg a) : FnOk P w K mg base CX0 1 a.a_behind_front a.fd_behind_front ["columns", "call"] (sp_beh fun q => ∃ f k, q = .front f k) := by
  refine T.F_behind_front.ok sc_behind_front (fun vs H Q E h => ?_) (fun cdv A outer s H vs Q E hr h => ?_)
  · obtain ⟨b, p, q, n, m, g, rfl, _⟩ := h; rfl
  · obtain ⟨b, p, q, n, m, g, rfl, hp, ⟨f, c, rfl⟩, ho, hz, ⟨ps, hb, hc⟩, k⟩ := h
    obtain ⟨hn, hm, hm1⟩ := hz
    obtain ⟨h1, h2, h3⟩ : isFile n f ∧ isFile n c ∧ f ≠ c := ho
    obtain ⟨i, j, rfl, rfl, hi, hj, hij⟩ := two_nat h1 h2 h3
    have nbp := hc.nb
    have hpl : ps.length = n := by rw [hc.len, tab_len]
    obtain ⟨pi, ei, hpi⟩ := hc.get (tab_get hi)
    obtain ⟨pj, ej, hpj⟩ := hc.get (tab_get hj)
    have ai : atI ps (i : Int) = some (.ref pi) := at_nat (by omega) (by rw [Int.toNat_natCast]; exact ei)
    have aj : atI ps (j : Int) = some (.ref pj) := at_nat (by omega) (by rw [Int.toNat_natCast]; exact ej)
    refine ⟨_, (pss_cons (ps_asg (pe_slice sl_tup (pv 1) (po_some pe_int) po_none) (pg_tup rfl (pgs_cons (pg_name (i := 2) sc_behind_front.nd rfl (Or.inl rfl)) (pgs_cons (pg_name (i := 3) sc_behind_front.nd rfl (Or.inl rfl)) pgs_nil))))
      (pss_cons (ps_set (i := 4) sc_behind_front.nd rfl (Or.inl rfl) (pe_callTy c_listOf (by rfl) T.n_list (by decide +kernel) (pa_cons (pv 0) pa_nil)))
      (pss_cons (ps_asg (pe_tup (pa_cons (pe_op op_cat (pe_slice sl_list (pe_ix ix_list (pv 0) (pv 3) (fun _ _ => rfl)) po_none (po_some pe_int)) (pe_slice sl_list (pe_ix ix_list (pv 0) (pv 2) (fun _ _ => rfl)) (po_some pe_int) po_none)) (pa_cons (pe_op op_cat (pe_slice sl_list (pe_ix ix_list (pv 0) (pv 2) (fun _ _ => rfl)) po_none (po_some pe_int)) (pe_slice sl_list (pe_ix ix_list (pv 0) (pv 3) (fun _ _ => rfl)) (po_some pe_int) po_none)) pa_nil))) (pg_tup rfl (pgs_cons (pg_sub (pv 4) (pv 2) set_list) (pgs_cons (pg_sub (pv 4) (pv 3) set_list) pgs_nil))))
      (pss_one (ps_ret (pv 4)))))), ?_⟩
    walk_at "rd"
    rename_i p1 H0 e0 f0' g0 t0 H2 e2 f2 h2 pa H3 e3 f3 h3 pb H4 e4 f4 h4
    rw [Ow.cut_take_one, ← List.map_take] at h3
    rw [Ow.cut_drop_one, ← List.map_drop] at h4
    refine x_cat (e4.kp _ _ h3 NB.ints) h4 (sz_line (by simp [col]; omega)) ?_
    walk_at "rd"
    rename_i pc H5 e5 f5 h5 pd H6 e6 f6 h6 pe H7 e7 f7 h7
    rw [← List.map_append] at h5
    rw [Ow.cut_take_one, ← List.map_take] at h6
    rw [Ow.cut_drop_one, ← List.map_drop] at h7
    refine x_cat (e7.kp _ _ h6 NB.ints) h7 (sz_line (by simp [col]; omega)) ?_
    walk_at "rd"
    rename_i pf H8 e8 f8 h8 tp H9 e9 f9 h9
    rw [← List.map_append] at h8
    have e29 : Ex H2 H9 := by walk_at "ex"
    have k5 := ((e6.trans e7).trans (e8.trans e9)).kp _ _ h5 NB.ints
    have k8 := e9.kp _ _ h8 NB.ints
    refine x_setL (e29.kp _ _ h2 nbp) (ix_nat (by omega)) ?_
    walk_at "rd"
    refine x_setL upd_same (ix_nat (by rw [List.length_set]; omega)) ?_
    walk_at "rd"
    exact sets_end (qs := .front i j) (k := fun t H5 => Q (.ref t) H5) ((e0.trans e2).trans e29) (NF.new e0 f2) (e29.kp _ _ h2 nbp) hc hm k5 k8 (beh_front hm hi hj hij) (fun H5 e5 h5 => k t0 H5 e5 h5)
theorem back_take {l : List Int} {m : Nat} (hl : m ≤ l.length) (hm : 0 < m) : pickV (l.map V.int) (some ((m : Int) - 1)) none (some (-1)) = ((l.take m).reverse).map V.int := by
  rw [show (m : Int) - 1 = ((m - 1 : Nat) : Int) by omega, pickV_ints, places_back (m - 1) (by omega), show m - 1 + 1 = m by omega]
  congr 1
  have e : (l.take m).length = m := by rw [List.length_take]; omega
  have := rev_any (xs := l.take m)
  rw [e] at this
  rw [← this]
  have gen : ∀ ks : List Nat, (∀ k ∈ ks, k < m) → ks.filterMap (l[·]?) = ks.filterMap ((l.take m)[·]?) := fun ks => by
    induction ks with
    | nil => intro _; rfl
    | cons k ks ih => intro h; rw [List.filterMap_cons, List.filterMap_cons, ih fun z hz => h z (.tail _ hz), List.getElem?_take, if_pos (h k (.head _))]
  exact gen _ fun k hk => by obtain ⟨i, hi, rfl⟩ := List.mem_map.mp hk; have := List.mem_range.mp hi; omega
theorem ok_behind_wheel (T : Txt K w mg a) : FnOk P w K mg base CX0 1 a.a_behind_wheel a.fd_behind_wheel ["columns", "call"] (sp_beh fun q => ∃ f k c, q = .wheel f k c) := by
  refine T.F_behind_wheel.ok sc_behind_wheel (fun vs H Q E h => ?_) (fun cdv A outer s H vs Q E hr h => ?_)
  · obtain ⟨b, p, q, n, m, g, rfl, _⟩ := h; rfl
  · obtain ⟨b, p, q, n, m, g, rfl, hp, ⟨f, c, d, rfl⟩, ho, hz, ⟨ps, hb, hc⟩, k⟩ := h
    obtain ⟨hn, hm, hm1⟩ := hz
    obtain ⟨h1, h2, h3, _⟩ : isFile n f ∧ isFile n c ∧ f ≠ c ∧ d ≠ 0 := ho
    obtain ⟨i, j, rfl, rfl, hi, hj, hij⟩ := two_nat h1 h2 h3
    have nbp := hc.nb
    have hpl : ps.length = n := by rw [hc.len, tab_len]
    obtain ⟨pi, ei, hpi⟩ := hc.get (tab_get hi)
    obtain ⟨pj, ej, hpj⟩ := hc.get (tab_get hj)
    have ai : atI ps (i : Int) = some (.ref pi) := at_nat (by omega) (by rw [Int.toNat_natCast]; exact ei)
    have aj : atI ps (j : Int) = some (.ref pj) := at_nat (by omega) (by rw [Int.toNat_natCast]; exact ej)
    refine ⟨_, (pss_cons (ps_asg (pe_slice sl_tup (pv 1) (po_some pe_int) po_none) (pg_tup rfl (pgs_cons (pg_name (i := 2) sc_behind_wheel.nd rfl (Or.inl rfl)) (pgs_cons (pg_name (i := 3) sc_behind_wheel.nd rfl (Or.inl rfl)) (pgs_cons (pg_name (i := 4) sc_behind_wheel.nd rfl (Or.inl rfl)) pgs_nil)))))
      (pss_cons (ps_set (i := 5) sc_behind_wheel.nd rfl (Or.inl rfl) (pe_callTy c_listOf (by rfl) T.n_list (by decide +kernel) (pa_cons (pv 0) pa_nil)))
      (pss_cons (ps_set (i := 6) sc_behind_wheel.nd rfl (Or.inl rfl) (pe_callB c_len (by rfl) T.n_len PySem.boot_len (pa_cons (pe_ix ix_list (pv 0) (pv 2) (fun _ _ => rfl)) pa_nil)))
      (pss_cons (ps_set (i := 7) sc_behind_wheel.nd rfl (Or.inl rfl) (pe_op op_cat (Er.pe_stepL (pe_ix ix_list (pv 0) (pv 2) (fun _ _ => rfl)) po_none po_none (po_some (pe_un un_neg pe_int))) (pe_ix ix_list (pv 0) (pv 3) (fun _ _ => rfl))))
      (pss_cons (ps_set (i := 8) sc_behind_wheel.nd rfl (Or.inl rfl) (pe_op op_mod (pe_un un_neg (pv 4)) (pe_callB c_len (by rfl) T.n_len PySem.boot_len (pa_cons (pv 7) pa_nil))))
      (pss_cons (ps_set (i := 7) sc_behind_wheel.nd rfl (Or.inl rfl) (pe_op op_cat (pe_slice sl_list (pv 7) (po_some (pv 8)) po_none) (pe_slice sl_list (pv 7) po_none (po_some (pv 8)))))
      (pss_cons (ps_asg (pe_tup (pa_cons (Er.pe_stepL (pv 7) (po_some (pe_op op_sub (pv 6) pe_int)) po_none (po_some (pe_un un_neg pe_int))) (pa_cons (pe_slice sl_list (pv 7) (po_some (pv 6)) po_none) pa_nil))) (pg_tup rfl (pgs_cons (pg_sub (pv 5) (pv 2) set_list) (pgs_cons (pg_sub (pv 5) (pv 3) set_list) pgs_nil))))
      (pss_one (ps_ret (pv 5)))))))))), ?_⟩
    walk_at "rd"
    rename_i p1 H0 e0 f0' g0 t0 H2 e2 f2 h2 pa H3 e3 f3 h3
    rw [pick_rev, ← List.map_reverse] at h3
    refine x_cat h3 ((e0.trans (e2.trans e3)).kp _ _ hpj NB.ints) (sz_line (by simp [col]; omega)) ?_
    walk_at "rd"
    rename_i pc H5 e5 f5 h5
    rw [← List.map_append, show (col m g i).reverse ++ col m g j = ring m g i j from rfl] at h5
    simp only [ints_len, col_len, ← List.map_reverse, ← List.map_append]
    rw [show (((col m g i).reverse ++ col m g j).length : Int) = ((2 * m : Nat) : Int) by rw [show (col m g i).reverse ++ col m g j = ring m g i j from rfl, ring_len]]
    refine x_I (show (0 : Int) < ((2 * m : Nat) : Int) by omega) ?_
    have b0 := Int.emod_nonneg (-d) (show ((2 * m : Nat) : Int) ≠ 0 by omega)
    have b1 := Int.emod_lt_of_pos (-d) (show (0 : Int) < ((2 * m : Nat) : Int) by omega)
    have bt := beh_wheel (g := g) (k := d) hm hi hj hij _ rfl
    generalize -d % ((2 * m : Nat) : Int) = z at b0 b1 bt ⊢
    obtain ⟨z, rfl⟩ := Int.eq_ofNat_of_zero_le b0
    rw [Int.toNat_natCast] at bt
    walk_at "rd"
    rename_i p6 H6 e6 f6 h6 p7 H7 e7 f7 h7
    rw [Ow.cut_drop, ← List.map_drop] at h6
    rw [Ow.cut_take, ← List.map_take] at h7
    have rl : (ring m g i j).length = 2 * m := ring_len
    refine x_cat (e7.kp _ _ h6 NB.ints) h7 (sz_line (by simp only [List.length_map, List.length_drop, List.length_take, rl]; omega)) ?_
    walk_at "rd"
    rename_i p8 H8 e8 f8 h8 p9 H9 e9 f9 h9
    rw [← List.map_append] at h8 h9
    generalize hR : List.drop z (ring m g i j) ++ List.take z (ring m g i j) = R at h8 h9 bt
    have hRl : R.length = 2 * m := by rw [← hR]; simp only [List.length_append, List.length_drop, List.length_take, rl]; omega
    rw [back_take (by omega) hm] at h9
    have h89 := e9.kp _ _ h8 NB.ints
    refine x_slL h89 ?_
    walk_at "rd"
    rename_i pA HA eA fA hA tp HB eB fB hB
    rw [Ow.cut_drop, ← List.map_drop] at hA
    have e2B : Ex H2 HB := by walk_at "ex"
    have k9 := (eA.trans eB).kp _ _ h9 NB.ints
    have kA := eB.kp _ _ hA NB.ints
    refine x_setL (e2B.kp _ _ h2 nbp) (ix_nat (by omega)) ?_
    walk_at "rd"
    refine x_setL upd_same (ix_nat (by rw [List.length_set]; omega)) ?_
    walk_at "rd"
    exact sets_end (qs := .wheel i j d) (k := fun t H5 => Q (.ref t) H5) ((e0.trans e2).trans e2B) (NF.new e0 f2) (e2B.kp _ _ h2 nbp) hc hm k9 kA bt (fun H5 e5 h5 => k t0 H5 e5 h5)
theorem ok_behind_about (T : Txt K w mg a) : FnOk P w K mg base CX0 1 a.a_behind_about a.fd_behind_about ["columns", "call"] (sp_beh fun q => q = .about) := by
  refine T.F_behind_about.ok sc_behind_about (fun vs H Q E h => ?_) (fun cdv A outer s H vs Q E hr h => ?_)
  · obtain ⟨b, p, q, n, m, g, rfl, _⟩ := h; rfl
  · obtain ⟨b, p, q, n, m, g, rfl, hp, rfl, ho, hz, ⟨ps, hb, hc⟩, k⟩ := h
    obtain ⟨hn, hm, hm1⟩ := hz
    have nbp := hc.nb
    refine ⟨_, (pss_one (ps_ret (pe_lc (own := [("column", 2)]) rfl sc_behind_about.nd (pi_list (Er.pe_stepL (pv 0) po_none po_none (po_some (pe_un un_neg pe_int)))) (blkOk_by (own := [("column", 2)]) (N := ["columns", "call", "column"]) (sc := defScope s_behind_about) (by decide +kernel)) (fun _ _ _ _ _ => (pg_name (i := 2) sc_behind_about.nd rfl (Or.inl rfl) (Or.inr rfl))) (fun _ _ _ _ _ => pts_nil) (fun _ _ _ _ _ => (Er.pe_stepLB (pv 2) po_none po_none (po_some (pe_un un_neg pe_int))))))), ?_⟩
    walk_at "rd"
    rename_i p1 H1 e1 f1 h1
    rw [pick_rev] at h1
    have ne : ∀ l ∈ (tab n m g).reverse, l ≠ [] := fun l hl => tab_ne hm l (List.mem_reverse.mp hl)
    refine lc_cols (F := List.reverse) h1 (hc.ex e1).rev (fun l hl e => ne l hl (List.reverse_eq_nil_iff.mp e)) (by rw [List.length_reverse, tab_len]; omega) (fun x => rfl) (fun p l H' hl e hp' kk k1 => ?_) (fun t H2 e hc2 => ?_)
    · walk_at "rd"
      rename_i p3 H3 e3 f3 h3
      refine k1 _ _ e3 ?_
      rw [h3, pick_rev, List.map_reverse]
    · refine k t H2 (e1.trans e) ?_
      rw [beh_about]
      exact hc2
theorem pick2 {l : List Int} {s : Nat} (hs : s ≤ l.length) : (places l.length (some (s : Int)) none (some 2)).filterMap (l[·]?) = ((List.range ((l.length - s + 1) / 2)).map fun i => s + 2 * i).filterMap (l[·]?) := by
  have := places_up (n := l.length) (c := 2) s (by decide) hs
  rw [show ((2 : Nat) : Int) = 2 from rfl] at this
  rw [this, show l.length - s + 2 - 1 = l.length - s + 1 by omega]
theorem pick20 {l : List Int} : (places l.length none none (some 2)).filterMap (l[·]?) = ((List.range ((l.length + 1) / 2)).map fun i => 2 * i).filterMap (l[·]?) := by
  have := places_none (n := l.length) (c := 2) (by decide)
  rw [show ((2 : Nat) : Int) = 2 from rfl] at this
  rw [this, pick2 (Nat.zero_le _)]
  simp
theorem ok_behind_others (T : Txt K w mg a) : FnOk P w K mg base CX0 1 a.a_behind_others a.fd_behind_others ["columns", "call"] (sp_beh fun q => q = .others) := by
  refine T.F_behind_others.ok sc_behind_others (fun vs H Q E h => ?_) (fun cdv A outer s H vs Q E hr h => ?_)
  · obtain ⟨b, p, q, n, m, g, rfl, _⟩ := h; rfl
  · obtain ⟨b, p, q, n, m, g, rfl, hp, rfl, ho, hz, ⟨ps, hb, hc⟩, k⟩ := h
    obtain ⟨hn, hm, hm1⟩ := hz
    have nbp := hc.nb
    have bt := beh_others (n := n) (g := g) hm
    have cl : ∀ l ∈ tab n m g, l.length = m := fun l hl => by obtain ⟨f, _, rfl⟩ := List.mem_map.mp hl; exact col_len ..
    have ne : ∀ l ∈ tab n m (mvg .others n m g), l ≠ [] := tab_ne hm
    rw [bt] at ne
    refine ⟨_, (pss_one (ps_ret (pe_lc (own := [("column", 2)]) rfl sc_behind_others.nd (pi_list (pv 0)) (blkOk_by (own := [("column", 2)]) (N := ["columns", "call", "column"]) (sc := defScope s_behind_others) (by decide +kernel)) (fun _ _ _ _ _ => (pg_name (i := 2) sc_behind_others.nd rfl (Or.inl rfl) (Or.inr rfl))) (fun _ _ _ _ _ => pts_nil) (fun _ _ _ _ _ => (pe_op op_cat (Er.pe_stepLB (pv 2) po_none po_none (po_some pe_int)) (Er.pe_stepLB (pv 2) (po_some pe_int) po_none (po_some pe_int))))))), ?_⟩
    walk_at "rd"
    refine lc_cols (F := fun l => ((List.range ((m + 1) / 2)).map fun i => 2 * i).filterMap (l[·]?) ++ ((List.range (m / 2)).map fun i => 1 + 2 * i).filterMap (l[·]?)) hb hc (fun l hl => ne _ (List.mem_map_of_mem hl)) (by rw [tab_len]; omega) (fun x => rfl) (fun p l H' hl e hp' kk k1 => ?_) (fun t H2 e hc2 => ?_)
    · have ll := cl l hl
      walk_at "rd"
      rename_i p3 H3 e3 f3 h3 p4 H4 e4 f4 h4
      rw [pickV_ints, pick20, ll] at h3
      rw [pickV_ints, show (1 : Int) = ((1 : Nat) : Int) from rfl, pick2 (by omega), ll, show (m - 1 + 1) / 2 = m / 2 by rw [show m - 1 + 1 = m by omega]] at h4
      have b1 := List.length_filterMap_le (l[·]?) ((List.range ((m + 1) / 2)).map fun i => 2 * i)
      have b2 := List.length_filterMap_le (l[·]?) ((List.range (m / 2)).map fun i => 1 + 2 * i)
      rw [List.length_map, List.length_range] at b1 b2
      refine x_cat (e4.kp _ _ h3 NB.ints) h4 (sz_line (by rw [List.length_map, List.length_map]; omega)) ?_
      walk_at "rd"
      rename_i p5 H5 e5 f5 h5
      refine k1 _ _ (by walk_at "ex") ?_
      rw [h5, List.map_append]
    · refine k t H2 e ?_
      rw [bt]
      exact hc2
end
end My

set_option Elab.async false
set_option linter.all false
set_option maxRecDepth 100000
set_option maxHeartbeats 8000000
namespace My
open PySem PySem.Spec PyProof.Rows L2 Sx
local macro_rules | `(tactic| walk_at "nb") => `(tactic| first | exact NB.tup | exact NB.ints | exact NB.len (of_decide_eq_true rfl) | exact NB.at0b rfl | exact NB.at3b rfl | exact NB.ins | exact NB.own | exact NB.frz | exact NB.refs (by assumption) | assumption)
local macro_rules | `(tactic| walk_at "ne") => `(tactic| first | assumption | exact Ne.symm (by assumption) | exact ne_of_none (by assumption) (by assumption) | exact Ne.symm (ne_of_none (by assumption) (by assumption)))
local macro_rules | `(tactic| walk_at "hk") => `(tactic| first
  | assumption
  | exact upd_same
  | (refine' (upd_ne ?hkne).trans ?hkq; (case hkne => walk_at "ne"); (case hkq => walk_at "hk"))
  | (refine' Ex.kp (by assumption) _ _ ?hkq ?hkn; (case hkq => walk_at "hk"); (case hkn => walk_at "nb")))
local macro_rules | `(tactic| walk_at "rd1") => `(tactic| first
  | ((with_reducible refine' x_var ?hx ?_); (case hx => exact rfl))
  | with_reducible refine x_c ?_
  | with_reducible refine x_op ?_
  | with_reducible refine x_un ?_
  | with_reducible refine x_I0 ?_
  | with_reducible refine x_U ?_
  | ((with_reducible refine x_I ?hc ?_); (case hc => first | exact (by decide : (0 : Int) < _) | (show (0 : Int) < _; omega) | (show CMul _ _; first | exact .inl ⟨by omega, by omega⟩ | exact .inr ⟨by omega, by omega⟩) | (show CDiv _ _; exact ⟨by omega, by omega⟩) | (show CDivW _ _; exact wide_div (b := 200) (by omega) (by assumption) (by decide) (by decide)) | (show CDivW _ _; exact wide_div (b := 31) (by omega) (by omega) (by decide) (by decide))))
  | with_reducible refine x_EqI ?_
  | with_reducible refine x_NeI ?_
  | ((with_reducible refine x_EqSt ?h ?_); (case h => decide +kernel))
  | ((with_reducible refine x_EqSf ?h ?_); (case h => decide +kernel))
  | ((with_reducible refine x_NeSt ?h ?_); (case h => decide +kernel))
  | ((with_reducible refine x_NeSf ?h ?_); (case h => decide +kernel))
  | with_reducible refine x_EqS ?_
  | with_reducible refine x_NeS ?_
  | ((with_reducible refine' x_ixL ?hq ?hi ?_); (case hq => walk_at "hk"); (case hi => first | exact rfl | assumption))
  | ((with_reducible refine' x_ixT ?hq ?hi ?_); (case hq => walk_at "hk"); (case hi => first | exact rfl | assumption))
  | with_reducible refine x_chain ?_
  | with_reducible refine x_tup ?_
  | with_reducible refine x_lst ?_
  | ((with_reducible refine x_lenNew ?hl ?_); (case hl => exact Nat.le_of_ble_eq_true rfl); intro _ _ _ _ _)
  | ((with_reducible refine x_new ?_); intro _ _ _ _ _)
  | with_reducible refine x_sl ?_
  | with_reducible refine x_noPart ?_
  | with_reducible refine x_part ?_
  | with_reducible refine x_ex_int ?_
  | with_reducible refine x_ex_bl ?_
  | with_reducible refine x_ex_2 ?_
  | with_reducible refine x_test ?_
  | with_reducible refine x_B ?_
  | with_reducible refine x_and ?_
  | with_reducible refine x_or ?_
  | with_reducible refine x_not ?_
  | with_reducible refine x_andV ?_
  | with_reducible refine x_orV ?_
  | with_reducible refine x_notV ?_
  | with_reducible refine x_ifE ?_
  | with_reducible refine x_iteT ?_
  | with_reducible refine x_iteF ?_
  | ((with_reducible refine x_iteD ?_ ?_) <;> intro _)
  | ((with_reducible refine x_iteN ?_ ?_) <;> intro _)
  | with_reducible refine x_if ?_
  | with_reducible refine x_seq ?_
  | with_reducible refine x_next ?_
  | with_reducible refine x_asg ?_
  | with_reducible refine x_gName ?_
  | ((with_reducible refine' x_gTup ?hq ?hn ?_); (case hq => walk_at "hk"); (case hn => exact rfl))
  | with_reducible refine x_gCons ?_
  | with_reducible refine x_gNil ?_
  | ((with_reducible refine' x_gConsE ?h ?_); (case h => exact rfl))
  | ((with_reducible refine x_gNilE ?h ?_); (case h => exact rfl))
  | with_reducible refine x_ret ?_
  | with_reducible refine x_drop ?_
  | with_reducible refine x_par ?_
  | ((with_reducible refine' x_aug ?hx ?_); (case hx => exact rfl))
  | with_reducible refine x_ipI ?_
  | with_reducible refine x_augS ?_
  | with_reducible refine x_gSub ?_
  | ((with_reducible refine' x_setL ?hq ?hi ?_); (case hq => walk_at "hk"); (case hi => first | exact rfl | assumption))
  | with_reducible refine x_cons ?_
  | with_reducible refine x_nil ?_
  | with_reducible refine x_CB ?_
  | with_reducible refine x_abs ?_
  | with_reducible refine x_intI ?_
  | with_reducible refine x_intB ?_
  | ((with_reducible refine' x_lenL ?hq ?_); (case hq => walk_at "hk"))
  | ((with_reducible refine' x_lenT ?hq ?_); (case hq => walk_at "hk"))
  | ((with_reducible refine x_iteTe ?h ?_); (case h => exact rfl))
  | ((with_reducible refine x_iteFe ?h ?_); (case h => exact rfl))
  | walk_at "use"
  | with_reducible refine x_callS ?_
  | ((with_reducible refine x_lc ?_))
  | ((with_reducible refine x_for ?_))
  | ((with_reducible refine x_iR1 ?_))
  | ((with_reducible refine x_iL ?_))
  | ((with_reducible refine x_iZ ?_))
  | ((with_reducible refine x_yes ?_))
  | ((with_reducible refine' x_NIDt ?hq ?_); (case hq => assumption))
  | ((with_reducible refine' x_NIDf ?hq ?_); (case hq => assumption))
  | ((with_reducible refine' x_IIDf ?hq ?_); (case hq => assumption))
  | ((with_reducible refine' x_IIDt ?hq ?_); (case hq => assumption))
  | ((with_reducible refine' x_ixDs ?hd ?hq ?_); (case hd => assumption); (case hq => assumption))
  | ((with_reducible refine x_InSt ?h ?_); (case h => decide +kernel))
  | ((with_reducible refine x_InSf ?h ?_); (case h => decide +kernel))
  | ((with_reducible refine' x_notInI ?hq ?_); (case hq => walk_at "hk"))
  | ((with_reducible refine' x_inTt ?hq ?hv ?ha ?he ?_); (case hq => walk_at "hk"); (case hv => exact rfl); (case ha => exact rfl); (case he => decide +kernel))
  | ((with_reducible refine' x_inTf ?hq ?hv ?ha ?he ?_); (case hq => walk_at "hk"); (case hv => exact rfl); (case ha => exact rfl); (case he => decide +kernel))
  | ((with_reducible refine' x_slT ?hq ?hw ?_); (case hq => walk_at "hk"); (case hw => with_unfolding_all exact of_decide_eq_true rfl))
  | ((with_reducible refine' x_slL ?hq ?_); (case hq => walk_at "hk"))
  | ((with_reducible refine' x_catT ?hq ?hr ?n1 ?n2 ?hl ?_); (case hq => walk_at "hk"); (case hr => walk_at "hk"); (case n1 => exact List.cons_ne_nil _ _); (case n2 => exact List.cons_ne_nil _ _); (case hl => exact Nat.le_of_ble_eq_true rfl))
  | ((with_reducible refine x_bm ?_))
  | ((with_reducible refine x_lstRg ?_))
  | ((with_reducible refine x_rg1 ?_))
  | ((with_reducible refine And.intro ?h ?_); (case h => exact tyL (by assumption)))
  | dsimp only)
local macro_rules | `(tactic| walk_at "use") => `(tactic| fail)
local macro_rules | `(tactic| walk_at "rd") => `(tactic| repeat' (walk_at "rd1"))
local macro_rules | `(tactic| walk_at "ex") => `(tactic| first | exact Ex.refl _ | assumption | (refine' Ex.trans ?he (by assumption); (case he => walk_at "ex")))
local macro_rules | `(tactic| walk_at "rd1") => `(tactic| first
  | ((with_reducible refine x_iteDf ?h ?_); (case h => exact rfl))
  | ((with_reducible refine x_iteDt ?h ?_); (case h => exact rfl))
  | ((with_reducible refine x_iteNf ?h ?_); (case h => exact rfl))
  | ((with_reducible refine x_iteNt ?h ?_); (case h => exact rfl))
  | ((with_reducible refine x_isiI (r := true) ?h ?_); (case h => decide +kernel))
  | ((with_reducible refine x_isiI (r := false) ?h ?_); (case h => decide +kernel))
  | ((with_reducible refine x_isiS (r := true) ?h ?_); (case h => decide +kernel))
  | ((with_reducible refine x_isiS (r := false) ?h ?_); (case h => decide +kernel))
  | ((with_reducible refine x_isiB (r := true) ?h ?_); (case h => decide +kernel))
  | ((with_reducible refine x_isiB (r := false) ?h ?_); (case h => decide +kernel))
  | ((with_reducible refine' x_isiT (r := true) ?hp ?h ?_); (case hp => walk_at "hk"); (case h => decide +kernel))
  | ((with_reducible refine' x_isiT (r := false) ?hp ?h ?_); (case hp => walk_at "hk"); (case h => decide +kernel))
  | ((with_reducible refine' x_isiL (r := true) ?hp ?h ?_); (case hp => walk_at "hk"); (case h => decide +kernel))
  | ((with_reducible refine' x_isiL (r := false) ?hp ?h ?_); (case hp => walk_at "hk"); (case h => decide +kernel))
  | ((with_reducible refine' x_isi2L ?hp ?hl ?_); (case hp => walk_at "hk"); (case hl => walk_at "hk"))
  | ((with_reducible refine' x_isi2T ?hp ?hl ?_); (case hp => walk_at "hk"); (case hl => walk_at "hk"))
  | ((with_reducible refine' x_tupOfL ?hq ?_); (case hq => walk_at "hk"))
  | ((with_reducible refine' x_tupOfT ?hq ?_); (case hq => walk_at "hk"))
  | ((with_reducible refine x_lenS ?h ?_); (case h => exact Nat.le_of_ble_eq_true rfl))
  | ((with_reducible refine' x_all ?hq ?_); (case hq => walk_at "hk"))
  | with_reducible refine x_lenSet ?_)
local macro_rules | `(tactic| walk_at "rd1") => `(tactic| first
  | with_reducible refine Er.x_iR2 ?_
  | with_reducible refine Er.x_iEn ?_
  | with_reducible refine Er.x_cont ?_
  | ((with_reducible refine Er.x_isBt ?h ?_); (case h => exact rfl))
  | ((with_reducible refine Er.x_isBf ?h ?_); (case h => exact rfl))
  | ((with_reducible refine Er.x_isNBt ?h ?_); (case h => exact rfl))
  | ((with_reducible refine Er.x_isNBf ?h ?_); (case h => exact rfl))
  | with_reducible refine Er.x_isB ?_
  | with_reducible refine Er.x_isNB ?_)

open Cl
local macro_rules | `(tactic| walk_at "nb") => `(tactic| first | exact NB.ints | assumption | (refine Ow.Refs.nb ?_; assumption))
local macro_rules | `(tactic| walk_at "rd1") => `(tactic| first
  | with_reducible refine Er.x_stepL ?_
  | with_reducible refine Er.x_gStep ?_
  | with_reducible refine Er.x_iR3 ?_
  | with_reducible refine Er.x_lc2 ?_
  | ((with_reducible refine' x_listOfL ?h ?_); (case h => walk_at "hk")))
section
variable {P : Program} {w : World} {K : PySem.W.Frag} {mg : Str → Option Value} {base : Heap} {a : Ad} {H H1 : Hp} {Q : VK} {E : XK} {p b c t s dx : Addr} {fl gl : Int} {xs ps : List V} {qs us : List C} {n m : Nat} {g : Int → Int → Int} {ls : List (List Int)} {h : Int → Int}
open Er
theorem Sz.lt (hz : Sz n m) : n * m ≤ 300000 := by
  obtain ⟨hn, _, hm⟩ := hz
  rcases hn with rfl | rfl <;> omega
theorem Sz.n0 (hz : Sz n m) : 0 < n := by rcases hz.1 with rfl | rfl <;> decide
theorem rep_ints {k : Nat} : (List.replicate k [V.int 0]).flatten = (List.replicate k (0 : Int)).map V.int := by
  induction k with
  | zero => rfl
  | succ k ih => rw [List.replicate_succ, List.flatten_cons, ih, List.replicate_succ, List.map_cons]; rfl
/-! the order -/
def sp_order_of : Sp := fun vs H Q _ => ∃ (b : Addr) (n m : Nat) (g : Int → Int → Int), vs = [.ref b] ∧ Sz n m ∧ ColsAt H b (tab n m g) ∧ ∀ t H1, Ex H H1 → NF H t → H1 t = some (.lst ((ord n m g).map V.int)) → Q (.ref t) H1
theorem u_order_of (hz : Sz n m) (hc : ColsAt H b (tab n m g)) (k : ∀ t H1, Ex H H1 → NF H t → H1 t = some (.lst ((ord n m g).map V.int)) → Q (.ref t) H1) : sp_order_of [.ref b] H Q E := ⟨b, n, m, g, rfl, hz, hc, k⟩
theorem ok_order_of (T : Txt K w mg a) : FnOk P w K mg base CX0 1 a.a_order_of a.fd_order_of ["columns"] sp_order_of := by
  refine T.F_order_of.ok sc_order_of (fun vs H Q E h => ?_) (fun cdv A outer s H vs Q E hr h => ?_)
  · obtain ⟨b, n, m, g, rfl, _⟩ := h; rfl
  · obtain ⟨b, n, m, g, rfl, hz, ⟨ps, hb, hc⟩, k⟩ := h
    have hnm := hz.lt
    have n0 := hz.n0
    obtain ⟨hn, hm, hm1⟩ := hz
    have nbp := hc.nb
    have hpl : ps.length = n := by rw [hc.len, tab_len]
    obtain ⟨p0, e0, h0⟩ := hc.get (tab_get (show 0 < n by omega))
    have hl0 : ((((col m g ((0 : Nat) : Int)).map V.int).length : Nat) : Int) = m := by rw [List.length_map, col_len]
    refine ⟨_, (pss_cons (ps_set (i := 1) sc_order_of.nd rfl (Or.inl rfl) (pe_callB c_len (by rfl) T.n_len PySem.boot_len (pa_cons (pv 0) pa_nil)))
      (pss_cons (ps_set (i := 2) sc_order_of.nd rfl (Or.inl rfl) (pe_op op_rep (pe_lst (pa_cons pe_int pa_nil)) (pe_op op_mul (pv 1) (pe_callB c_len (by rfl) T.n_len PySem.boot_len (pa_cons (pe_ix ix_list (pv 0) pe_int (fun _ _ => rfl)) pa_nil)))))
      (pss_cons (ps_for PassesOwn.never rfl (pi_range1 (by rfl) T.n_range (pa_cons (pv 1) pa_nil)) (pg_name (i := 3) sc_order_of.nd rfl (Or.inl rfl)) (pss_one (ps_asg (pe_ix ix_list (pv 0) (pv 3) (fun _ _ => rfl)) (Er.pg_step (pv 2) (po_some (pv 3)) po_none (po_some (pv 1))))))
      (pss_one (ps_ret (pv 2)))))), ?_⟩
    walk_at "rd"
    rename_i pz Hz ez fz hz
    refine x_ixL (ez.kp _ _ hb nbp) (at_nat (by decide) e0) ?_
    walk_at "rd"
    rw [hl0, hpl, ← Int.natCast_mul]
    refine x_repN (xs := [.int 0]) hz (Nat.lt_of_le_of_lt hnm (by decide)) (Nat.le_trans (show [V.int 0].length * (n * m) ≤ 300000 by rw [show [V.int 0].length = 1 from rfl, Nat.one_mul]; exact hnm) (by decide)) fun t H2 e2 f2 h2 => ?_
    rw [rep_ints, ← ordP_none (n := n) (m := m) (g := g)] at h2
    walk_at "rd"
    refine for_rng (m := (n : Int)) (by omega) (by omega) (fun i σ H' => ∃ v3 : Option V, σ = [some (.ref b), some (.int n), some (.ref t), v3] ∧ Ex H H' ∧ i ≤ n ∧ H' t = some (.lst ((ordP n m g i).map V.int))) ⟨_, rfl, ez.trans e2, Nat.zero_le _, h2⟩ (fun i σ H3 hi h => ?_) (fun σ H3 h => ?_)
    · obtain ⟨v3, rfl, e, hin, ht⟩ := h
      have hin' : i < n := by omega
      obtain ⟨pi, ei, hpi⟩ := (hc.ex e).get (tab_get hin')
      have hb3 := e.kp _ _ hb nbp
      walk_at "rd"
      refine x_ixL hb3 (at_nat (by omega) (by rw [Int.toNat_natCast]; exact ei)) ?_
      walk_at "rd"
      have hne : t ≠ pi := fun et => by
        obtain ⟨pj, ej, hpj⟩ := hc.get (tab_get hin')
        obtain ⟨p', ep, hp'⟩ := hc.get (tab_get hin')
        have : pi = p' := by rw [ei] at ep; exact V.ref.inj (Option.some.inj ep)
        exact NF.new ez f2 _ NB.ints (by rw [et, this]; exact hp')
      refine x_stepS ht hpi hne (by omega) (by omega) ?_ ?_
      · rw [List.length_map, List.length_map, col_len, ordP_len, places_col hin']
        simp [steps]
      · rw [List.length_map, ordP_len, places_col hin', ord_put hin']
        walk_at "rd"
        exact ⟨_, rfl, Er.mutN e (NF.new ez f2) ht NB.ints, by omega, upd_same⟩
    · obtain ⟨v3, rfl, e, hin, ht⟩ := h
      walk_at "rd"
      rw [Int.toNat_natCast, ordP_all n0] at ht
      exact k t H3 e (NF.new ez f2) ht
/-! the columns of an order -/
def sp_columns_of : Sp := fun vs H Q _ => ∃ (b : Addr) (n m : Nat) (h : Int → Int), vs = [.ref b, .int (n : Int)] ∧ Sz n m ∧ H b = some (.lst (((List.range (n * m)).map fun i : Nat => h i).map V.int)) ∧ ∀ t H1, Ex H H1 → ColsAt H1 t (tab n m fun r f => h (r * n + f)) → Q (.ref t) H1
theorem u_columns_of (hz : Sz n m) (hb : H b = some (.lst (((List.range (n * m)).map fun i : Nat => h i).map V.int))) (k : ∀ t H1, Ex H H1 → ColsAt H1 t (tab n m fun r f => h (r * n + f)) → Q (.ref t) H1) : sp_columns_of [.ref b, .int (n : Int)] H Q E := ⟨b, n, m, h, rfl, hz, hb, k⟩
theorem ok_columns_of (T : Txt K w mg a) : FnOk P w K mg base CX0 1 a.a_columns_of a.fd_columns_of ["order", "files"] sp_columns_of := by
  refine T.F_columns_of.ok sc_columns_of (fun vs H Q E h => ?_) (fun cdv A outer s H vs Q E hr h => ?_)
  · obtain ⟨b, n, m, g, rfl, _⟩ := h; rfl
  · obtain ⟨b, n, m, h, rfl, hz, hb, k⟩ := h
    have n0 := hz.n0
    obtain ⟨hn, hm, hm1⟩ := hz
    refine ⟨_, (pss_one (ps_ret (pe_lc (own := [("file", 2)]) rfl sc_columns_of.nd (pi_range1 (by rfl) T.n_range (pa_cons (pv 1) pa_nil)) (blkOk_by (own := [("file", 2)]) (N := ["order", "files", "file"]) (sc := defScope s_columns_of) (by decide +kernel)) (fun _ _ _ _ _ => (pg_name (i := 2) sc_columns_of.nd rfl (Or.inl rfl) (Or.inr rfl))) (fun _ _ _ _ _ => pts_nil) (fun _ _ _ _ _ => (Er.pe_stepLB (pv 0) (po_some (pv 2)) po_none (po_some (pv 1))))))), ?_⟩
    walk_at "rd"
    refine lc_rngC (m := (n : Int)) (by omega) (by omega) (fun i acc H => Cols H acc ((tab n m fun r f => h (r * n + f)).take i) ∧ acc.length = i ∧ i ≤ n ∧ Ow.Refs acc) (fun D _ => ⟨.nil, rfl, Nat.zero_le _, Ow.Refs.nil⟩) (fun i acc y H D hd h => ⟨h.1.upd hd (fun v hv => h.2.2.2 v (List.mem_append_left _ hv)) (fun l hl => tab_ne hm l (List.mem_of_mem_take hl)), h.2⟩) (fun i acc H h => ⟨h.1.nb, Nat.lt_of_le_of_lt (show _ ≤ 3 by omega) (by decide)⟩) (fun x => rfl) (fun i acc H' hi e hI kk k1 => ?_) (fun p ys H2 e hp h2 hI => ?_)
    · have hin : i < n := by omega
      have hb' := e.kp _ _ hb NB.ints
      walk_at "rd"
      refine x_stepK hb' (fun e => by injection e with e; omega) fun p2 H3 e3 f3 h3 => ?_
      rw [cols_of hin] at h3
      refine k1 _ _ e3 ⟨?_, by simp; omega, by omega, ?_⟩
      · rw [List.take_add_one, tab_get hin]
        exact (hI.1.ex e3).one h3
      · intro v hv
        rcases List.mem_append.mp hv with hv | hv
        · exact hI.2.2.2 v hv
        · exact ⟨p2, by simpa using hv⟩
    · have := hI.1
      rw [Int.toNat_natCast, List.take_of_length_le (by rw [tab_len]; exact Nat.le_refl _)] at this
      walk_at "rd"
      exact k p H2 e ⟨ys, h2, this⟩
end
end My

set_option Elab.async false
set_option linter.all false
set_option maxRecDepth 100000
set_option maxHeartbeats 8000000
namespace My
open PySem PySem.Spec PyProof.Rows L2 Sx
local macro_rules | `(tactic| walk_at "nb") => `(tactic| first | exact NB.tup | exact NB.ints | exact NB.len (of_decide_eq_true rfl) | exact NB.at0b rfl | exact NB.at3b rfl | exact NB.ins | exact NB.own | exact NB.frz | exact NB.refs (by assumption) | assumption)
local macro_rules | `(tactic| walk_at "ne") => `(tactic| first | assumption | exact Ne.symm (by assumption) | exact ne_of_none (by assumption) (by assumption) | exact Ne.symm (ne_of_none (by assumption) (by assumption)))
local macro_rules | `(tactic| walk_at "hk") => `(tactic| first
  | assumption
  | exact upd_same
  | (refine' (upd_ne ?hkne).trans ?hkq; (case hkne => walk_at "ne"); (case hkq => walk_at "hk"))
  | (refine' Ex.kp (by assumption) _ _ ?hkq ?hkn; (case hkq => walk_at "hk"); (case hkn => walk_at "nb")))
local macro_rules | `(tactic| walk_at "rd1") => `(tactic| first
  | ((with_reducible refine' x_var ?hx ?_); (case hx => exact rfl))
  | with_reducible refine x_c ?_
  | with_reducible refine x_op ?_
  | with_reducible refine x_un ?_
  | with_reducible refine x_I0 ?_
  | with_reducible refine x_U ?_
  | ((with_reducible refine x_I ?hc ?_); (case hc => first | exact (by decide : (0 : Int) < _) | (show (0 : Int) < _; omega) | (show CMul _ _; first | exact .inl ⟨by omega, by omega⟩ | exact .inr ⟨by omega, by omega⟩) | (show CDiv _ _; exact ⟨by omega, by omega⟩) | (show CDivW _ _; exact wide_div (b := 200) (by omega) (by assumption) (by decide) (by decide)) | (show CDivW _ _; exact wide_div (b := 31) (by omega) (by omega) (by decide) (by decide))))
  | with_reducible refine x_EqI ?_
  | with_reducible refine x_NeI ?_
  | ((with_reducible refine x_EqSt ?h ?_); (case h => decide +kernel))
  | ((with_reducible refine x_EqSf ?h ?_); (case h => decide +kernel))
  | ((with_reducible refine x_NeSt ?h ?_); (case h => decide +kernel))
  | ((with_reducible refine x_NeSf ?h ?_); (case h => decide +kernel))
  | with_reducible refine x_EqS ?_
  | with_reducible refine x_NeS ?_
  | ((with_reducible refine' x_ixL ?hq ?hi ?_); (case hq => walk_at "hk"); (case hi => first | exact rfl | assumption))
  | ((with_reducible refine' x_ixT ?hq ?hi ?_); (case hq => walk_at "hk"); (case hi => first | exact rfl | assumption))
  | with_reducible refine x_chain ?_
  | with_reducible refine x_tup ?_
  | with_reducible refine x_lst ?_
  | ((with_reducible refine x_lenNew ?hl ?_); (case hl => exact Nat.le_of_ble_eq_true rfl); intro _ _ _ _ _)
  | ((with_reducible refine x_new ?_); intro _ _ _ _ _)
  | with_reducible refine x_sl ?_
  | with_reducible refine x_noPart ?_
  | with_reducible refine x_part ?_
  | with_reducible refine x_ex_int ?_
  | with_reducible refine x_ex_bl ?_
  | with_reducible refine x_ex_2 ?_
  | with_reducible refine x_test ?_
  | with_reducible refine x_B ?_
  | with_reducible refine x_and ?_
  | with_reducible refine x_or ?_
  | with_reducible refine x_not ?_
  | with_reducible refine x_andV ?_
  | with_reducible refine x_orV ?_
  | with_reducible refine x_notV ?_
  | with_reducible refine x_ifE ?_
  | with_reducible refine x_iteT ?_
  | with_reducible refine x_iteF ?_
  | ((with_reducible refine x_iteD ?_ ?_) <;> intro _)
  | ((with_reducible refine x_iteN ?_ ?_) <;> intro _)
  | with_reducible refine x_if ?_
  | with_reducible refine x_seq ?_
  | with_reducible refine x_next ?_
  | with_reducible refine x_asg ?_
  | with_reducible refine x_gName ?_
  | ((with_reducible refine' x_gTup ?hq ?hn ?_); (case hq => walk_at "hk"); (case hn => exact rfl))
  | with_reducible refine x_gCons ?_
  | with_reducible refine x_gNil ?_
  | ((with_reducible refine' x_gConsE ?h ?_); (case h => exact rfl))
  | ((with_reducible refine x_gNilE ?h ?_); (case h => exact rfl))
  | with_reducible refine x_ret ?_
  | with_reducible refine x_drop ?_
  | with_reducible refine x_par ?_
  | ((with_reducible refine' x_aug ?hx ?_); (case hx => exact rfl))
  | with_reducible refine x_ipI ?_
  | with_reducible refine x_augS ?_
  | with_reducible refine x_gSub ?_
  | ((with_reducible refine' x_setL ?hq ?hi ?_); (case hq => walk_at "hk"); (case hi => first | exact rfl | assumption))
  | with_reducible refine x_cons ?_
  | with_reducible refine x_nil ?_
  | with_reducible refine x_CB ?_
  | with_reducible refine x_abs ?_
  | with_reducible refine x_intI ?_
  | with_reducible refine x_intB ?_
  | ((with_reducible refine' x_lenL ?hq ?_); (case hq => walk_at "hk"))
  | ((with_reducible refine' x_lenT ?hq ?_); (case hq => walk_at "hk"))
  | ((with_reducible refine x_iteTe ?h ?_); (case h => exact rfl))
  | ((with_reducible refine x_iteFe ?h ?_); (case h => exact rfl))
  | walk_at "use"
  | with_reducible refine x_callS ?_
  | ((with_reducible refine x_lc ?_))
  | ((with_reducible refine x_for ?_))
  | ((with_reducible refine x_iR1 ?_))
  | ((with_reducible refine x_iL ?_))
  | ((with_reducible refine x_iZ ?_))
  | ((with_reducible refine x_yes ?_))
  | ((with_reducible refine' x_NIDt ?hq ?_); (case hq => assumption))
  | ((with_reducible refine' x_NIDf ?hq ?_); (case hq => assumption))
  | ((with_reducible refine' x_IIDf ?hq ?_); (case hq => assumption))
  | ((with_reducible refine' x_IIDt ?hq ?_); (case hq => assumption))
  | ((with_reducible refine' x_ixDs ?hd ?hq ?_); (case hd => assumption); (case hq => assumption))
  | ((with_reducible refine x_InSt ?h ?_); (case h => decide +kernel))
  | ((with_reducible refine x_InSf ?h ?_); (case h => decide +kernel))
  | ((with_reducible refine' x_notInI ?hq ?_); (case hq => walk_at "hk"))
  | ((with_reducible refine' x_inTt ?hq ?hv ?ha ?he ?_); (case hq => walk_at "hk"); (case hv => exact rfl); (case ha => exact rfl); (case he => decide +kernel))
  | ((with_reducible refine' x_inTf ?hq ?hv ?ha ?he ?_); (case hq => walk_at "hk"); (case hv => exact rfl); (case ha => exact rfl); (case he => decide +kernel))
  | ((with_reducible refine' x_slT ?hq ?hw ?_); (case hq => walk_at "hk"); (case hw => with_unfolding_all exact of_decide_eq_true rfl))
  | ((with_reducible refine' x_slL ?hq ?_); (case hq => walk_at "hk"))
  | ((with_reducible refine' x_catT ?hq ?hr ?n1 ?n2 ?hl ?_); (case hq => walk_at "hk"); (case hr => walk_at "hk"); (case n1 => exact List.cons_ne_nil _ _); (case n2 => exact List.cons_ne_nil _ _); (case hl => exact Nat.le_of_ble_eq_true rfl))
  | ((with_reducible refine x_bm ?_))
  | ((with_reducible refine x_lstRg ?_))
  | ((with_reducible refine x_rg1 ?_))
  | ((with_reducible refine And.intro ?h ?_); (case h => exact tyL (by assumption)))
  | dsimp only)
local macro_rules | `(tactic| walk_at "use") => `(tactic| fail)
local macro_rules | `(tactic| walk_at "rd") => `(tactic| repeat' (walk_at "rd1"))
local macro_rules | `(tactic| walk_at "ex") => `(tactic| first | exact Ex.refl _ | assumption | (refine' Ex.trans ?he (by assumption); (case he => walk_at "ex")))
local macro_rules | `(tactic| walk_at "rd1") => `(tactic| first
  | ((with_reducible refine x_iteDf ?h ?_); (case h => exact rfl))
  | ((with_reducible refine x_iteDt ?h ?_); (case h => exact rfl))
  | ((with_reducible refine x_iteNf ?h ?_); (case h => exact rfl))
  | ((with_reducible refine x_iteNt ?h ?_); (case h => exact rfl))
  | ((with_reducible refine x_isiI (r := true) ?h ?_); (case h => decide +kernel))
  | ((with_reducible refine x_isiI (r := false) ?h ?_); (case h => decide +kernel))
  | ((with_reducible refine x_isiS (r := true) ?h ?_); (case h => decide +kernel))
  | ((with_reducible refine x_isiS (r := false) ?h ?_); (case h => decide +kernel))
  | ((with_reducible refine x_isiB (r := true) ?h ?_); (case h => decide +kernel))
  | ((with_reducible refine x_isiB (r := false) ?h ?_); (case h => decide +kernel))
  | ((with_reducible refine' x_isiT (r := true) ?hp ?h ?_); (case hp => walk_at "hk"); (case h => decide +kernel))
  | ((with_reducible refine' x_isiT (r := false) ?hp ?h ?_); (case hp => walk_at "hk"); (case h => decide +kernel))
  | ((with_reducible refine' x_isiL (r := true) ?hp ?h ?_); (case hp => walk_at "hk"); (case h => decide +kernel))
  | ((with_reducible refine' x_isiL (r := false) ?hp ?h ?_); (case hp => walk_at "hk"); (case h => decide +kernel))
  | ((with_reducible refine' x_isi2L ?hp ?hl ?_); (case hp => walk_at "hk"); (case hl => walk_at "hk"))
  | ((with_reducible refine' x_isi2T ?hp ?hl ?_); (case hp => walk_at "hk"); (case hl => walk_at "hk"))
  | ((with_reducible refine' x_tupOfL ?hq ?_); (case hq => walk_at "hk"))
  | ((with_reducible refine' x_tupOfT ?hq ?_); (case hq => walk_at "hk"))
  | ((with_reducible refine x_lenS ?h ?_); (case h => exact Nat.le_of_ble_eq_true rfl))
  | ((with_reducible refine' x_all ?hq ?_); (case hq => walk_at "hk"))
  | with_reducible refine x_lenSet ?_)
local macro_rules | `(tactic| walk_at "rd1") => `(tactic| first
  | with_reducible refine Er.x_iR2 ?_
  | with_reducible refine Er.x_iEn ?_
  | with_reducible refine Er.x_cont ?_
  | ((with_reducible refine Er.x_isBt ?h ?_); (case h => exact rfl))
  | ((with_reducible refine Er.x_isBf ?h ?_); (case h => exact rfl))
  | ((with_reducible refine Er.x_isNBt ?h ?_); (case h => exact rfl))
  | ((with_reducible refine Er.x_isNBf ?h ?_); (case h => exact rfl))
  | with_reducible refine Er.x_isB ?_
  | with_reducible refine Er.x_isNB ?_)

open Cl
local macro_rules | `(tactic| walk_at "nb") => `(tactic| first | exact NB.ints | assumption | (refine Ow.Refs.nb ?_; assumption))
local macro_rules | `(tactic| walk_at "rd1") => `(tactic| first
  | with_reducible refine Er.x_stepL ?_
  | with_reducible refine Er.x_gStep ?_
  | with_reducible refine Er.x_iR3 ?_
  | with_reducible refine Er.x_lc2 ?_
  | ((with_reducible refine' x_listOfL ?h ?_); (case h => walk_at "hk")))
section
variable {P : Program} {w : World} {K : PySem.W.Frag} {mg : Str → Option Value} {base : Heap} {a : Ad} {H H1 : Hp} {Q : VK} {E : XK} {p b c t s dx : Addr} {fl gl : Int} {xs ps : List V} {q : C} {qs us : List C} {n m : Nat} {g : Int → Int → Int} {ls : List (List Int)} {h : Int → Int}
open Er
theorem rgC_run (hz : Sz n m) : RgC 0 ((n * m : Nat) : Int) (m : Int) n := by
  obtain ⟨hn, hm, hm1⟩ := hz
  have hnm : n * m ≤ 300000 := by rcases hn with rfl | rfl <;> omega
  have rs : Builtin.Range.rangeSize 0 ((n * m : Nat) : Int) (m : Int) = n := by
    unfold Builtin.Range.rangeSize
    rw [if_pos (show (m : Int) > 0 by omega), if_pos (by rcases hn with rfl | rfl <;> omega)]
    rcases hn with rfl | rfl
    · rw [show ((2 * m : Nat) : Int) - 0 - 1 = (m - 1) + m * 1 by omega, Int.add_mul_ediv_left _ _ (by omega), Int.ediv_eq_zero_of_lt (by omega) (by omega)]; rfl
    · rw [show ((3 * m : Nat) : Int) - 0 - 1 = (m - 1) + m * 2 by omega, Int.add_mul_ediv_left _ _ (by omega), Int.ediv_eq_zero_of_lt (by omega) (by omega)]; rfl
  refine ⟨by omega, by omega, ?_, rs⟩
  unfold Builtin.Range.small
  rw [rs]
  have mp : (m : Int) > 0 := by omega
  simp only [Builtin.Range.rangeFitsLong, Bool.and_eq_true, Bool.or_eq_true, decide_eq_true_eq, beq_iff_eq, mp, if_true]
  rcases hn with rfl | rfl <;> refine ⟨⟨⟨⟨?_, ?_⟩, ⟨?_, ?_⟩⟩, ?_⟩, .inr ?_⟩ <;> omega
theorem ok_behind_halve (T : Txt K w mg a) : FnOk P w K mg base CX0 2 a.a_behind_halve a.fd_behind_halve ["columns", "call"] (sp_beh fun q => q = .halve) := by
  refine T.F_behind_halve.ok sc_behind_halve (fun vs H Q E h => ?_) (fun cdv A outer s H vs Q E hr h => ?_)
  · obtain ⟨b, p, q, n, m, g, rfl, _⟩ := h; rfl
  · obtain ⟨b, p, q, n, m, g, rfl, hp, rfl, ho, hz, ⟨ps, hb, hc⟩, k⟩ := h
    have G_order_of := ok_order_of (P := P) (base := base) T
    have rg := rgC_run hz
    have hz0 := hz
    obtain ⟨hn, hm, hm1⟩ := hz
    have hnm := hz0.lt
    have nbp := hc.nb
    obtain ⟨p0, e0, h0⟩ := hc.get (tab_get (show 0 < n by omega))
    have hl0 : ((((col m g ((0 : Nat) : Int)).map V.int).length : Nat) : Int) = m := by rw [List.length_map, col_len]
    refine ⟨_, (pss_cons (ps_set (i := 2) sc_behind_halve.nd rfl (Or.inr rfl) (pe_call G_order_of (hr.mono (by decide)) (by rfl) T.m_order_of T.k_order_of T.b_order_of .nil pass0 (pa_cons (pv 0) pa_nil)))
      (pss_cons (ps_set (i := 3) sc_behind_halve.nd rfl (Or.inr rfl) (pe_callB c_len (by rfl) T.n_len PySem.boot_len (pa_cons (pe_ix ix_list (pv 0) pe_int (fun _ _ => rfl)) pa_nil)))
      (pss_one (ps_ret (pe_lc (own := [("begin", 4)]) rfl sc_behind_halve.nd (pi_range3 (by rfl) T.n_range (pa_cons pe_int (pa_cons (pe_callB c_len (by rfl) T.n_len PySem.boot_len (pa_cons (pv 2) pa_nil)) (pa_cons (pv 3) pa_nil)))) (blkOk_by (own := [("begin", 4)]) (N := ["columns", "call", "order", "rows", "begin"]) (sc := defScope s_behind_halve) (by decide +kernel)) (fun _ _ _ _ _ => (pg_name (i := 4) sc_behind_halve.nd rfl (Or.inl rfl) (Or.inr rfl))) (fun _ _ _ _ _ => pts_nil) (fun _ _ _ _ _ => (pe_slice Ow.sl_listB (pv 2) (po_some (pv 4)) (po_some (pe_op op_add (pv 4) (pv 3)))))))))), ?_⟩
    walk_at "rd"
    refine u_order_of hz0 ⟨ps, hb, hc⟩ fun t H1 e1 f1 h1 => ?_
    walk_at "rd"
    refine x_ixL (e1.kp _ _ hb nbp) (at_nat (by decide) e0) ?_
    walk_at "rd"
    rw [hl0, show ((((ord n m g).map V.int).length : Nat) : Int) = ((n * m : Nat) : Int) by rw [List.length_map, ord_len]]
    have bt := beh_halve (n := n) (m := m) (g := g)
    have tn := tab_ne (n := n) (g := mvg .halve n m g) hm
    rw [bt] at tn
    refine lc_rng3C rg (fun i acc H => Cols H acc (((List.range n).map fun i => ((ord n m g).drop (i * m)).take m).take i) ∧ acc.length = i ∧ i ≤ n ∧ Ow.Refs acc) (fun D _ => ⟨.nil, rfl, Nat.zero_le _, Ow.Refs.nil⟩) (fun i acc y H D hd h => ⟨h.1.upd hd (fun v hv => h.2.2.2 v (List.mem_append_left _ hv)) (fun l hl => tn l (List.mem_of_mem_take hl)), h.2⟩) (fun i acc H h => ⟨h.1.nb, Nat.lt_of_le_of_lt (show _ ≤ 3 by omega) (by decide)⟩) (fun x => rfl) (fun i acc H' hi e hI kk k1 => ?_) (fun p ys H2 e hp h2 hI => ?_)
    · have h1' := e.kp _ _ h1 NB.ints
      have cut : ∀ xs : List V, i * m ≤ xs.length → cutV xs (some (0 + (i : Nat) * (m : Int))) (some (0 + (i : Nat) * (m : Int) + (m : Int))) = (xs.drop (i * m)).take m := fun xs hx => by
        rw [show (0 : Int) + (i : Nat) * (m : Int) = ((i * m : Nat) : Int) by simp, show ((i * m : Nat) : Int) + (m : Int) = ((i * m + m : Nat) : Int) by omega, cut_mid hx, show i * m + m - i * m = m by omega]
      have rl := run_lt (r := 0) hi hm
      walk_at "rd"
      rename_i p3 H3 e3 f3 h3
      rw [cut _ (by rw [List.length_map, ord_len]; omega), ← List.map_drop, ← List.map_take] at h3
      refine k1 _ _ e3 ⟨?_, by simp; omega, by omega, ?_⟩
      · rw [List.take_add_one, List.getElem?_map, List.getElem?_range hi]
        exact (hI.1.ex e3).one h3
      · intro v hv
        rcases List.mem_append.mp hv with hv | hv
        · exact hI.2.2.2 v hv
        · exact ⟨p3, by simpa using hv⟩
    · have := hI.1
      rw [List.take_of_length_le (by simp), ← bt] at this
      walk_at "rd"
      exact k p H2 (e1.trans e) ⟨ys, h2, this⟩
theorem ok_behind_pair (T : Txt K w mg a) : FnOk P w K mg base CX0 2 a.a_behind_pair a.fd_behind_pair ["columns", "call"] (sp_beh fun q => q = .pair) := by
  refine T.F_behind_pair.ok sc_behind_pair (fun vs H Q E h => ?_) (fun cdv A outer s H vs Q E hr h => ?_)
  · obtain ⟨b, p, q, n, m, g, rfl, _⟩ := h; rfl
  · obtain ⟨b, p, q, n, m, g, rfl, hp, rfl, ho, hz, ⟨ps, hb, hc⟩, k⟩ := h
    have G_columns_of := ok_columns_of (P := P) (base := base) T
    have hnm := hz.lt
    have nbp := hc.nb
    have hpl : ps.length = n := by rw [hc.len, tab_len]
    refine ⟨_, (pss_one (ps_ret (pe_call G_columns_of (hr.mono (by decide)) (by rfl) T.m_columns_of T.k_columns_of T.b_columns_of .nil pass0 (pa_cons (pe_lc2 (own := [("column", 2), ("pupil", 3)]) (vs1 := [3]) rfl sc_behind_pair.nd (pi_list (pv 0)) (blkOk_by (own := [("column", 2), ("pupil", 3)]) (N := ["columns", "call", "column", "pupil"]) (sc := defScope s_behind_pair) (by decide +kernel)) (by decide) (fun _ _ _ _ _ => (pg_name (i := 2) sc_behind_pair.nd rfl (Or.inl rfl) (Or.inr rfl))) (fun _ _ _ _ _ => pts_nil) (fun _ _ _ _ _ => (Er.pi_listB (pv 2))) (fun _ _ _ _ _ => (pg_name (i := 3) sc_behind_pair.nd rfl (Or.inl rfl) (Or.inr rfl))) (fun _ _ _ _ _ => pts_nil) (fun _ _ _ _ _ => (pv 3))) (pa_cons (pe_callB c_len (by rfl) T.n_len PySem.boot_len (pa_cons (pv 0) pa_nil)) pa_nil))))), ?_⟩
    walk_at "rd"
    refine lc2_flat hb nbp hc.len (fun h => hc.getV h) (by rw [flat_len]; exact Nat.lt_of_le_of_lt hnm (by decide)) (fun _ => rfl) (fun _ => rfl) (fun _ _ => rfl) (fun _ _ => rfl) fun p2 H2 e2 f2 h2 => ?_
    rw [flat_is hz.2.1] at h2
    walk_at "rd"
    rw [hpl]
    refine u_columns_of (h := fun i => g (i % m) (i / m)) hz h2 fun t H3 e3 h3 => ?_
    walk_at "rd"
    exact k t H3 (by walk_at "ex") h3
/-! fill -/
theorem Cols.setIn {l : List Int} (h : Cols H ps ls) (nd : ps.Nodup) : ∀ {i : Nat}, ps[i]? = some (.ref p) → Cols (L2.upd H p (.lst (l.map V.int))) ps (ls.set i l) := by
  induction h with
  | nil => intro i h; simp at h
  | @cons p0 l0 ps ls h0 t ih =>
    intro i hi
    have nd' := List.nodup_cons.mp nd
    cases i with
    | zero =>
      have e : p0 = p := V.ref.inj (Option.some.inj hi)
      subst e
      refine .cons upd_same ?_
      clear ih hi nd h0
      have nd2 := nd'.1
      clear nd'
      induction t with
      | nil => exact .nil
      | cons h _ ih => exact .cons (by rw [upd_ne (fun e => nd2 (by rw [e]; exact .head _))]; exact h) (ih fun h => nd2 (.tail _ h))
    | succ i =>
      have hi' : ps[i]? = some (.ref p) := by simpa using hi
      refine .cons ?_ (ih nd'.2 hi')
      rw [upd_ne (fun e => nd'.1 (by rw [e]; exact List.mem_of_getElem? hi'))]
      exact h0
theorem Cols.move {H4 H6 : Hp} {o o1 : HO} (h : Cols (L2.upd H4 p o) ps ls) (e : Ex (L2.upd H4 p o1) H6) : Cols (L2.upd H6 p o) ps ls := by
  induction h with
  | nil => exact .nil
  | @cons p0 l0 ps ls h0 t ih =>
    refine .cons ?_ ih
    by_cases c : p0 = p
    · subst c
      rw [upd_same] at h0 ⊢
      exact h0
    · rw [upd_ne c] at h0 ⊢
      exact e.kp _ _ (by rw [upd_ne c]; exact h0) NB.ints
theorem putV_ints : ∀ (ks : List Nat) (l l' : List Int), ∃ X : List Int, putV (l.map V.int) ks (l'.map V.int) = X.map V.int
  | [], l, _ => ⟨l, rfl⟩
  | _ :: _, l, [] => ⟨l, rfl⟩
  | k :: ks, l, y :: l' => by
    have := putV_ints ks (l.set k y) l'
    rw [List.map_set] at this
    exact this
theorem places_evens {m : Nat} : places m none none (some 2) = steps 0 2 ((m + 1) / 2) := by
  have := places_none (n := m) (c := 2) (by decide)
  rw [show ((2 : Nat) : Int) = 2 from rfl] at this
  have h2 := places_up (n := m) (c := 2) 0 (by decide) (Nat.zero_le _)
  rw [show ((2 : Nat) : Int) = 2 from rfl] at h2
  rw [this, h2, show m - 0 + 2 - 1 = m + 1 by omega]
  rfl
theorem places_odds {m : Nat} (hm : 0 < m) : places m (some 1) none (some 2) = steps 1 2 (m / 2) := by
  have h2 : places m (some 1) none (some 2) = _ := places_up (n := m) (c := 2) 1 (by decide) hm
  rw [h2, show m - 1 + 2 - 1 = m by omega]
  rfl
/-- so far filled -/
def part (n m : Nat) (g : Int → Int → Int) (j : Nat) : Int → Int → Int := fun r f => if f < j then mvg .fill n m g r f else g r f
theorem part_set {i : Nat} (hi : i < n) : (tab n m (part n m g i)).set i (col m (mvg .fill n m g) i) = tab n m (part n m g (i + 1)) := by
  rw [tab_set hi]
  refine tab_congr fun r f _ _ _ _ => ?_
  unfold part
  by_cases c : f = i
  · rw [if_pos c, if_pos (by omega)]
  · rw [if_neg c]
    by_cases d : f < i
    · rw [if_pos d, if_pos (by omega)]
    · rw [if_neg d, if_neg (by omega)]
theorem part_col {i : Nat} : col m (part n m g i) (i : Int) = col m g i := col_congr fun r _ _ => if_neg (Int.lt_irrefl _)
theorem ok_behind_fill (T : Txt K w mg a) : FnOk P w K mg base CX0 1 a.a_behind_fill a.fd_behind_fill ["columns", "call"] (sp_beh fun q => q = .fill) := by
  refine T.F_behind_fill.ok sc_behind_fill (fun vs H Q E h => ?_) (fun cdv A outer s H vs Q E hr h => ?_)
  · obtain ⟨b, p, q, n, m, g, rfl, _⟩ := h; rfl
  · obtain ⟨b, p, q, n, m, g, rfl, hp, rfl, ho, hz, ⟨ps, hb, hc⟩, k⟩ := h
    obtain ⟨hn, hm, hm1⟩ := hz
    have nbp := hc.nb
    have hpl : ps.length = n := by rw [hc.len, tab_len]
    obtain ⟨p0, e0, h0⟩ := hc.get (tab_get (show 0 < n by omega))
    have hl0 : ((((col m g ((0 : Nat) : Int)).map V.int).length : Nat) : Int) = m := by rw [List.length_map, col_len]
    refine ⟨_, (pss_cons (ps_set (i := 2) sc_behind_fill.nd rfl (Or.inl rfl) (pe_op op_fdiv (pe_op op_add (pe_callB c_len (by rfl) T.n_len PySem.boot_len (pa_cons (pe_ix ix_list (pv 0) pe_int (fun _ _ => rfl)) pa_nil)) pe_int) pe_int))
      (pss_cons (ps_setLc (i := 3) (own := [("column", 5)]) rfl sc_behind_fill.nd rfl rfl (sw_true rfl rfl rfl (by decide +kernel)) (pi_list (pv 0)) (blkOk_by (own := [("column", 5)]) (N := ["columns", "call", "evens", "told", "file", "column"]) (sc := defScope s_behind_fill) (by decide +kernel)) (fun _ _ _ _ _ => (pg_name (i := 5) sc_behind_fill.nd rfl (Or.inl rfl) (Or.inr rfl))) (fun _ _ _ _ _ => pts_nil) (fun _ _ _ _ _ => (pe_callTy Ow.c_listOfB (by rfl) T.n_list (by decide +kernel) (pa_cons (pv 5) pa_nil))))
      (pss_cons (ps_for PassesOwn.never rfl (pi_range1 (by rfl) T.n_range (pa_cons (pe_callB c_len (by rfl) T.n_len PySem.boot_len (pa_cons (pv 0) pa_nil)) pa_nil)) (pg_name (i := 4) sc_behind_fill.nd rfl (Or.inl rfl)) (pss_cons (ps_asg (pe_slice sl_list (pe_ix ix_list (pv 0) (pv 4) (fun _ _ => rfl)) po_none (po_some (pv 2))) (Er.pg_step (pe_ix ix_list (pv 3) (pv 4) (fun _ _ => rfl)) po_none po_none (po_some pe_int)))
      (pss_one (ps_asg (pe_slice sl_list (pe_ix ix_list (pv 0) (pv 4) (fun _ _ => rfl)) (po_some (pv 2)) po_none) (Er.pg_step (pe_ix ix_list (pv 3) (pv 4) (fun _ _ => rfl)) (po_some pe_int) po_none (po_some pe_int))))))
      (pss_one (ps_ret (pv 3)))))), ?_⟩
    walk_at "rd"
    refine x_ixL hb (at_nat (by decide) e0) ?_
    walk_at "rd"
    rw [hl0, show ((m : Int) + 1) / 2 = (((m + 1) / 2 : Nat) : Int) by omega]
    have tn := tab_ne (n := n) (g := g) hm
    refine lc_lstC hb nbp (fun i acc H' => Cols H' acc ((tab n m g).take i) ∧ acc.length = i ∧ i ≤ n ∧ Ow.Refs acc ∧ acc.Nodup ∧ ∀ p, V.ref p ∈ acc → NF H p) (fun D _ => ⟨.nil, rfl, Nat.zero_le _, Ow.Refs.nil, List.nodup_nil, fun _ h => nomatch h⟩) (fun i acc y H D hd h => ⟨h.1.upd hd (fun v hv => h.2.2.2.1 v (List.mem_append_left _ hv)) (fun l hl => tn l (List.mem_of_mem_take hl)), h.2⟩) (fun i acc H h => ⟨h.1.nb, Nat.lt_of_le_of_lt (show _ ≤ 3 by omega) (by decide)⟩) (fun x => rfl) (fun i x acc H' hx e hI kk k1 => ?_) (fun t ys H2 e hp h2 hI => ?_)
    · obtain ⟨p, l, rfl, hl', hp⟩ := (hc.ex e).getV hx
      have hi := (List.getElem?_eq_some_iff.mp hx).1
      walk_at "rd"
      rename_i p2 H4 e4 f4 h4
      have fr : V.ref p2 ∉ acc := fun hm => by
        obtain ⟨j, hj⟩ := List.getElem?_of_mem hm
        obtain ⟨p', l', e', _, hp'⟩ := hI.1.getV hj
        cases e'
        rw [f4] at hp'
        cases hp'
      refine k1 _ _ e4 ⟨?_, by simp; omega, by omega, ?_, ?_, ?_⟩
      · rw [List.take_add_one, hl']
        exact (hI.1.ex e4).one h4
      · intro v hv
        rcases List.mem_append.mp hv with hv | hv
        · exact hI.2.2.2.1 v hv
        · exact ⟨p2, by simpa using hv⟩
      · exact List.nodup_append.mpr ⟨hI.2.2.2.2.1, by simp, fun x hx y hy e => by rw [List.mem_singleton.mp hy] at e; exact fr (e ▸ hx)⟩
      · intro q hq
        rcases List.mem_append.mp hq with hq | hq
        · exact hI.2.2.2.2.2 q hq
        · have : q = p2 := by simpa using hq
          rw [this]
          exact NF.new e f4
    · obtain ⟨ct, yl, _, yr, nd, nf⟩ := hI
      rw [hpl, List.take_of_length_le (by rw [tab_len]; exact Nat.le_refl _)] at ct
      rw [hpl] at yl
      walk_at "rd"
      rw [hpl]
      have c0 : tab n m (part n m g 0) = tab n m g := tab_congr fun r f _ _ f0 _ => if_neg (by omega)
      rw [← c0] at ct
      refine for_rng (m := (n : Int)) (by omega) (by omega) (fun i σ H' => ∃ v4 v5 : Option V, σ = [some (.ref b), some (.ref p), some (.int (((m + 1) / 2 : Nat) : Int)), some (.ref t), v4, v5] ∧ Ex H H' ∧ H' t = some (.lst ys) ∧ i ≤ n ∧ Cols H' ys (tab n m (part n m g i))) ⟨_, _, rfl, e, h2, Nat.zero_le _, ct⟩ (fun i σ H3 hi h => ?_) (fun σ H3 h => ?_)
      · obtain ⟨v4, v5, rfl, e3, ht, hin, c3⟩ := h
        have hin' : i < n := by omega
        obtain ⟨pi, ei, hpi⟩ := (hc.ex e3).get (tab_get hin')
        obtain ⟨pt, et, hpt⟩ := c3.get (tab_get hin')
        rw [part_col] at hpt
        have hb3 := e3.kp _ _ hb nbp
        have nbt := c3.nb
        have at1 : atI ps (i : Int) = some (.ref pi) := at_nat (by omega) (by rw [Int.toNat_natCast]; exact ei)
        have at2 : atI ys (i : Int) = some (.ref pt) := at_nat (by omega) (by rw [Int.toNat_natCast]; exact et)
        walk_at "rd"
        rename_i pa H4 e4 f4 h4
        rw [Ow.cut_take, ← List.map_take] at h4
        have hpt4 := e4.kp _ _ hpt NB.ints
        have ne4 : pt ≠ pa := ne_of_none hpt f4
        refine x_stepS hpt4 h4 ne4 (by decide) (by decide) (by rw [List.length_map, List.length_map, List.length_take, col_len, places_evens]; simp [steps]; omega) ?_
        rw [List.length_map, col_len, places_evens]
        have hpi4 := e4.kp _ _ hpi NB.ints
        have nei : pt ≠ pi := fun ee => by
          obtain ⟨pj, ej, hpj⟩ := hc.get (tab_get hin')
          have : pi = pj := by rw [ei] at ej; exact V.ref.inj (Option.some.inj ej)
          exact nf pt (List.mem_of_getElem? et) _ NB.ints (by rw [ee, this]; exact hpj)
        have net : pt ≠ t := ne_cols (H0 := H3) hpt ht c3.refs (col_ne hm)
        generalize hX : putV ((col m g i).map V.int) (steps 0 2 ((m + 1) / 2)) (((col m g i).take ((m + 1) / 2)).map V.int) = X
        have hXl : X.length = m := by rw [← hX, putV_length, List.length_map, col_len]
        have ex5 : Ex H (upd H4 pt (.lst X)) := Er.mutN (e3.trans e4) (nf pt (List.mem_of_getElem? et)) hpt4 NB.ints
        have hb5 : upd H4 pt (.lst X) b = some (.lst ps) := ex5.kp _ _ hb nbp
        have hpi5 : upd H4 pt (.lst X) pi = some (.lst ((col m g i).map V.int)) := by rw [upd_ne nei.symm]; exact hpi4
        have ht5 : upd H4 pt (.lst X) t = some (.lst ys) := by rw [upd_ne net.symm]; exact e4.kp _ _ ht nbt
        have hpt5 : upd H4 pt (.lst X) pt = some (.lst X) := upd_same
        have c5 := (c3.ex e4)
        generalize hH5 : upd H4 pt (.lst X) = H5 at ex5 hb5 hpi5 ht5 hpt5 ⊢
        walk_at "rd"
        rename_i pb H6 e6 f6 h6
        rw [Ow.cut_drop, ← List.map_drop] at h6
        obtain ⟨X', hX'⟩ : ∃ X' : List Int, X = X'.map V.int := by rw [← hX]; exact putV_ints _ _ _
        have nbX : NB (.lst X) := by rw [hX']; exact NB.ints
        have hpt6 := e6.kp _ _ hpt5 nbX
        have ne6 : pt ≠ pb := ne_of_none hpt5 f6
        refine x_stepS hpt6 h6 ne6 (by decide) (by decide) (by rw [List.length_map, List.length_drop, col_len, hXl, places_odds hm]; simp [steps]; omega) ?_
        rw [hXl, places_odds hm, ← hX, fill_put (n := n) hm]
        have ht6 := e6.kp _ _ ht5 nbt
        refine ⟨_, _, rfl, Er.mutN (ex5.trans e6) (nf pt (List.mem_of_getElem? et)) hpt6 nbX, by rw [upd_ne net.symm]; exact ht6, by omega, ?_⟩
        rw [← part_set hin']
        rw [← hH5] at e6
        exact (c5.setIn nd et).move e6
      · obtain ⟨v4, v5, rfl, e3, ht, hin, c3⟩ := h
        walk_at "rd"
        rw [Int.toNat_natCast] at c3
        have cn : tab n m (part n m g n) = tab n m (mvg .fill n m g) := tab_congr fun r f _ _ _ f1 => if_pos (by omega)
        rw [cn] at c3
        exact k t H3 e3 ⟨ys, ht, c3⟩
/-! calls, one behind another -/
/-- who stands where behind calls -/
def ledg (qs : List C) (n m : Nat) (g : Int → Int → Int) : Int → Int → Int := qs.foldl (fun g q => mvg q n m g) g
theorem ledg_snoc : ledg (qs ++ [q]) n m g = mvg q n m (ledg qs n m g) := by
  unfold ledg
  rw [List.foldl_append]
  rfl
theorem act (T : Txt K w mg a) (q : C) : ∃ (f : Addr) (W : C → Prop), PySem.W.nsIn K a.d_ACTIONS q.word = some (some (.ref f)) ∧ HeldK P w K mg base 2 f (sp_beh W) ∧ W q := by
  cases q with
  | all k => exact ⟨_, _, T.v_ACTIONS_all, ⟨_, _, _, by decide, ok_behind_all T, T.k_behind_all, T.b_behind_all⟩, ⟨_, rfl⟩⟩
  | up f k => exact ⟨_, _, T.v_ACTIONS_up, ⟨_, _, _, by decide, ok_behind_up T, T.k_behind_up, T.b_behind_up⟩, ⟨_, _, rfl⟩⟩
  | swap f g => exact ⟨_, _, T.v_ACTIONS_swap, ⟨_, _, _, by decide, ok_behind_swap T, T.k_behind_swap, T.b_behind_swap⟩, ⟨_, _, rfl⟩⟩
  | wheel f g k => exact ⟨_, _, T.v_ACTIONS_wheel, ⟨_, _, _, by decide, ok_behind_wheel T, T.k_behind_wheel, T.b_behind_wheel⟩, ⟨_, _, _, rfl⟩⟩
  | about => exact ⟨_, _, T.v_ACTIONS_about, ⟨_, _, _, by decide, ok_behind_about T, T.k_behind_about, T.b_behind_about⟩, rfl⟩
  | front f g => exact ⟨_, _, T.v_ACTIONS_front, ⟨_, _, _, by decide, ok_behind_front T, T.k_behind_front, T.b_behind_front⟩, ⟨_, _, rfl⟩⟩
  | halve => exact ⟨_, _, T.v_ACTIONS_halve, ⟨_, _, _, by decide, ok_behind_halve T, T.k_behind_halve, T.b_behind_halve⟩, rfl⟩
  | pair => exact ⟨_, _, T.v_ACTIONS_pair, ⟨_, _, _, by decide, ok_behind_pair T, T.k_behind_pair, T.b_behind_pair⟩, rfl⟩
  | others => exact ⟨_, _, T.v_ACTIONS_others, ⟨_, _, _, by decide, ok_behind_others T, T.k_behind_others, T.b_behind_others⟩, rfl⟩
  | fill => exact ⟨_, _, T.v_ACTIONS_fill, ⟨_, _, _, by decide, ok_behind_fill T, T.k_behind_fill, T.b_behind_fill⟩, rfl⟩
theorem word_at : atI q.vals 0 = some (.str q.word) := by cases q <;> rfl
def sp_columns_led : Sp := fun vs H Q _ => ∃ (b c : Addr) (xs : List V) (qs : List C) (n m : Nat) (g : Int → Int → Int), vs = [.ref b, .ref c] ∧ H c = some (.lst xs) ∧ Cls H xs qs ∧ (∀ q ∈ qs, q.ok n) ∧ Sz n m ∧ ColsAt H b (tab n m g) ∧ ∀ t H1, Ex H H1 → ColsAt H1 t (tab n m (ledg qs n m g)) → Q (.ref t) H1
theorem u_columns_led (hc : H c = some (.lst xs)) (hcl : Cls H xs qs) (ho : ∀ q ∈ qs, q.ok n) (hz : Sz n m) (hb : ColsAt H b (tab n m g)) (k : ∀ t H1, Ex H H1 → ColsAt H1 t (tab n m (ledg qs n m g)) → Q (.ref t) H1) : sp_columns_led [.ref b, .ref c] H Q E := ⟨b, c, xs, qs, n, m, g, rfl, hc, hcl, ho, hz, hb, k⟩
theorem ok_columns_led (T : Txt K w mg a) : FnOk P w K mg base CX0 3 a.a_columns_led a.fd_columns_led ["columns", "calls"] sp_columns_led := by
  refine T.F_columns_led.ok sc_columns_led (fun vs H Q E h => ?_) (fun cdv A outer s H vs Q E hr h => ?_)
  · obtain ⟨b, c, xs, qs, n, m, g, rfl, _⟩ := h; rfl
  · obtain ⟨b, c, xs, qs, n, m, g, rfl, hc, hcl, ho, hz, hb, k⟩ := h
    have nbx := hcl.nb
    have D := T.d_ACTIONS
    refine ⟨_, (pss_cons (ps_for PassesOwn.never rfl (pi_list (pv 1)) (pg_name (i := 2) sc_columns_led.nd rfl (Or.inl rfl)) (pss_cons (ps_set (i := 3) sc_columns_led.nd rfl (Or.inl rfl) (pe_ix ix_kdict (pe_glob (v := .ref a.d_ACTIONS) (by rfl) T.g_ACTIONS rfl) (pe_ix ix_tup (pv 2) pe_int (fun _ _ => rfl)) (fun _ _ => rfl)))
      (pss_one (ps_set (i := 0) sc_columns_led.nd rfl (Or.inl rfl) (Er.pe_callH (k := 2) (i := 3) (hr.mono (by decide)) rfl (.inl rfl) (pa_cons (pv 0) (pa_cons (pv 2) pa_nil)))))))
      (pss_one (ps_ret (pv 0)))), ?_⟩
    walk_at "rd"
    refine for_lst (xs := xs) hc (fun i σ H' => ∃ (ci : Addr) (v2 v3 : Option V), σ = [some (.ref ci), some (.ref c), v2, v3] ∧ Ex H H' ∧ ColsAt H' ci (tab n m (ledg (qs.take i) n m g))) ⟨b, _, _, rfl, Ex.refl _, hb⟩ (fun i σ H' _ h => ?_) (fun i x σ H' hx h => ?_) (fun σ H' h => ?_)
    · obtain ⟨_, _, _, _, e, _⟩ := h
      exact e.kp _ _ hc nbx
    · obtain ⟨ci, v2, v3, rfl, e, hci⟩ := h
      obtain ⟨p, q, rfl, hq, hp⟩ := (hcl.ex e).get hx
      obtain ⟨f, W, hns, hh, hw⟩ := act (P := P) (base := base) T q
      walk_at "rd"
      refine x_ixT hp word_at ?_
      walk_at "rd"
      refine x_ixDr D hns ?_
      walk_at "rd"
      refine x_callH (sp_beh W) rfl hh ?_
      walk_at "rd"
      refine u_beh hp hw (ho q (List.mem_of_getElem? hq)) hz hci fun t H3 e3 h3 => ?_
      walk_at "rd"
      refine ⟨t, _, _, rfl, e.trans e3, ?_⟩
      rw [List.take_add_one, hq, show (some q).toList = [q] from rfl, ledg_snoc]
      exact h3
    · obtain ⟨ci, v2, v3, rfl, e, hci⟩ := h
      walk_at "rd"
      rw [hcl.len, List.take_of_length_le (Nat.le_refl _)] at hci
      exact k ci H' e hci
/-! the first columns -/
def num0 (n : Nat) : Int → Int → Int := fun r f => r * n + f
def sp_first_columns : Sp := fun vs H Q _ => ∃ (n m : Nat), vs = [.int (n : Int), .int (m : Int)] ∧ Sz n m ∧ ∀ t H1, Ex H H1 → ColsAt H1 t (tab n m (num0 n)) → Q (.ref t) H1
theorem u_first_columns (hz : Sz n m) (k : ∀ t H1, Ex H H1 → ColsAt H1 t (tab n m (num0 n)) → Q (.ref t) H1) : sp_first_columns [.int (n : Int), .int (m : Int)] H Q E := ⟨n, m, rfl, hz, k⟩
theorem ok_first_columns (T : Txt K w mg a) : FnOk P w K mg base CX0 2 a.a_first_columns a.fd_first_columns ["files", "rows"] sp_first_columns := by
  refine T.F_first_columns.ok sc_first_columns (fun vs H Q E h => ?_) (fun cdv A outer s H vs Q E hr h => ?_)
  · obtain ⟨n, m, rfl, _⟩ := h; rfl
  · obtain ⟨n, m, rfl, hz, k⟩ := h
    have G_columns_of := ok_columns_of (P := P) (base := base) T
    have hnm := hz.lt
    have hz0 := hz
    obtain ⟨hn, hm, hm1⟩ := hz
    refine ⟨_, (pss_one (ps_ret (pe_call G_columns_of (hr.mono (by decide)) (by rfl) T.m_columns_of T.k_columns_of T.b_columns_of .nil pass0 (pa_cons (pe_listRg rfl (by rfl) T.n_list (prg_1 (by rfl) T.n_range (pe_op op_mul (pv 0) (pv 1)))) (pa_cons (pv 0) pa_nil))))), ?_⟩
    walk_at "rd"
    rw [← Int.natCast_mul]
    refine ⟨RgOk.of_le (by omega) (by omega) (by omega) (by omega), x_new fun t H1 e1 f1 h1 => ?_⟩
    have er : rgV 0 ((n * m : Nat) : Int) = ((List.range (n * m)).map fun i : Nat => (fun i : Int => i) i).map V.int := by
      unfold rgV
      rw [List.map_map, Int.sub_zero, Int.toNat_natCast]
      refine List.map_congr_left fun i _ => ?_
      show V.int (0 + (i : Int)) = V.int (i : Int)
      rw [Int.zero_add]
    rw [er] at h1
    walk_at "rd"
    exact u_columns_of (h := fun i => i) hz0 h1 fun t H3 e3 h3 => k t H3 (e1.trans e3) h3
end
end My

set_option Elab.async false
set_option linter.all false
set_option maxRecDepth 100000
set_option maxHeartbeats 8000000
namespace My
open PySem PySem.Spec PyProof.Rows L2 Sx
local macro_rules | `(tactic| walk_at "nb") => `(tactic| first | exact NB.tup | exact NB.ints | exact NB.len (of_decide_eq_true rfl) | exact NB.at0b rfl | exact NB.at3b rfl | exact NB.ins | exact NB.own | exact NB.frz | exact NB.refs (by assumption) | assumption)
local macro_rules | `(tactic| walk_at "ne") => `(tactic| first | assumption | exact Ne.symm (by assumption) | exact ne_of_none (by assumption) (by assumption) | exact Ne.symm (ne_of_none (by assumption) (by assumption)))
local macro_rules | `(tactic| walk_at "hk") => `(tactic| first
  | assumption
  | exact upd_same
  | (refine' (upd_ne ?hkne).trans ?hkq; (case hkne => walk_at "ne"); (case hkq => walk_at "hk"))
  | (refine' Ex.kp (by assumption) _ _ ?hkq ?hkn; (case hkq => walk_at "hk"); (case hkn => walk_at "nb")))
local macro_rules | `(tactic| walk_at "rd1") => `(tactic| first
  | ((with_reducible refine' x_var ?hx ?_); (case hx => exact rfl))
  | with_reducible refine x_c ?_
  | with_reducible refine x_op ?_
  | with_reducible refine x_un ?_
  | with_reducible refine x_I0 ?_
  | with_reducible refine x_U ?_
  | ((with_reducible refine x_I ?hc ?_); (case hc => first | exact (by decide : (0 : Int) < _) | (show (0 : Int) < _; omega) | (show CMul _ _; first | exact .inl ⟨by omega, by omega⟩ | exact .inr ⟨by omega, by omega⟩) | (show CDiv _ _; exact ⟨by omega, by omega⟩) | (show CDivW _ _; exact wide_div (b := 200) (by omega) (by assumption) (by decide) (by decide)) | (show CDivW _ _; exact wide_div (b := 31) (by omega) (by omega) (by decide) (by decide))))
  | with_reducible refine x_EqI ?_
  | with_reducible refine x_NeI ?_
  | ((with_reducible refine x_EqSt ?h ?_); (case h => decide +kernel))
  | ((with_reducible refine x_EqSf ?h ?_); (case h => decide +kernel))
  | ((with_reducible refine x_NeSt ?h ?_); (case h => decide +kernel))
  | ((with_reducible refine x_NeSf ?h ?_); (case h => decide +kernel))
  | with_reducible refine x_EqS ?_
  | with_reducible refine x_NeS ?_
  | ((with_reducible refine' x_ixL ?hq ?hi ?_); (case hq => walk_at "hk"); (case hi => first | exact rfl | assumption))
  | ((with_reducible refine' x_ixT ?hq ?hi ?_); (case hq => walk_at "hk"); (case hi => first | exact rfl | assumption))
  | with_reducible refine x_chain ?_
  | with_reducible refine x_tup ?_
  | with_reducible refine x_lst ?_
  | ((with_reducible refine x_lenNew ?hl ?_); (case hl => exact Nat.le_of_ble_eq_true rfl); intro _ _ _ _ _)
  | ((with_reducible refine x_new ?_); intro _ _ _ _ _)
  | with_reducible refine x_sl ?_
  | with_reducible refine x_noPart ?_
  | with_reducible refine x_part ?_
  | with_reducible refine x_ex_int ?_
  | with_reducible refine x_ex_bl ?_
  | with_reducible refine x_ex_2 ?_
  | with_reducible refine x_test ?_
  | with_reducible refine x_B ?_
  | with_reducible refine x_and ?_
  | with_reducible refine x_or ?_
  | with_reducible refine x_not ?_
  | with_reducible refine x_andV ?_
  | with_reducible refine x_orV ?_
  | with_reducible refine x_notV ?_
  | with_reducible refine x_ifE ?_
  | with_reducible refine x_iteT ?_
  | with_reducible refine x_iteF ?_
  | ((with_reducible refine x_iteD ?_ ?_) <;> intro _)
  | ((with_reducible refine x_iteN ?_ ?_) <;> intro _)
  | with_reducible refine x_if ?_
  | with_reducible refine x_seq ?_
  | with_reducible refine x_next ?_
  | with_reducible refine x_asg ?_
  | with_reducible refine x_gName ?_
  | ((with_reducible refine' x_gTup ?hq ?hn ?_); (case hq => walk_at "hk"); (case hn => exact rfl))
  | with_reducible refine x_gCons ?_
  | with_reducible refine x_gNil ?_
  | ((with_reducible refine' x_gConsE ?h ?_); (case h => exact rfl))
  | ((with_reducible refine x_gNilE ?h ?_); (case h => exact rfl))
  | with_reducible refine x_ret ?_
  | with_reducible refine x_drop ?_
  | with_reducible refine x_par ?_
  | ((with_reducible refine' x_aug ?hx ?_); (case hx => exact rfl))
  | with_reducible refine x_ipI ?_
  | with_reducible refine x_augS ?_
  | with_reducible refine x_gSub ?_
  | ((with_reducible refine' x_setL ?hq ?hi ?_); (case hq => walk_at "hk"); (case hi => first | exact rfl | assumption))
  | with_reducible refine x_cons ?_
  | with_reducible refine x_nil ?_
  | with_reducible refine x_CB ?_
  | with_reducible refine x_abs ?_
  | with_reducible refine x_intI ?_
  | with_reducible refine x_intB ?_
  | ((with_reducible refine' x_lenL ?hq ?_); (case hq => walk_at "hk"))
  | ((with_reducible refine' x_lenT ?hq ?_); (case hq => walk_at "hk"))
  | ((with_reducible refine x_iteTe ?h ?_); (case h => exact rfl))
  | ((with_reducible refine x_iteFe ?h ?_); (case h => exact rfl))
  | walk_at "use"
  | with_reducible refine x_callS ?_
  | ((with_reducible refine x_lc ?_))
  | ((with_reducible refine x_for ?_))
  | ((with_reducible refine x_iR1 ?_))
  | ((with_reducible refine x_iL ?_))
  | ((with_reducible refine x_iZ ?_))
  | ((with_reducible refine x_yes ?_))
  | ((with_reducible refine' x_NIDt ?hq ?_); (case hq => assumption))
  | ((with_reducible refine' x_NIDf ?hq ?_); (case hq => assumption))
  | ((with_reducible refine' x_IIDf ?hq ?_); (case hq => assumption))
  | ((with_reducible refine' x_IIDt ?hq ?_); (case hq => assumption))
  | ((with_reducible refine' x_ixDs ?hd ?hq ?_); (case hd => assumption); (case hq => assumption))
  | ((with_reducible refine x_InSt ?h ?_); (case h => decide +kernel))
  | ((with_reducible refine x_InSf ?h ?_); (case h => decide +kernel))
  | ((with_reducible refine' x_notInI ?hq ?_); (case hq => walk_at "hk"))
  | ((with_reducible refine' x_inTt ?hq ?hv ?ha ?he ?_); (case hq => walk_at "hk"); (case hv => exact rfl); (case ha => exact rfl); (case he => decide +kernel))
  | ((with_reducible refine' x_inTf ?hq ?hv ?ha ?he ?_); (case hq => walk_at "hk"); (case hv => exact rfl); (case ha => exact rfl); (case he => decide +kernel))
  | ((with_reducible refine' x_slT ?hq ?hw ?_); (case hq => walk_at "hk"); (case hw => with_unfolding_all exact of_decide_eq_true rfl))
  | ((with_reducible refine' x_slL ?hq ?_); (case hq => walk_at "hk"))
  | ((with_reducible refine' x_catT ?hq ?hr ?n1 ?n2 ?hl ?_); (case hq => walk_at "hk"); (case hr => walk_at "hk"); (case n1 => exact List.cons_ne_nil _ _); (case n2 => exact List.cons_ne_nil _ _); (case hl => exact Nat.le_of_ble_eq_true rfl))
  | ((with_reducible refine x_bm ?_))
  | ((with_reducible refine x_lstRg ?_))
  | ((with_reducible refine x_rg1 ?_))
  | ((with_reducible refine And.intro ?h ?_); (case h => exact tyL (by assumption)))
  | dsimp only)
local macro_rules | `(tactic| walk_at "use") => `(tactic| fail)
local macro_rules | `(tactic| walk_at "rd") => `(tactic| repeat' (walk_at "rd1"))
local macro_rules | `(tactic| walk_at "ex") => `(tactic| first | exact Ex.refl _ | assumption | (refine' Ex.trans ?he (by assumption); (case he => walk_at "ex")))
local macro_rules | `(tactic| walk_at "rd1") => `(tactic| first
  | ((with_reducible refine x_iteDf ?h ?_); (case h => exact rfl))
  | ((with_reducible refine x_iteDt ?h ?_); (case h => exact rfl))
  | ((with_reducible refine x_iteNf ?h ?_); (case h => exact rfl))
  | ((with_reducible refine x_iteNt ?h ?_); (case h => exact rfl))
  | ((with_reducible refine x_isiI (r := true) ?h ?_); (case h => decide +kernel))
  | ((with_reducible refine x_isiI (r := false) ?h ?_); (case h => decide +kernel))
  | ((with_reducible refine x_isiS (r := true) ?h ?_); (case h => decide +kernel))
  | ((with_reducible refine x_isiS (r := false) ?h ?_); (case h => decide +kernel))
  | ((with_reducible refine x_isiB (r := true) ?h ?_); (case h => decide +kernel))
  | ((with_reducible refine x_isiB (r := false) ?h ?_); (case h => decide +kernel))
  | ((with_reducible refine' x_isiT (r := true) ?hp ?h ?_); (case hp => walk_at "hk"); (case h => decide +kernel))
  | ((with_reducible refine' x_isiT (r := false) ?hp ?h ?_); (case hp => walk_at "hk"); (case h => decide +kernel))
  | ((with_reducible refine' x_isiL (r := true) ?hp ?h ?_); (case hp => walk_at "hk"); (case h => decide +kernel))
  | ((with_reducible refine' x_isiL (r := false) ?hp ?h ?_); (case hp => walk_at "hk"); (case h => decide +kernel))
  | ((with_reducible refine' x_isi2L ?hp ?hl ?_); (case hp => walk_at "hk"); (case hl => walk_at "hk"))
  | ((with_reducible refine' x_isi2T ?hp ?hl ?_); (case hp => walk_at "hk"); (case hl => walk_at "hk"))
  | ((with_reducible refine' x_tupOfL ?hq ?_); (case hq => walk_at "hk"))
  | ((with_reducible refine' x_tupOfT ?hq ?_); (case hq => walk_at "hk"))
  | ((with_reducible refine x_lenS ?h ?_); (case h => exact Nat.le_of_ble_eq_true rfl))
  | ((with_reducible refine' x_all ?hq ?_); (case hq => walk_at "hk"))
  | with_reducible refine x_lenSet ?_)
local macro_rules | `(tactic| walk_at "rd1") => `(tactic| first
  | with_reducible refine Er.x_iR2 ?_
  | with_reducible refine Er.x_iEn ?_
  | with_reducible refine Er.x_cont ?_
  | ((with_reducible refine Er.x_isBt ?h ?_); (case h => exact rfl))
  | ((with_reducible refine Er.x_isBf ?h ?_); (case h => exact rfl))
  | ((with_reducible refine Er.x_isNBt ?h ?_); (case h => exact rfl))
  | ((with_reducible refine Er.x_isNBf ?h ?_); (case h => exact rfl))
  | with_reducible refine Er.x_isB ?_
  | with_reducible refine Er.x_isNB ?_)

open Cl
section
variable {q : C} {qs us : List C} {n m : Nat} {g : Int → Int → Int} {r f : Int}
/-- who stands where behind what undoes calls: whoever stood where they lead -/
theorem ledg_led (h : ∀ q ∈ qs, q.ok n) {x : Int × Int} (hx : onLine n m x) : ledg (qs.reverse.map C.turned) n m g x.1 x.2 = g (led qs n m x).1 (led qs n m x).2 := by
  induction qs generalizing x with
  | nil => rfl
  | cons q qs ih =>
    rw [List.reverse_cons, List.map_append, List.map_cons, List.map_nil, ledg_snoc]
    show ledg (qs.reverse.map C.turned) n m g (mv q.turned.turned n m x.1 x.2).1 (mv q.turned.turned n m x.1 x.2).2 = _
    rw [C.turned2]
    exact ih (fun z hz => h z (.tail _ hz)) (mv_range (h q (.head _)) hx.1 hx.2)
theorem on_at {i : Nat} (hn : 0 < n) (hi : i < n * m) : onLine n m ((i : Int) / n, (i : Int) % n) := by
  have hd : i / n < m := Nat.div_lt_of_lt_mul hi
  have hm : i % n < n := Nat.mod_lt _ hn
  have e1 : (i : Int) / n = ((i / n : Nat) : Int) := by simp
  have e2 : (i : Int) % n = ((i % n : Nat) : Int) := by simp
  rw [e1, e2]
  exact ⟨⟨Int.natCast_nonneg _, Int.ofNat_lt.mpr hd⟩, ⟨Int.natCast_nonneg _, Int.ofNat_lt.mpr hm⟩⟩
theorem ord_same (hn : 0 < n) (h1 : ∀ q ∈ qs, q.ok n) (h2 : ∀ q ∈ us, q.ok n) (h : ∀ x, onLine n m x → led qs n m x = led us n m x) : ord n m (ledg (qs.reverse.map C.turned) n m g) = ord n m (ledg (us.reverse.map C.turned) n m g) := by
  refine List.map_congr_left fun i hi => ?_
  have on := on_at hn (List.mem_range.mp hi)
  rw [ledg_led h1 on, ledg_led h2 on, h _ on]
end
end My

set_option Elab.async false
set_option linter.all false
set_option maxRecDepth 100000
set_option maxHeartbeats 8000000
namespace My
open PySem PySem.Spec PyProof.Rows L2 Sx
local macro_rules | `(tactic| walk_at "nb") => `(tactic| first | exact NB.tup | exact NB.ints | exact NB.len (of_decide_eq_true rfl) | exact NB.at0b rfl | exact NB.at3b rfl | exact NB.ins | exact NB.own | exact NB.frz | exact NB.refs (by assumption) | assumption)
local macro_rules | `(tactic| walk_at "ne") => `(tactic| first | assumption | exact Ne.symm (by assumption) | exact ne_of_none (by assumption) (by assumption) | exact Ne.symm (ne_of_none (by assumption) (by assumption)))
local macro_rules | `(tactic| walk_at "hk") => `(tactic| first
  | assumption
  | exact upd_same
  | (refine' (upd_ne ?hkne).trans ?hkq; (case hkne => walk_at "ne"); (case hkq => walk_at "hk"))
  | (refine' Ex.kp (by assumption) _ _ ?hkq ?hkn; (case hkq => walk_at "hk"); (case hkn => walk_at "nb")))
local macro_rules | `(tactic| walk_at "rd1") => `(tactic| first
  | ((with_reducible refine' x_var ?hx ?_); (case hx => exact rfl))
  | with_reducible refine x_c ?_
  | with_reducible refine x_op ?_
  | with_reducible refine x_un ?_
  | with_reducible refine x_I0 ?_
  | with_reducible refine x_U ?_
  | ((with_reducible refine x_I ?hc ?_); (case hc => first | exact (by decide : (0 : Int) < _) | (show (0 : Int) < _; omega) | (show CMul _ _; first | exact .inl ⟨by omega, by omega⟩ | exact .inr ⟨by omega, by omega⟩) | (show CDiv _ _; exact ⟨by omega, by omega⟩) | (show CDivW _ _; exact wide_div (b := 200) (by omega) (by assumption) (by decide) (by decide)) | (show CDivW _ _; exact wide_div (b := 31) (by omega) (by omega) (by decide) (by decide))))
  | with_reducible refine x_EqI ?_
  | with_reducible refine x_NeI ?_
  | ((with_reducible refine x_EqSt ?h ?_); (case h => decide +kernel))
  | ((with_reducible refine x_EqSf ?h ?_); (case h => decide +kernel))
  | ((with_reducible refine x_NeSt ?h ?_); (case h => decide +kernel))
  | ((with_reducible refine x_NeSf ?h ?_); (case h => decide +kernel))
  | with_reducible refine x_EqS ?_
  | with_reducible refine x_NeS ?_
  | ((with_reducible refine' x_ixL ?hq ?hi ?_); (case hq => walk_at "hk"); (case hi => first | exact rfl | assumption))
  | ((with_reducible refine' x_ixT ?hq ?hi ?_); (case hq => walk_at "hk"); (case hi => first | exact rfl | assumption))
  | with_reducible refine x_chain ?_
  | with_reducible refine x_tup ?_
  | with_reducible refine x_lst ?_
  | ((with_reducible refine x_lenNew ?hl ?_); (case hl => exact Nat.le_of_ble_eq_true rfl); intro _ _ _ _ _)
  | ((with_reducible refine x_new ?_); intro _ _ _ _ _)
  | with_reducible refine x_sl ?_
  | with_reducible refine x_noPart ?_
  | with_reducible refine x_part ?_
  | with_reducible refine x_ex_int ?_
  | with_reducible refine x_ex_bl ?_
  | with_reducible refine x_ex_2 ?_
  | with_reducible refine x_test ?_
  | with_reducible refine x_B ?_
  | with_reducible refine x_and ?_
  | with_reducible refine x_or ?_
  | with_reducible refine x_not ?_
  | with_reducible refine x_andV ?_
  | with_reducible refine x_orV ?_
  | with_reducible refine x_notV ?_
  | with_reducible refine x_ifE ?_
  | with_reducible refine x_iteT ?_
  | with_reducible refine x_iteF ?_
  | ((with_reducible refine x_iteD ?_ ?_) <;> intro _)
  | ((with_reducible refine x_iteN ?_ ?_) <;> intro _)
  | with_reducible refine x_if ?_
  | with_reducible refine x_seq ?_
  | with_reducible refine x_next ?_
  | with_reducible refine x_asg ?_
  | with_reducible refine x_gName ?_
  | ((with_reducible refine' x_gTup ?hq ?hn ?_); (case hq => walk_at "hk"); (case hn => exact rfl))
  | with_reducible refine x_gCons ?_
  | with_reducible refine x_gNil ?_
  | ((with_reducible refine' x_gConsE ?h ?_); (case h => exact rfl))
  | ((with_reducible refine x_gNilE ?h ?_); (case h => exact rfl))
  | with_reducible refine x_ret ?_
  | with_reducible refine x_drop ?_
  | with_reducible refine x_par ?_
  | ((with_reducible refine' x_aug ?hx ?_); (case hx => exact rfl))
  | with_reducible refine x_ipI ?_
  | with_reducible refine x_augS ?_
  | with_reducible refine x_gSub ?_
  | ((with_reducible refine' x_setL ?hq ?hi ?_); (case hq => walk_at "hk"); (case hi => first | exact rfl | assumption))
  | with_reducible refine x_cons ?_
  | with_reducible refine x_nil ?_
  | with_reducible refine x_CB ?_
  | with_reducible refine x_abs ?_
  | with_reducible refine x_intI ?_
  | with_reducible refine x_intB ?_
  | ((with_reducible refine' x_lenL ?hq ?_); (case hq => walk_at "hk"))
  | ((with_reducible refine' x_lenT ?hq ?_); (case hq => walk_at "hk"))
  | ((with_reducible refine x_iteTe ?h ?_); (case h => exact rfl))
  | ((with_reducible refine x_iteFe ?h ?_); (case h => exact rfl))
  | walk_at "use"
  | with_reducible refine x_callS ?_
  | ((with_reducible refine x_lc ?_))
  | ((with_reducible refine x_for ?_))
  | ((with_reducible refine x_iR1 ?_))
  | ((with_reducible refine x_iL ?_))
  | ((with_reducible refine x_iZ ?_))
  | ((with_reducible refine x_yes ?_))
  | ((with_reducible refine' x_NIDt ?hq ?_); (case hq => assumption))
  | ((with_reducible refine' x_NIDf ?hq ?_); (case hq => assumption))
  | ((with_reducible refine' x_IIDf ?hq ?_); (case hq => assumption))
  | ((with_reducible refine' x_IIDt ?hq ?_); (case hq => assumption))
  | ((with_reducible refine' x_ixDs ?hd ?hq ?_); (case hd => assumption); (case hq => assumption))
  | ((with_reducible refine x_InSt ?h ?_); (case h => decide +kernel))
  | ((with_reducible refine x_InSf ?h ?_); (case h => decide +kernel))
  | ((with_reducible refine' x_notInI ?hq ?_); (case hq => walk_at "hk"))
  | ((with_reducible refine' x_inTt ?hq ?hv ?ha ?he ?_); (case hq => walk_at "hk"); (case hv => exact rfl); (case ha => exact rfl); (case he => decide +kernel))
  | ((with_reducible refine' x_inTf ?hq ?hv ?ha ?he ?_); (case hq => walk_at "hk"); (case hv => exact rfl); (case ha => exact rfl); (case he => decide +kernel))
  | ((with_reducible refine' x_slT ?hq ?hw ?_); (case hq => walk_at "hk"); (case hw => with_unfolding_all exact of_decide_eq_true rfl))
  | ((with_reducible refine' x_slL ?hq ?_); (case hq => walk_at "hk"))
  | ((with_reducible refine' x_catT ?hq ?hr ?n1 ?n2 ?hl ?_); (case hq => walk_at "hk"); (case hr => walk_at "hk"); (case n1 => exact List.cons_ne_nil _ _); (case n2 => exact List.cons_ne_nil _ _); (case hl => exact Nat.le_of_ble_eq_true rfl))
  | ((with_reducible refine x_bm ?_))
  | ((with_reducible refine x_lstRg ?_))
  | ((with_reducible refine x_rg1 ?_))
  | ((with_reducible refine And.intro ?h ?_); (case h => exact tyL (by assumption)))
  | dsimp only)
local macro_rules | `(tactic| walk_at "use") => `(tactic| fail)
local macro_rules | `(tactic| walk_at "rd") => `(tactic| repeat' (walk_at "rd1"))
local macro_rules | `(tactic| walk_at "ex") => `(tactic| first | exact Ex.refl _ | assumption | (refine' Ex.trans ?he (by assumption); (case he => walk_at "ex")))
local macro_rules | `(tactic| walk_at "rd1") => `(tactic| first
  | ((with_reducible refine x_iteDf ?h ?_); (case h => exact rfl))
  | ((with_reducible refine x_iteDt ?h ?_); (case h => exact rfl))
  | ((with_reducible refine x_iteNf ?h ?_); (case h => exact rfl))
  | ((with_reducible refine x_iteNt ?h ?_); (case h => exact rfl))
  | ((with_reducible refine x_isiI (r := true) ?h ?_); (case h => decide +kernel))
  | ((with_reducible refine x_isiI (r := false) ?h ?_); (case h => decide +kernel))
  | ((with_reducible refine x_isiS (r := true) ?h ?_); (case h => decide +kernel))
  | ((with_reducible refine x_isiS (r := false) ?h ?_); (case h => decide +kernel))
  | ((with_reducible refine x_isiB (r := true) ?h ?_); (case h => decide +kernel))
  | ((with_reducible refine x_isiB (r := false) ?h ?_); (case h => decide +kernel))
  | ((with_reducible refine' x_isiT (r := true) ?hp ?h ?_); (case hp => walk_at "hk"); (case h => decide +kernel))
  | ((with_reducible refine' x_isiT (r := false) ?hp ?h ?_); (case hp => walk_at "hk"); (case h => decide +kernel))
  | ((with_reducible refine' x_isiL (r := true) ?hp ?h ?_); (case hp => walk_at "hk"); (case h => decide +kernel))
  | ((with_reducible refine' x_isiL (r := false) ?hp ?h ?_); (case hp => walk_at "hk"); (case h => decide +kernel))
  | ((with_reducible refine' x_isi2L ?hp ?hl ?_); (case hp => walk_at "hk"); (case hl => walk_at "hk"))
  | ((with_reducible refine' x_isi2T ?hp ?hl ?_); (case hp => walk_at "hk"); (case hl => walk_at "hk"))
  | ((with_reducible refine' x_tupOfL ?hq ?_); (case hq => walk_at "hk"))
  | ((with_reducible refine' x_tupOfT ?hq ?_); (case hq => walk_at "hk"))
  | ((with_reducible refine x_lenS ?h ?_); (case h => exact Nat.le_of_ble_eq_true rfl))
  | ((with_reducible refine' x_all ?hq ?_); (case hq => walk_at "hk"))
  | with_reducible refine x_lenSet ?_)
local macro_rules | `(tactic| walk_at "rd1") => `(tactic| first
  | with_reducible refine Er.x_iR2 ?_
  | with_reducible refine Er.x_iEn ?_
  | with_reducible refine Er.x_cont ?_
  | ((with_reducible refine Er.x_isBt ?h ?_); (case h => exact rfl))
  | ((with_reducible refine Er.x_isBf ?h ?_); (case h => exact rfl))
  | ((with_reducible refine Er.x_isNBt ?h ?_); (case h => exact rfl))
  | ((with_reducible refine Er.x_isNBf ?h ?_); (case h => exact rfl))
  | with_reducible refine Er.x_isB ?_
  | with_reducible refine Er.x_isNB ?_)

open Cl
section
variable {q : C} {qs us : List C} {n m : Nat} {g g' : Int → Int → Int} {r f : Int}
theorem ord_congr (hn : 0 < n) (h : ∀ x, onLine n m x → g x.1 x.2 = g' x.1 x.2) : ord n m g = ord n m g' :=
  List.map_congr_left fun i hi => h _ (on_at hn (List.mem_range.mp hi))
/-- led and then led back -/
theorem led_app {x : Int × Int} {fs rs : Int} : led (qs ++ us) fs rs x = led us fs rs (led qs fs rs x) := by
  unfold led
  rw [List.foldl_append]
theorem ok_rev {fs : Int} (h : ∀ q ∈ qs, q.ok fs) : ∀ q ∈ qs.reverse.map C.turned, q.ok fs := fun q hq => by
  obtain ⟨q', hq', rfl⟩ := List.mem_map.mp hq
  exact (h q' (List.mem_reverse.mp hq')).turned
theorem led_back {fs rs : Int} (h : ∀ q ∈ qs, q.ok fs) {x : Int × Int} (hx : onLine fs rs x) : led (qs.reverse.map C.turned) fs rs (led qs fs rs x) = x := by
  induction qs generalizing x with
  | nil => rfl
  | cons q qs ih =>
    rw [List.reverse_cons, List.map_append, led_app]
    show led [q.turned] fs rs (led (qs.reverse.map C.turned) fs rs (led qs fs rs (mv q fs rs x.1 x.2))) = x
    rw [ih (fun z hz => h z (.tail _ hz)) (mv_range (h q (.head _)) hx.1 hx.2)]
    exact mv_back (h q (.head _)) hx.1 hx.2
theorem rev_rev : (qs.reverse.map C.turned).reverse.map C.turned = qs := by
  rw [← List.map_reverse, List.reverse_reverse, List.map_map]
  rw [show (C.turned ∘ C.turned) = id from funext fun q => C.turned2, List.map_id]
/-- the numbers of the places to which calls lead -/
def goalsL (n m : Nat) (qs : List C) : List Int := ord n m fun r f => num0 n (led qs n m (r, f)).1 (led qs n m (r, f)).2
theorem moves_goals (hn : 0 < n) (h : ∀ q ∈ qs, q.ok n) : ord n m (ledg (qs.reverse.map C.turned) n m (num0 n)) = goalsL n m qs := ord_congr hn fun x hx => ledg_led h hx
theorem goals_len : (goalsL n m qs).length = n * m := ord_len ..
/-- a number and its place -/
theorem num_at (hn : 0 < n) {x : Int × Int} (hx : onLine n m x) : ∃ i : Nat, num0 n x.1 x.2 = i ∧ i < n * m ∧ (i : Int) / n = x.1 ∧ (i : Int) % n = x.2 := by
  have nr := num_range hx.1 hx.2
  refine ⟨(x.1 * n + x.2).toNat, ?_, ?_, ?_, ?_⟩
  · show x.1 * n + x.2 = _; omega
  · have e : (m : Int) * n = ((n * m : Nat) : Int) := by rw [Int.mul_comm]; simp
    omega
  · rw [Int.toNat_of_nonneg nr.1]; exact ediv_of hx.2
  · rw [Int.toNat_of_nonneg nr.1]; exact emod_of hx.2
theorem goal_at (hn : 0 < n) (h : ∀ q ∈ qs, q.ok n) {i : Nat} (hi : i < n * m) : ∃ j : Nat, (goalsL n m qs)[i]? = some (j : Int) ∧ j < n * m ∧ ((j : Int) / n, (j : Int) % n) = led qs n m ((i : Int) / n, (i : Int) % n) := by
  have on := led_range h (on_at hn hi)
  obtain ⟨j, h1, h2, h3, h4⟩ := num_at hn on
  refine ⟨j, ?_, h2, by rw [h3, h4]⟩
  unfold goalsL
  rw [ord_get hi, h1]
/-- what stands at the goals of another list, led back -/
theorem at_goal (hn : 0 < n) (h : ∀ q ∈ qs, q.ok n) {i j : Nat} (hi : i < n * m) (hj : (goalsL n m qs)[i]? = some (j : Int)) : (ord n m (ledg qs n m (num0 n)))[j]? = some (i : Int) ∧ (goalsL n m (qs.reverse.map C.turned))[j]? = some (i : Int) := by
  obtain ⟨k, e1, e2, e3⟩ := goal_at hn h hi
  have ek : k = j := by rw [e1] at hj; have := Option.some.inj hj; omega
  subst ek
  have hb : led (qs.reverse.map C.turned) n m ((k : Int) / n, (k : Int) % n) = ((i : Int) / n, (i : Int) % n) := by rw [e3, led_back h (on_at hn hi)]
  have num : num0 n ((i : Int) / n) ((i : Int) % n) = (i : Int) := by
    show (i : Int) / n * n + (i : Int) % n = i
    rw [Int.mul_comm]; exact Int.mul_ediv_add_emod _ _
  constructor
  · rw [ord_get e2]
    have := ledg_led (g := num0 n) (ok_rev h) (on_at hn e2)
    rw [rev_rev] at this
    rw [this, hb, num]
  · unfold goalsL
    rw [ord_get e2, hb, num]
theorem goals_perm (hn : 0 < n) (h : ∀ q ∈ qs, q.ok n) : (goalsL n m qs).Perm (Ivs.rg (n * m)) := by
  refine Ivs.perm_of ?_ (fun x hx => ?_) (by rw [goals_len, Ivs.rg_length]; exact Nat.le_refl _)
  · refine List.nodup_iff_pairwise_ne.mpr (List.pairwise_iff_getElem.mpr fun i j hi hj hij e => ?_)
    rw [goals_len] at hi hj
    obtain ⟨a, a1, _, _⟩ := goal_at (m := m) hn h hi
    obtain ⟨b, b1, _, _⟩ := goal_at (m := m) hn h hj
    rw [List.getElem?_eq_getElem (by rw [goals_len]; exact hi)] at a1
    rw [List.getElem?_eq_getElem (by rw [goals_len]; exact hj)] at b1
    have ab : a = b := by have := Option.some.inj a1; have := Option.some.inj b1; omega
    subst ab
    have x1 := (at_goal (m := m) hn h hi (by rw [List.getElem?_eq_getElem (by rw [goals_len]; exact hi)]; exact a1)).2
    have x2 := (at_goal (m := m) hn h hj (by rw [List.getElem?_eq_getElem (by rw [goals_len]; exact hj)]; exact b1)).2
    rw [x1] at x2
    have := Option.some.inj x2
    omega
  · obtain ⟨i, hi⟩ := List.getElem?_of_mem hx
    have hi' := (List.getElem?_eq_some_iff.mp hi).1
    rw [goals_len] at hi'
    obtain ⟨j, j1, j2, _⟩ := goal_at (m := m) hn h hi'
    rw [hi] at j1
    rw [Option.some.inj j1]
    exact Ivs.mem_rg.mpr ⟨by omega, by omega⟩
end
end My

set_option Elab.async false
set_option linter.all false
set_option maxRecDepth 100000
set_option maxHeartbeats 8000000
namespace My
open PySem PySem.Spec PyProof.Rows L2 Sx
local macro_rules | `(tactic| walk_at "nb") => `(tactic| first | exact NB.tup | exact NB.ints | exact NB.len (of_decide_eq_true rfl) | exact NB.at0b rfl | exact NB.at3b rfl | exact NB.ins | exact NB.own | exact NB.frz | exact NB.refs (by assumption) | assumption)
local macro_rules | `(tactic| walk_at "ne") => `(tactic| first | assumption | exact Ne.symm (by assumption) | exact ne_of_none (by assumption) (by assumption) | exact Ne.symm (ne_of_none (by assumption) (by assumption)))
local macro_rules | `(tactic| walk_at "hk") => `(tactic| first
  | assumption
  | exact upd_same
  | (refine' (upd_ne ?hkne).trans ?hkq; (case hkne => walk_at "ne"); (case hkq => walk_at "hk"))
  | (refine' Ex.kp (by assumption) _ _ ?hkq ?hkn; (case hkq => walk_at "hk"); (case hkn => walk_at "nb")))
local macro_rules | `(tactic| walk_at "rd1") => `(tactic| first
  | ((with_reducible refine' x_var ?hx ?_); (case hx => exact rfl))
  | with_reducible refine x_c ?_
  | with_reducible refine x_op ?_
  | with_reducible refine x_un ?_
  | with_reducible refine x_I0 ?_
  | with_reducible refine x_U ?_
  | ((with_reducible refine x_I ?hc ?_); (case hc => first | exact (by decide : (0 : Int) < _) | (show (0 : Int) < _; omega) | (show CMul _ _; first | exact .inl ⟨by omega, by omega⟩ | exact .inr ⟨by omega, by omega⟩) | (show CDiv _ _; exact ⟨by omega, by omega⟩) | (show CDivW _ _; exact wide_div (b := 200) (by omega) (by assumption) (by decide) (by decide)) | (show CDivW _ _; exact wide_div (b := 31) (by omega) (by omega) (by decide) (by decide))))
  | with_reducible refine x_EqI ?_
  | with_reducible refine x_NeI ?_
  | ((with_reducible refine x_EqSt ?h ?_); (case h => decide +kernel))
  | ((with_reducible refine x_EqSf ?h ?_); (case h => decide +kernel))
  | ((with_reducible refine x_NeSt ?h ?_); (case h => decide +kernel))
  | ((with_reducible refine x_NeSf ?h ?_); (case h => decide +kernel))
  | with_reducible refine x_EqS ?_
  | with_reducible refine x_NeS ?_
  | ((with_reducible refine' x_ixL ?hq ?hi ?_); (case hq => walk_at "hk"); (case hi => first | exact rfl | assumption))
  | ((with_reducible refine' x_ixT ?hq ?hi ?_); (case hq => walk_at "hk"); (case hi => first | exact rfl | assumption))
  | with_reducible refine x_chain ?_
  | with_reducible refine x_tup ?_
  | with_reducible refine x_lst ?_
  | ((with_reducible refine x_lenNew ?hl ?_); (case hl => exact Nat.le_of_ble_eq_true rfl); intro _ _ _ _ _)
  | ((with_reducible refine x_new ?_); intro _ _ _ _ _)
  | with_reducible refine x_sl ?_
  | with_reducible refine x_noPart ?_
  | with_reducible refine x_part ?_
  | with_reducible refine x_ex_int ?_
  | with_reducible refine x_ex_bl ?_
  | with_reducible refine x_ex_2 ?_
  | with_reducible refine x_test ?_
  | with_reducible refine x_B ?_
  | with_reducible refine x_and ?_
  | with_reducible refine x_or ?_
  | with_reducible refine x_not ?_
  | with_reducible refine x_andV ?_
  | with_reducible refine x_orV ?_
  | with_reducible refine x_notV ?_
  | with_reducible refine x_ifE ?_
  | with_reducible refine x_iteT ?_
  | with_reducible refine x_iteF ?_
  | ((with_reducible refine x_iteD ?_ ?_) <;> intro _)
  | ((with_reducible refine x_iteN ?_ ?_) <;> intro _)
  | with_reducible refine x_if ?_
  | with_reducible refine x_seq ?_
  | with_reducible refine x_next ?_
  | with_reducible refine x_asg ?_
  | with_reducible refine x_gName ?_
  | ((with_reducible refine' x_gTup ?hq ?hn ?_); (case hq => walk_at "hk"); (case hn => exact rfl))
  | with_reducible refine x_gCons ?_
  | with_reducible refine x_gNil ?_
  | ((with_reducible refine' x_gConsE ?h ?_); (case h => exact rfl))
  | ((with_reducible refine x_gNilE ?h ?_); (case h => exact rfl))
  | with_reducible refine x_ret ?_
  | with_reducible refine x_drop ?_
  | with_reducible refine x_par ?_
  | ((with_reducible refine' x_aug ?hx ?_); (case hx => exact rfl))
  | with_reducible refine x_ipI ?_
  | with_reducible refine x_augS ?_
  | with_reducible refine x_gSub ?_
  | ((with_reducible refine' x_setL ?hq ?hi ?_); (case hq => walk_at "hk"); (case hi => first | exact rfl | assumption))
  | with_reducible refine x_cons ?_
  | with_reducible refine x_nil ?_
  | with_reducible refine x_CB ?_
  | with_reducible refine x_abs ?_
  | with_reducible refine x_intI ?_
  | with_reducible refine x_intB ?_
  | ((with_reducible refine' x_lenL ?hq ?_); (case hq => walk_at "hk"))
  | ((with_reducible refine' x_lenT ?hq ?_); (case hq => walk_at "hk"))
  | ((with_reducible refine x_iteTe ?h ?_); (case h => exact rfl))
  | ((with_reducible refine x_iteFe ?h ?_); (case h => exact rfl))
  | walk_at "use"
  | with_reducible refine x_callS ?_
  | ((with_reducible refine x_lc ?_))
  | ((with_reducible refine x_for ?_))
  | ((with_reducible refine x_iR1 ?_))
  | ((with_reducible refine x_iL ?_))
  | ((with_reducible refine x_iZ ?_))
  | ((with_reducible refine x_yes ?_))
  | ((with_reducible refine' x_NIDt ?hq ?_); (case hq => assumption))
  | ((with_reducible refine' x_NIDf ?hq ?_); (case hq => assumption))
  | ((with_reducible refine' x_IIDf ?hq ?_); (case hq => assumption))
  | ((with_reducible refine' x_IIDt ?hq ?_); (case hq => assumption))
  | ((with_reducible refine' x_ixDs ?hd ?hq ?_); (case hd => assumption); (case hq => assumption))
  | ((with_reducible refine x_InSt ?h ?_); (case h => decide +kernel))
  | ((with_reducible refine x_InSf ?h ?_); (case h => decide +kernel))
  | ((with_reducible refine' x_notInI ?hq ?_); (case hq => walk_at "hk"))
  | ((with_reducible refine' x_inTt ?hq ?hv ?ha ?he ?_); (case hq => walk_at "hk"); (case hv => exact rfl); (case ha => exact rfl); (case he => decide +kernel))
  | ((with_reducible refine' x_inTf ?hq ?hv ?ha ?he ?_); (case hq => walk_at "hk"); (case hv => exact rfl); (case ha => exact rfl); (case he => decide +kernel))
  | ((with_reducible refine' x_slT ?hq ?hw ?_); (case hq => walk_at "hk"); (case hw => with_unfolding_all exact of_decide_eq_true rfl))
  | ((with_reducible refine' x_slL ?hq ?_); (case hq => walk_at "hk"))
  | ((with_reducible refine' x_catT ?hq ?hr ?n1 ?n2 ?hl ?_); (case hq => walk_at "hk"); (case hr => walk_at "hk"); (case n1 => exact List.cons_ne_nil _ _); (case n2 => exact List.cons_ne_nil _ _); (case hl => exact Nat.le_of_ble_eq_true rfl))
  | ((with_reducible refine x_bm ?_))
  | ((with_reducible refine x_lstRg ?_))
  | ((with_reducible refine x_rg1 ?_))
  | ((with_reducible refine And.intro ?h ?_); (case h => exact tyL (by assumption)))
  | dsimp only)
local macro_rules | `(tactic| walk_at "use") => `(tactic| fail)
local macro_rules | `(tactic| walk_at "rd") => `(tactic| repeat' (walk_at "rd1"))
local macro_rules | `(tactic| walk_at "ex") => `(tactic| first | exact Ex.refl _ | assumption | (refine' Ex.trans ?he (by assumption); (case he => walk_at "ex")))
local macro_rules | `(tactic| walk_at "rd1") => `(tactic| first
  | ((with_reducible refine x_iteDf ?h ?_); (case h => exact rfl))
  | ((with_reducible refine x_iteDt ?h ?_); (case h => exact rfl))
  | ((with_reducible refine x_iteNf ?h ?_); (case h => exact rfl))
  | ((with_reducible refine x_iteNt ?h ?_); (case h => exact rfl))
  | ((with_reducible refine x_isiI (r := true) ?h ?_); (case h => decide +kernel))
  | ((with_reducible refine x_isiI (r := false) ?h ?_); (case h => decide +kernel))
  | ((with_reducible refine x_isiS (r := true) ?h ?_); (case h => decide +kernel))
  | ((with_reducible refine x_isiS (r := false) ?h ?_); (case h => decide +kernel))
  | ((with_reducible refine x_isiB (r := true) ?h ?_); (case h => decide +kernel))
  | ((with_reducible refine x_isiB (r := false) ?h ?_); (case h => decide +kernel))
  | ((with_reducible refine' x_isiT (r := true) ?hp ?h ?_); (case hp => walk_at "hk"); (case h => decide +kernel))
  | ((with_reducible refine' x_isiT (r := false) ?hp ?h ?_); (case hp => walk_at "hk"); (case h => decide +kernel))
  | ((with_reducible refine' x_isiL (r := true) ?hp ?h ?_); (case hp => walk_at "hk"); (case h => decide +kernel))
  | ((with_reducible refine' x_isiL (r := false) ?hp ?h ?_); (case hp => walk_at "hk"); (case h => decide +kernel))
  | ((with_reducible refine' x_isi2L ?hp ?hl ?_); (case hp => walk_at "hk"); (case hl => walk_at "hk"))
  | ((with_reducible refine' x_isi2T ?hp ?hl ?_); (case hp => walk_at "hk"); (case hl => walk_at "hk"))
  | ((with_reducible refine' x_tupOfL ?hq ?_); (case hq => walk_at "hk"))
  | ((with_reducible refine' x_tupOfT ?hq ?_); (case hq => walk_at "hk"))
  | ((with_reducible refine x_lenS ?h ?_); (case h => exact Nat.le_of_ble_eq_true rfl))
  | ((with_reducible refine' x_all ?hq ?_); (case hq => walk_at "hk"))
  | with_reducible refine x_lenSet ?_)
local macro_rules | `(tactic| walk_at "rd1") => `(tactic| first
  | with_reducible refine Er.x_iR2 ?_
  | with_reducible refine Er.x_iEn ?_
  | with_reducible refine Er.x_cont ?_
  | ((with_reducible refine Er.x_isBt ?h ?_); (case h => exact rfl))
  | ((with_reducible refine Er.x_isBf ?h ?_); (case h => exact rfl))
  | ((with_reducible refine Er.x_isNBt ?h ?_); (case h => exact rfl))
  | ((with_reducible refine Er.x_isNBf ?h ?_); (case h => exact rfl))
  | with_reducible refine Er.x_isB ?_
  | with_reducible refine Er.x_isNB ?_)

open Cl
section
variable {q : C} {qs us : List C} {n m : Nat} {g g' : Int → Int → Int} {r f : Int} {fs rs : Int}
/-! rounds -/
def rep (k : Nat) (qs : List C) : List C := (List.replicate k qs).flatten
/-- so many rounds, back if below 0 -/
def sg (k : Int) (qs : List C) : List C := rep k.natAbs (if 0 ≤ k then qs else qs.reverse.map C.turned)
theorem led_forth (h : ∀ q ∈ qs, q.ok fs) {x : Int × Int} (hx : onLine fs rs x) : led qs fs rs (led (qs.reverse.map C.turned) fs rs x) = x := by
  have := led_back (qs := qs.reverse.map C.turned) (ok_rev h) hx
  rw [rev_rev] at this
  exact this
/-! lines that stand alike -/
theorem ord_alike (hn : 0 < n) (h1 : ∀ q ∈ qs, q.ok n) (h2 : ∀ q ∈ us, q.ok n) (h : ∀ x, onLine n m x → led qs n m x = led us n m x) : ord n m (ledg qs n m g) = ord n m (ledg us n m g) := by
  have := ord_same (g := g) (m := m) hn (ok_rev h1) (ok_rev h2) fun y hy => by
    have hx := led_range (ok_rev h1) hy
    have e1 := led_forth h1 hy
    have e2 := h _ hx
    rw [e1] at e2
    have e3 := led_back h2 hx
    rw [← e2] at e3
    exact e3.symm
  rw [rev_rev, rev_rev] at this
  exact this
theorem ord_perm (hn : 0 < n) (h : ∀ q ∈ qs, q.ok n) : (ord n m (ledg qs n m (num0 n))).Perm (Ivs.rg (n * m)) := by
  have := moves_goals (m := m) hn (ok_rev h)
  rw [rev_rev] at this
  rw [this]
  exact goals_perm hn (ok_rev h)
/-- who stands at a goal -/
theorem at_goalG (hn : 0 < n) (h : ∀ q ∈ qs, q.ok n) {i j : Nat} (hi : i < n * m) (hj : (goalsL n m qs)[i]? = some (j : Int)) : j < n * m ∧ (ord n m (ledg qs n m g))[j]? = some (g ((i : Int) / n) ((i : Int) % n)) := by
  obtain ⟨k, e1, e2, e3⟩ := goal_at hn h hi
  have ek : k = j := by rw [e1] at hj; have := Option.some.inj hj; omega
  subst ek
  refine ⟨e2, ?_⟩
  rw [ord_get e2]
  have := ledg_led (g := g) (ok_rev h) (on_at hn e2)
  rw [rev_rev] at this
  rw [this, e3, led_back h (on_at hn hi)]
theorem goal_inj (hn : 0 < n) (h : ∀ q ∈ qs, q.ok n) {i k j : Nat} (hi : i < n * m) (hk : k < n * m) (ei : (goalsL n m qs)[i]? = some (j : Int)) (ek : (goalsL n m qs)[k]? = some (j : Int)) : i = k := by
  have a := (at_goal hn h hi ei).2
  have b := (at_goal hn h hk ek).2
  rw [a] at b
  have := Option.some.inj b
  omega
theorem goal_onto (hn : 0 < n) (h : ∀ q ∈ qs, q.ok n) {j : Nat} (hj : j < n * m) : ∃ i : Nat, i < n * m ∧ (goalsL n m qs)[i]? = some (j : Int) := by
  have hm : (j : Int) ∈ goalsL n m qs := (goals_perm (m := m) hn h).mem_iff.mpr (Ivs.mem_rg.mpr ⟨by omega, by omega⟩)
  obtain ⟨i, hi⟩ := List.getElem?_of_mem hm
  have := (List.getElem?_eq_some_iff.mp hi).1
  rw [goals_len] at this
  exact ⟨i, this, hi⟩
theorem goals_nil (hn : 0 < n) : goalsL n m [] = Ivs.rg (n * m) := by
  refine List.map_congr_left fun i _ => ?_
  show (i : Int) / n * n + (i : Int) % n = i
  rw [Int.mul_comm]; exact Int.mul_ediv_add_emod _ _
end
end My

set_option Elab.async false
set_option linter.all false
set_option maxRecDepth 100000
set_option maxHeartbeats 8000000
namespace My
open PySem PySem.Spec PyProof.Rows L2 Sx
local macro_rules | `(tactic| walk_at "nb") => `(tactic| first | exact NB.tup | exact NB.ints | exact NB.len (of_decide_eq_true rfl) | exact NB.at0b rfl | exact NB.at3b rfl | exact NB.ins | exact NB.own | exact NB.frz | exact NB.refs (by assumption) | assumption)
local macro_rules | `(tactic| walk_at "ne") => `(tactic| first | assumption | exact Ne.symm (by assumption) | exact ne_of_none (by assumption) (by assumption) | exact Ne.symm (ne_of_none (by assumption) (by assumption)))
local macro_rules | `(tactic| walk_at "hk") => `(tactic| first
  | assumption
  | exact upd_same
  | (refine' (upd_ne ?hkne).trans ?hkq; (case hkne => walk_at "ne"); (case hkq => walk_at "hk"))
  | (refine' Ex.kp (by assumption) _ _ ?hkq ?hkn; (case hkq => walk_at "hk"); (case hkn => walk_at "nb")))
local macro_rules | `(tactic| walk_at "rd1") => `(tactic| first
  | ((with_reducible refine' x_var ?hx ?_); (case hx => exact rfl))
  | with_reducible refine x_c ?_
  | with_reducible refine x_op ?_
  | with_reducible refine x_un ?_
  | with_reducible refine x_I0 ?_
  | with_reducible refine x_U ?_
  | ((with_reducible refine x_I ?hc ?_); (case hc => first | exact (by decide : (0 : Int) < _) | (show (0 : Int) < _; omega) | (show CMul _ _; first | exact .inl ⟨by omega, by omega⟩ | exact .inr ⟨by omega, by omega⟩) | (show CDiv _ _; exact ⟨by omega, by omega⟩) | (show CDivW _ _; exact wide_div (b := 200) (by omega) (by assumption) (by decide) (by decide)) | (show CDivW _ _; exact wide_div (b := 31) (by omega) (by omega) (by decide) (by decide))))
  | with_reducible refine x_EqI ?_
  | with_reducible refine x_NeI ?_
  | ((with_reducible refine x_EqSt ?h ?_); (case h => decide +kernel))
  | ((with_reducible refine x_EqSf ?h ?_); (case h => decide +kernel))
  | ((with_reducible refine x_NeSt ?h ?_); (case h => decide +kernel))
  | ((with_reducible refine x_NeSf ?h ?_); (case h => decide +kernel))
  | with_reducible refine x_EqS ?_
  | with_reducible refine x_NeS ?_
  | ((with_reducible refine' x_ixL ?hq ?hi ?_); (case hq => walk_at "hk"); (case hi => first | exact rfl | assumption))
  | ((with_reducible refine' x_ixT ?hq ?hi ?_); (case hq => walk_at "hk"); (case hi => first | exact rfl | assumption))
  | with_reducible refine x_chain ?_
  | with_reducible refine x_tup ?_
  | with_reducible refine x_lst ?_
  | ((with_reducible refine x_lenNew ?hl ?_); (case hl => exact Nat.le_of_ble_eq_true rfl); intro _ _ _ _ _)
  | ((with_reducible refine x_new ?_); intro _ _ _ _ _)
  | with_reducible refine x_sl ?_
  | with_reducible refine x_noPart ?_
  | with_reducible refine x_part ?_
  | with_reducible refine x_ex_int ?_
  | with_reducible refine x_ex_bl ?_
  | with_reducible refine x_ex_2 ?_
  | with_reducible refine x_test ?_
  | with_reducible refine x_B ?_
  | with_reducible refine x_and ?_
  | with_reducible refine x_or ?_
  | with_reducible refine x_not ?_
  | with_reducible refine x_andV ?_
  | with_reducible refine x_orV ?_
  | with_reducible refine x_notV ?_
  | with_reducible refine x_ifE ?_
  | with_reducible refine x_iteT ?_
  | with_reducible refine x_iteF ?_
  | ((with_reducible refine x_iteD ?_ ?_) <;> intro _)
  | ((with_reducible refine x_iteN ?_ ?_) <;> intro _)
  | with_reducible refine x_if ?_
  | with_reducible refine x_seq ?_
  | with_reducible refine x_next ?_
  | with_reducible refine x_asg ?_
  | with_reducible refine x_gName ?_
  | ((with_reducible refine' x_gTup ?hq ?hn ?_); (case hq => walk_at "hk"); (case hn => exact rfl))
  | with_reducible refine x_gCons ?_
  | with_reducible refine x_gNil ?_
  | ((with_reducible refine' x_gConsE ?h ?_); (case h => exact rfl))
  | ((with_reducible refine x_gNilE ?h ?_); (case h => exact rfl))
  | with_reducible refine x_ret ?_
  | with_reducible refine x_drop ?_
  | with_reducible refine x_par ?_
  | ((with_reducible refine' x_aug ?hx ?_); (case hx => exact rfl))
  | with_reducible refine x_ipI ?_
  | with_reducible refine x_augS ?_
  | with_reducible refine x_gSub ?_
  | ((with_reducible refine' x_setL ?hq ?hi ?_); (case hq => walk_at "hk"); (case hi => first | exact rfl | assumption))
  | with_reducible refine x_cons ?_
  | with_reducible refine x_nil ?_
  | with_reducible refine x_CB ?_
  | with_reducible refine x_abs ?_
  | with_reducible refine x_intI ?_
  | with_reducible refine x_intB ?_
  | ((with_reducible refine' x_lenL ?hq ?_); (case hq => walk_at "hk"))
  | ((with_reducible refine' x_lenT ?hq ?_); (case hq => walk_at "hk"))
  | ((with_reducible refine x_iteTe ?h ?_); (case h => exact rfl))
  | ((with_reducible refine x_iteFe ?h ?_); (case h => exact rfl))
  | walk_at "use"
  | with_reducible refine x_callS ?_
  | ((with_reducible refine x_lc ?_))
  | ((with_reducible refine x_for ?_))
  | ((with_reducible refine x_iR1 ?_))
  | ((with_reducible refine x_iL ?_))
  | ((with_reducible refine x_iZ ?_))
  | ((with_reducible refine x_yes ?_))
  | ((with_reducible refine' x_NIDt ?hq ?_); (case hq => assumption))
  | ((with_reducible refine' x_NIDf ?hq ?_); (case hq => assumption))
  | ((with_reducible refine' x_IIDf ?hq ?_); (case hq => assumption))
  | ((with_reducible refine' x_IIDt ?hq ?_); (case hq => assumption))
  | ((with_reducible refine' x_ixDs ?hd ?hq ?_); (case hd => assumption); (case hq => assumption))
  | ((with_reducible refine x_InSt ?h ?_); (case h => decide +kernel))
  | ((with_reducible refine x_InSf ?h ?_); (case h => decide +kernel))
  | ((with_reducible refine' x_notInI ?hq ?_); (case hq => walk_at "hk"))
  | ((with_reducible refine' x_inTt ?hq ?hv ?ha ?he ?_); (case hq => walk_at "hk"); (case hv => exact rfl); (case ha => exact rfl); (case he => decide +kernel))
  | ((with_reducible refine' x_inTf ?hq ?hv ?ha ?he ?_); (case hq => walk_at "hk"); (case hv => exact rfl); (case ha => exact rfl); (case he => decide +kernel))
  | ((with_reducible refine' x_slT ?hq ?hw ?_); (case hq => walk_at "hk"); (case hw => with_unfolding_all exact of_decide_eq_true rfl))
  | ((with_reducible refine' x_slL ?hq ?_); (case hq => walk_at "hk"))
  | ((with_reducible refine' x_catT ?hq ?hr ?n1 ?n2 ?hl ?_); (case hq => walk_at "hk"); (case hr => walk_at "hk"); (case n1 => exact List.cons_ne_nil _ _); (case n2 => exact List.cons_ne_nil _ _); (case hl => exact Nat.le_of_ble_eq_true rfl))
  | ((with_reducible refine x_bm ?_))
  | ((with_reducible refine x_lstRg ?_))
  | ((with_reducible refine x_rg1 ?_))
  | ((with_reducible refine And.intro ?h ?_); (case h => exact tyL (by assumption)))
  | dsimp only)
local macro_rules | `(tactic| walk_at "use") => `(tactic| fail)
local macro_rules | `(tactic| walk_at "rd") => `(tactic| repeat' (walk_at "rd1"))
local macro_rules | `(tactic| walk_at "ex") => `(tactic| first | exact Ex.refl _ | assumption | (refine' Ex.trans ?he (by assumption); (case he => walk_at "ex")))
local macro_rules | `(tactic| walk_at "rd1") => `(tactic| first
  | ((with_reducible refine x_iteDf ?h ?_); (case h => exact rfl))
  | ((with_reducible refine x_iteDt ?h ?_); (case h => exact rfl))
  | ((with_reducible refine x_iteNf ?h ?_); (case h => exact rfl))
  | ((with_reducible refine x_iteNt ?h ?_); (case h => exact rfl))
  | ((with_reducible refine x_isiI (r := true) ?h ?_); (case h => decide +kernel))
  | ((with_reducible refine x_isiI (r := false) ?h ?_); (case h => decide +kernel))
  | ((with_reducible refine x_isiS (r := true) ?h ?_); (case h => decide +kernel))
  | ((with_reducible refine x_isiS (r := false) ?h ?_); (case h => decide +kernel))
  | ((with_reducible refine x_isiB (r := true) ?h ?_); (case h => decide +kernel))
  | ((with_reducible refine x_isiB (r := false) ?h ?_); (case h => decide +kernel))
  | ((with_reducible refine' x_isiT (r := true) ?hp ?h ?_); (case hp => walk_at "hk"); (case h => decide +kernel))
  | ((with_reducible refine' x_isiT (r := false) ?hp ?h ?_); (case hp => walk_at "hk"); (case h => decide +kernel))
  | ((with_reducible refine' x_isiL (r := true) ?hp ?h ?_); (case hp => walk_at "hk"); (case h => decide +kernel))
  | ((with_reducible refine' x_isiL (r := false) ?hp ?h ?_); (case hp => walk_at "hk"); (case h => decide +kernel))
  | ((with_reducible refine' x_isi2L ?hp ?hl ?_); (case hp => walk_at "hk"); (case hl => walk_at "hk"))
  | ((with_reducible refine' x_isi2T ?hp ?hl ?_); (case hp => walk_at "hk"); (case hl => walk_at "hk"))
  | ((with_reducible refine' x_tupOfL ?hq ?_); (case hq => walk_at "hk"))
  | ((with_reducible refine' x_tupOfT ?hq ?_); (case hq => walk_at "hk"))
  | ((with_reducible refine x_lenS ?h ?_); (case h => exact Nat.le_of_ble_eq_true rfl))
  | ((with_reducible refine' x_all ?hq ?_); (case hq => walk_at "hk"))
  | with_reducible refine x_lenSet ?_)
local macro_rules | `(tactic| walk_at "rd1") => `(tactic| first
  | with_reducible refine Er.x_iR2 ?_
  | with_reducible refine Er.x_iEn ?_
  | with_reducible refine Er.x_cont ?_
  | ((with_reducible refine Er.x_isBt ?h ?_); (case h => exact rfl))
  | ((with_reducible refine Er.x_isBf ?h ?_); (case h => exact rfl))
  | ((with_reducible refine Er.x_isNBt ?h ?_); (case h => exact rfl))
  | ((with_reducible refine Er.x_isNBf ?h ?_); (case h => exact rfl))
  | with_reducible refine Er.x_isB ?_
  | with_reducible refine Er.x_isNB ?_)

open Cl
local macro_rules | `(tactic| walk_at "nb") => `(tactic| first | exact NB.ints | assumption | (refine Ow.Refs.nb ?_; assumption))
local macro_rules | `(tactic| walk_at "sc") => `(tactic| first | assumption | (refine' Scr.mono ?hscr ?escr; (case hscr => assumption); (case escr => walk_at "ex")))
local macro_rules | `(tactic| walk_at "rd1") => `(tactic| first
  | with_reducible refine x_iT ?_
  | with_reducible refine Ow.x_bm0 ?_
  | with_reducible refine x_make ?_
  | with_reducible refine Ow.x_meth ?_
  | with_reducible refine Ow.x_prop ?_
  | with_reducible refine Ow.x_iOwn ?_
  | ((with_reducible refine' x_methS ?h ?l ?_); (case h => walk_at "sc"); (case l => intro _ _; exact rfl))
  | ((with_reducible refine' x_propS ?h ?_); (case h => walk_at "sc"))
  | ((with_reducible refine' u_sfiles ?h ?_); (case h => walk_at "sc"))
  | ((with_reducible refine' u_ssize ?h ?hl ?_); (case h => walk_at "sc"); (case hl => omega); intro _ _)
  | ((with_reducible refine' u_scalls ?h ?_); (case h => walk_at "sc"); intro _ _ _ _ _ _ _)
  | ((with_reducible refine' u_sstraight ?h ?hl ?_); (case h => walk_at "sc"); (case hl => omega); intro _ _)
  | ((with_reducible refine' x_lenS' ?e ?h ?hl ?_); (case e => exact rfl); (case h => walk_at "sc"); (case hl => omega))
  | ((with_reducible refine' x_listS ?e ?h ?_); (case e => exact rfl); (case h => walk_at "sc"); intro _ _ _ _ _ _ _)
  | ((with_reducible refine' x_eqS ?c ?h ?h' ?_); (case c => assumption); (case h => walk_at "sc"); (case h' => walk_at "sc"))
  | ((with_reducible refine' x_neS ?c ?h ?h' ?_); (case c => assumption); (case h => walk_at "sc"); (case h' => walk_at "sc"))
  | ((with_reducible refine' x_eqSL ?c ?h ?h' ?_); (case c => assumption); (case h => walk_at "sc"); (case h' => walk_at "hk"))
  | ((with_reducible refine' x_eqST ?c ?h ?h' ?_); (case c => assumption); (case h => walk_at "sc"); (case h' => walk_at "hk"))
  | ((with_reducible refine' x_eqSI ?c ?h ?_); (case c => assumption); (case h => walk_at "sc")))
section
variable {P : Program} {w : World} {K : PySem.W.Frag} {mg : Str → Option Value} {base : Heap} {a : Ad} {H H1 : Hp} {Q : VK} {E : XK} {p b c t s dx : Addr} {fl gl : Int} {xs ps : List V} {q : C} {qs us : List C} {n m : Nat} {g : Int → Int → Int} {ls : List (List Int)} {CS : Addr}
open Er
theorem Sz.two (hz : Sz n m) : (2 : Int) ≤ n ∧ (n : Int) ≤ 3 := by rcases hz.1 with rfl | rfl <;> decide
/-! the order behind a script -/
def sp_order_behind (CS : Addr) : Sp := fun vs H Q _ => ∃ (s : Addr) (n m : Nat) (qs : List C), vs = [.ref s, .int (m : Int)] ∧ Scr CS H s n qs ∧ (∀ q ∈ qs, q.ok n) ∧ Sz n m ∧ ∀ t H1, Ex H H1 → NF H t → H1 t = some (.lst ((ord n m (ledg qs n m (num0 n))).map V.int)) → Q (.ref t) H1
theorem u_order_behind (hs : Scr CS H s n qs) (ho : ∀ q ∈ qs, q.ok n) (hz : Sz n m) (k : ∀ t H1, Ex H H1 → NF H t → H1 t = some (.lst ((ord n m (ledg qs n m (num0 n))).map V.int)) → Q (.ref t) H1) : sp_order_behind CS [.ref s, .int (m : Int)] H Q E := ⟨s, n, m, qs, rfl, hs, ho, hz, k⟩
theorem ok_order_behind (T : Txt K w mg a) : FnOk P w K mg base CX0 4 a.a_order_behind a.fd_order_behind ["script", "rows"] (sp_order_behind a.c_Script) := by
  refine T.F_order_behind.ok sc_order_behind (fun vs H Q E h => ?_) (fun cdv A outer s H vs Q E hr h => ?_)
  · obtain ⟨s, n, m, qs, rfl, _⟩ := h; rfl
  · obtain ⟨s, n, m, qs, rfl, hs, ho, hz, k⟩ := h
    have G_order_of := ok_order_of (P := P) (base := base) T
    have G_columns_led := ok_columns_led (P := P) (base := base) T
    have G_first_columns := ok_first_columns (P := P) (base := base) T
    have G_Script_files := ok_Script_files (P := P) (base := base) T
    have G_Script_calls := ok_Script_calls (P := P) (base := base) T
    refine ⟨_, (pss_one (ps_ret (pe_call G_order_of (hr.mono (by decide)) (by rfl) T.m_order_of T.k_order_of T.b_order_of .nil pass0 (pa_cons (pe_call G_columns_led (hr.mono (by decide)) (by rfl) T.m_columns_led T.k_columns_led T.b_columns_led .nil pass0 (pa_cons (pe_call G_first_columns (hr.mono (by decide)) (by rfl) T.m_first_columns T.k_first_columns T.b_first_columns .nil pass0 (pa_cons (pe_prop (pv 0) T.t_Script.cl T.P_Script_files G_Script_files (hr.mono (by decide)) T.b_Script_files .nil pass0 rfl) (pa_cons (pv 1) pa_nil))) (pa_cons (pe_meth0 (pv 0) T.t_Script.cl T.Q_Script_calls G_Script_calls (hr.mono (by decide)) T.b_Script_calls .nil pass0) pa_nil))) pa_nil)))), ?_⟩
    walk_at "rd"
    refine u_first_columns hz fun t1 H1 e1 h1 => ?_
    walk_at "rd"
    rename_i c xs H2 e2 f2 h2 c2
    refine u_columns_led h2 c2 ho hz (h1.ex e2) fun t3 H3 e3 h3 => ?_
    walk_at "rd"
    exact u_order_of hz h3 fun t4 H4 e4 f4 h4 => k t4 H4 (by walk_at "ex") (NF.back (by walk_at "ex") f4) h4
end
end My

set_option Elab.async false
set_option linter.all false
set_option maxRecDepth 100000
set_option maxHeartbeats 8000000
namespace My
open PySem PySem.Spec PyProof.Rows L2 Sx
local macro_rules | `(tactic| walk_at "nb") => `(tactic| first | exact NB.tup | exact NB.ints | exact NB.len (of_decide_eq_true rfl) | exact NB.at0b rfl | exact NB.at3b rfl | exact NB.ins | exact NB.own | exact NB.frz | exact NB.refs (by assumption) | assumption)
local macro_rules | `(tactic| walk_at "ne") => `(tactic| first | assumption | exact Ne.symm (by assumption) | exact ne_of_none (by assumption) (by assumption) | exact Ne.symm (ne_of_none (by assumption) (by assumption)))
local macro_rules | `(tactic| walk_at "hk") => `(tactic| first
  | assumption
  | exact upd_same
  | (refine' (upd_ne ?hkne).trans ?hkq; (case hkne => walk_at "ne"); (case hkq => walk_at "hk"))
  | (refine' Ex.kp (by assumption) _ _ ?hkq ?hkn; (case hkq => walk_at "hk"); (case hkn => walk_at "nb")))
local macro_rules | `(tactic| walk_at "rd1") => `(tactic| first
  | ((with_reducible refine' x_var ?hx ?_); (case hx => exact rfl))
  | with_reducible refine x_c ?_
  | with_reducible refine x_op ?_
  | with_reducible refine x_un ?_
  | with_reducible refine x_I0 ?_
  | with_reducible refine x_U ?_
  | ((with_reducible refine x_I ?hc ?_); (case hc => first | exact (by decide : (0 : Int) < _) | (show (0 : Int) < _; omega) | (show CMul _ _; first | exact .inl ⟨by omega, by omega⟩ | exact .inr ⟨by omega, by omega⟩) | (show CDiv _ _; exact ⟨by omega, by omega⟩) | (show CDivW _ _; exact wide_div (b := 200) (by omega) (by assumption) (by decide) (by decide)) | (show CDivW _ _; exact wide_div (b := 31) (by omega) (by omega) (by decide) (by decide))))
  | with_reducible refine x_EqI ?_
  | with_reducible refine x_NeI ?_
  | ((with_reducible refine x_EqSt ?h ?_); (case h => decide +kernel))
  | ((with_reducible refine x_EqSf ?h ?_); (case h => decide +kernel))
  | ((with_reducible refine x_NeSt ?h ?_); (case h => decide +kernel))
  | ((with_reducible refine x_NeSf ?h ?_); (case h => decide +kernel))
  | with_reducible refine x_EqS ?_
  | with_reducible refine x_NeS ?_
  | ((with_reducible refine' x_ixL ?hq ?hi ?_); (case hq => walk_at "hk"); (case hi => first | exact rfl | assumption))
  | ((with_reducible refine' x_ixT ?hq ?hi ?_); (case hq => walk_at "hk"); (case hi => first | exact rfl | assumption))
  | with_reducible refine x_chain ?_
  | with_reducible refine x_tup ?_
  | with_reducible refine x_lst ?_
  | ((with_reducible refine x_lenNew ?hl ?_); (case hl => exact Nat.le_of_ble_eq_true rfl); intro _ _ _ _ _)
  | ((with_reducible refine x_new ?_); intro _ _ _ _ _)
  | with_reducible refine x_sl ?_
  | with_reducible refine x_noPart ?_
  | with_reducible refine x_part ?_
  | with_reducible refine x_ex_int ?_
  | with_reducible refine x_ex_bl ?_
  | with_reducible refine x_ex_2 ?_
  | with_reducible refine x_test ?_
  | with_reducible refine x_B ?_
  | with_reducible refine x_and ?_
  | with_reducible refine x_or ?_
  | with_reducible refine x_not ?_
  | with_reducible refine x_andV ?_
  | with_reducible refine x_orV ?_
  | with_reducible refine x_notV ?_
  | with_reducible refine x_ifE ?_
  | with_reducible refine x_iteT ?_
  | with_reducible refine x_iteF ?_
  | ((with_reducible refine x_iteD ?_ ?_) <;> intro _)
  | ((with_reducible refine x_iteN ?_ ?_) <;> intro _)
  | with_reducible refine x_if ?_
  | with_reducible refine x_seq ?_
  | with_reducible refine x_next ?_
  | with_reducible refine x_asg ?_
  | with_reducible refine x_gName ?_
  | ((with_reducible refine' x_gTup ?hq ?hn ?_); (case hq => walk_at "hk"); (case hn => exact rfl))
  | with_reducible refine x_gCons ?_
  | with_reducible refine x_gNil ?_
  | ((with_reducible refine' x_gConsE ?h ?_); (case h => exact rfl))
  | ((with_reducible refine x_gNilE ?h ?_); (case h => exact rfl))
  | with_reducible refine x_ret ?_
  | with_reducible refine x_drop ?_
  | with_reducible refine x_par ?_
  | ((with_reducible refine' x_aug ?hx ?_); (case hx => exact rfl))
  | with_reducible refine x_ipI ?_
  | with_reducible refine x_augS ?_
  | with_reducible refine x_gSub ?_
  | ((with_reducible refine' x_setL ?hq ?hi ?_); (case hq => walk_at "hk"); (case hi => first | exact rfl | assumption))
  | with_reducible refine x_cons ?_
  | with_reducible refine x_nil ?_
  | with_reducible refine x_CB ?_
  | with_reducible refine x_abs ?_
  | with_reducible refine x_intI ?_
  | with_reducible refine x_intB ?_
  | ((with_reducible refine' x_lenL ?hq ?_); (case hq => walk_at "hk"))
  | ((with_reducible refine' x_lenT ?hq ?_); (case hq => walk_at "hk"))
  | ((with_reducible refine x_iteTe ?h ?_); (case h => exact rfl))
  | ((with_reducible refine x_iteFe ?h ?_); (case h => exact rfl))
  | walk_at "use"
  | with_reducible refine x_callS ?_
  | ((with_reducible refine x_lc ?_))
  | ((with_reducible refine x_for ?_))
  | ((with_reducible refine x_iR1 ?_))
  | ((with_reducible refine x_iL ?_))
  | ((with_reducible refine x_iZ ?_))
  | ((with_reducible refine x_yes ?_))
  | ((with_reducible refine' x_NIDt ?hq ?_); (case hq => assumption))
  | ((with_reducible refine' x_NIDf ?hq ?_); (case hq => assumption))
  | ((with_reducible refine' x_IIDf ?hq ?_); (case hq => assumption))
  | ((with_reducible refine' x_IIDt ?hq ?_); (case hq => assumption))
  | ((with_reducible refine' x_ixDs ?hd ?hq ?_); (case hd => assumption); (case hq => assumption))
  | ((with_reducible refine x_InSt ?h ?_); (case h => decide +kernel))
  | ((with_reducible refine x_InSf ?h ?_); (case h => decide +kernel))
  | ((with_reducible refine' x_notInI ?hq ?_); (case hq => walk_at "hk"))
  | ((with_reducible refine' x_inTt ?hq ?hv ?ha ?he ?_); (case hq => walk_at "hk"); (case hv => exact rfl); (case ha => exact rfl); (case he => decide +kernel))
  | ((with_reducible refine' x_inTf ?hq ?hv ?ha ?he ?_); (case hq => walk_at "hk"); (case hv => exact rfl); (case ha => exact rfl); (case he => decide +kernel))
  | ((with_reducible refine' x_slT ?hq ?hw ?_); (case hq => walk_at "hk"); (case hw => with_unfolding_all exact of_decide_eq_true rfl))
  | ((with_reducible refine' x_slL ?hq ?_); (case hq => walk_at "hk"))
  | ((with_reducible refine' x_catT ?hq ?hr ?n1 ?n2 ?hl ?_); (case hq => walk_at "hk"); (case hr => walk_at "hk"); (case n1 => exact List.cons_ne_nil _ _); (case n2 => exact List.cons_ne_nil _ _); (case hl => exact Nat.le_of_ble_eq_true rfl))
  | ((with_reducible refine x_bm ?_))
  | ((with_reducible refine x_lstRg ?_))
  | ((with_reducible refine x_rg1 ?_))
  | ((with_reducible refine And.intro ?h ?_); (case h => exact tyL (by assumption)))
  | dsimp only)
local macro_rules | `(tactic| walk_at "use") => `(tactic| fail)
local macro_rules | `(tactic| walk_at "rd") => `(tactic| repeat' (walk_at "rd1"))
local macro_rules | `(tactic| walk_at "ex") => `(tactic| first | exact Ex.refl _ | assumption | (refine' Ex.trans ?he (by assumption); (case he => walk_at "ex")))
local macro_rules | `(tactic| walk_at "rd1") => `(tactic| first
  | ((with_reducible refine x_iteDf ?h ?_); (case h => exact rfl))
  | ((with_reducible refine x_iteDt ?h ?_); (case h => exact rfl))
  | ((with_reducible refine x_iteNf ?h ?_); (case h => exact rfl))
  | ((with_reducible refine x_iteNt ?h ?_); (case h => exact rfl))
  | ((with_reducible refine x_isiI (r := true) ?h ?_); (case h => decide +kernel))
  | ((with_reducible refine x_isiI (r := false) ?h ?_); (case h => decide +kernel))
  | ((with_reducible refine x_isiS (r := true) ?h ?_); (case h => decide +kernel))
  | ((with_reducible refine x_isiS (r := false) ?h ?_); (case h => decide +kernel))
  | ((with_reducible refine x_isiB (r := true) ?h ?_); (case h => decide +kernel))
  | ((with_reducible refine x_isiB (r := false) ?h ?_); (case h => decide +kernel))
  | ((with_reducible refine' x_isiT (r := true) ?hp ?h ?_); (case hp => walk_at "hk"); (case h => decide +kernel))
  | ((with_reducible refine' x_isiT (r := false) ?hp ?h ?_); (case hp => walk_at "hk"); (case h => decide +kernel))
  | ((with_reducible refine' x_isiL (r := true) ?hp ?h ?_); (case hp => walk_at "hk"); (case h => decide +kernel))
  | ((with_reducible refine' x_isiL (r := false) ?hp ?h ?_); (case hp => walk_at "hk"); (case h => decide +kernel))
  | ((with_reducible refine' x_isi2L ?hp ?hl ?_); (case hp => walk_at "hk"); (case hl => walk_at "hk"))
  | ((with_reducible refine' x_isi2T ?hp ?hl ?_); (case hp => walk_at "hk"); (case hl => walk_at "hk"))
  | ((with_reducible refine' x_tupOfL ?hq ?_); (case hq => walk_at "hk"))
  | ((with_reducible refine' x_tupOfT ?hq ?_); (case hq => walk_at "hk"))
  | ((with_reducible refine x_lenS ?h ?_); (case h => exact Nat.le_of_ble_eq_true rfl))
  | ((with_reducible refine' x_all ?hq ?_); (case hq => walk_at "hk"))
  | with_reducible refine x_lenSet ?_)
local macro_rules | `(tactic| walk_at "nb") => `(tactic| first | exact NB.xd | exact NB.dK)
local macro_rules | `(tactic| walk_at "rd1") => `(tactic| first
  | with_reducible refine Er.x_par3 ?_
  | with_reducible refine Er.x_ex_3 ?_
  | with_reducible refine Er.x_revL0 ?_
  | ((with_reducible refine' Er.x_revL ?hq ?_); (case hq => walk_at "hk"))
  | with_reducible refine Er.x_dget2 ?_
  | with_reducible refine x_dict0 ?_
  | ((with_reducible refine x_pow ?hc ?_); (case hc => exact ⟨by decide, by decide, by decide⟩))
  | ((with_reducible refine And.intro ?h ?_); (case h => exact tyL (by walk_at "hk")))
  | ((with_reducible refine' Er.x_dis ?hq ?_); (case hq => walk_at "hk"))
  | ((with_reducible refine' Er.x_dgo ?hq ?he ?_); (case hq => walk_at "hk"); (case he => exact rfl)))
local macro_rules | `(tactic| walk_at "rd1") => `(tactic| first
  | with_reducible refine Er.x_callSS ?_
  | ((with_reducible refine Er.x_mulS2 ?h ?h0 ?h1 ?_); (case h => decide); (case h0 => decide); (case h1 => decide)))
local macro_rules | `(tactic| walk_at "rd1") => `(tactic| first
  | with_reducible refine Er.x_iR2 ?_
  | with_reducible refine Er.x_iEn ?_
  | with_reducible refine Er.x_cont ?_
  | ((with_reducible refine Er.x_isBt ?h ?_); (case h => exact rfl))
  | ((with_reducible refine Er.x_isBf ?h ?_); (case h => exact rfl))
  | ((with_reducible refine Er.x_isNBt ?h ?_); (case h => exact rfl))
  | ((with_reducible refine Er.x_isNBf ?h ?_); (case h => exact rfl))
  | with_reducible refine Er.x_isB ?_
  | with_reducible refine Er.x_isNB ?_)

open Cl
local macro_rules | `(tactic| walk_at "nb") => `(tactic| first | exact NB.ints | assumption)
local macro_rules | `(tactic| walk_at "rd1") => `(tactic| first
  | with_reducible refine x_make ?_
  | ((with_reducible refine' x_listOfT ?h ?_); (case h => walk_at "hk")))
section
variable {P : Program} {w : World} {K : PySem.W.Frag} {mg : Str → Option Value} {base : Heap} {a : Ad} {H H1 : Hp} {Q : VK} {E : XK} {p b c t s l : Addr} {xs ys : List V} {q : C} {qs us : List C} {n m : Nat} {g : Int → Int → Int}
open Er
/-! the arrangement behind calls -/
def sp_arranged : Sp := fun vs H Q _ => ∃ (c : Addr) (n m : Nat) (xs : List V) (qs : List C), vs = [.int (n : Int), .int (m : Int), .ref c] ∧ H c = some (.lst xs) ∧ Cls H xs qs ∧ (∀ q ∈ qs, q.ok n) ∧ qs.length ≤ 1000 ∧ Sz n m ∧ ∀ t H1, Ex H H1 → H1 t = some (.tup ((ord n m (ledg qs n m (num0 n))).map V.int)) → Q (.ref t) H1
theorem u_arranged (h : H c = some (.lst xs)) (hc : Cls H xs qs) (ho : ∀ q ∈ qs, q.ok n) (hl : qs.length ≤ 1000) (hz : Sz n m) (k : ∀ t H1, Ex H H1 → H1 t = some (.tup ((ord n m (ledg qs n m (num0 n))).map V.int)) → Q (.ref t) H1) : sp_arranged [.int (n : Int), .int (m : Int), .ref c] H Q E := ⟨c, n, m, xs, qs, rfl, h, hc, ho, hl, hz, k⟩
theorem ok_arranged (T : Txt K w mg a) : FnOk P w K mg base CX0 7 a.a_arranged a.fd_arranged ["files", "rows", "calls"] sp_arranged := by
  refine T.F_arranged.ok sc_arranged (fun vs H Q E h => ?_) (fun cdv A outer s H vs Q E hr h => ?_)
  · obtain ⟨c, n, m, xs, qs, rfl, _⟩ := h; rfl
  · obtain ⟨c, n, m, xs, qs, rfl, h, hc, ho, hl, hz, k⟩ := h
    have G_order_behind := ok_order_behind (P := P) (base := base) T
    have G_Script_init := ok_Script_init (P := P) (base := base) T
    refine ⟨_, (pss_one (ps_ret (pe_callTy c_tupOf (by rfl) T.n_tuple (by decide +kernel) (pa_cons (pe_call G_order_behind (hr.mono (by decide)) (by rfl) T.m_order_behind T.k_order_behind T.b_order_behind .nil pass0 (pa_cons (pe_make T.M_Script G_Script_init (hr.mono (by decide)) (by rfl) T.m_Script T.b_Script_init .nil pass0 (pa_cons (pv 0) (pa_cons (pv 2) pa_nil))) (pa_cons (pv 1) pa_nil))) pa_nil)))), ?_⟩
    walk_at "rd"
    refine u_make ⟨xs, .inl h, hc⟩ (fun q hq => (ho q hq).good) hz.two.1 hz.two.2 (by omega) fun so H1 e1 s1 => ?_
    walk_at "rd"
    refine u_order_behind s1 ho hz fun t2 H2 e2 f2 h2 => ?_
    walk_at "rd"
    rename_i t3 H3 e3 f3 h3
    exact k t3 H3 (by walk_at "ex") h3
/-! the arrangement behind a call, by the law -/
def sp_Ldone : Sp := fun vs H Q _ => ∃ (b p : Addr) (n m : Nat) (q : C) (g : Int → Int → Int), vs = [.int (n : Int), .int (m : Int), .ref b, .ref p] ∧ H b = some (.tup ((ord n m g).map V.int)) ∧ H p = some (.tup q.vals) ∧ q.ok n ∧ Sz n m ∧ m ≤ 100 ∧ ∀ t H1, Ex H H1 → H1 t = some (.tup ((ord n m (mvg q n m g)).map V.int)) → Q (.ref t) H1
theorem u_Ldone (hb : H b = some (.tup ((ord n m g).map V.int))) (hp : H p = some (.tup q.vals)) (ho : q.ok n) (hz : Sz n m) (hm : m ≤ 100) (k : ∀ t H1, Ex H H1 → H1 t = some (.tup ((ord n m (mvg q n m g)).map V.int)) → Q (.ref t) H1) : sp_Ldone [.int (n : Int), .int (m : Int), .ref b, .ref p] H Q E := ⟨b, p, n, m, q, g, rfl, hb, hp, ho, hz, hm, k⟩
theorem ok_Ldone (T : Txt K w mg a) : FnOk P w K mg base CX0 3 a.a_Ldone a.fd_Ldone ["_law_files", "_law_rows", "_law_arrangement", "_law_call_here"] sp_Ldone := by
  refine T.F_Ldone.ok sc_Ldone (fun vs H Q E h => ?_) (fun cdv A outer s H vs Q E hr h => ?_)
  · obtain ⟨b, p, n, m, q, g, rfl, _⟩ := h; rfl
  · obtain ⟨b, p, n, m, q, g, rfl, hb, hp, ho, hz, hm, k⟩ := h
    have G_Lgoes := ok_Lgoes (P := P) (base := base) T
    have hnm := hz.lt
    have n0 := hz.n0
    have h3 := hz.two
    have m0 := hz.2.1
    have o2 : ∀ u ∈ [q], u.ok n := fun u hu => by rw [List.mem_singleton.mp hu]; exact ho
    refine ⟨_, (pss_cons (ps_set (i := 4) sc_Ldone.nd rfl (Or.inl rfl) (pe_callTy c_listOf (by rfl) T.n_list (by decide +kernel) (pa_cons (pv 2) pa_nil)))
      (pss_cons (ps_for PassesOwn.never rfl (pi_range1 (by rfl) T.n_range (pa_cons (pe_op op_mul (pv 0) (pv 1)) pa_nil)) (pg_name (i := 5) sc_Ldone.nd rfl (Or.inl rfl)) (pss_cons (ps_asg (pe_call G_Lgoes (hr.mono (by decide)) (by rfl) T.m_Lgoes T.k_Lgoes T.b_Lgoes .nil pass0 (pa_cons (pv 3) (pa_cons (pv 0) (pa_cons (pv 1) (pa_cons (pe_tup (pa_cons (pe_op op_fdivW (pv 5) (pv 0)) (pa_cons (pe_op op_sub (pv 5) (pe_op op_mul (pv 0) (pe_op op_fdivW (pv 5) (pv 0)))) pa_nil))) pa_nil))))) (pg_tup rfl (pgs_cons (pg_name (i := 6) sc_Ldone.nd rfl (Or.inl rfl)) (pgs_cons (pg_name (i := 7) sc_Ldone.nd rfl (Or.inl rfl)) pgs_nil))))
      (pss_one (ps_asg (pe_ix ix_tup (pv 2) (pv 5) (fun _ _ => rfl)) (pg_sub (pv 4) (pe_op op_add (pe_op op_mul (pv 6) (pv 0)) (pv 7)) set_list)))))
      (pss_one (ps_ret (pe_callTy c_tupOf (by rfl) T.n_tuple (by decide +kernel) (pa_cons (pv 4) pa_nil)))))), ?_⟩
    walk_at "rd"
    rename_i r0 H1 e1 f1 g1
    rw [← Int.natCast_mul]
    refine for_rng (m := ((n * m : Nat) : Int)) (by omega) (by omega) (fun i σ H' => ∃ v5 v6 v7 : Option V, σ = [some (.int n), some (.int m), some (.ref b), some (.ref p), some (.ref r0), v5, v6, v7] ∧ Ex H H' ∧ ∃ R : List Int, H' r0 = some (.lst (R.map V.int)) ∧ R.length = n * m ∧ i ≤ n * m ∧ ∀ k j : Nat, k < i → (goalsL n m [q])[k]? = some (j : Int) → R[j]? = some (g ((k : Int) / n) ((k : Int) % n)))
      ⟨_, _, _, rfl, e1, ord n m g, g1, ord_len .., Nat.zero_le _, fun k j hk => absurd hk (Nat.not_lt_zero _)⟩ (fun i σ H' hi h => ?_) (fun σ H' h => ?_)
    · obtain ⟨v5, v6, v7, rfl, e, R, hR, hRl, hi2, inv⟩ := h
      have hi' : i < n * m := by omega
      obtain ⟨j, j1, j2, j3⟩ := goal_at (m := m) n0 o2 hi'
      have on := on_at n0 hi'
      have pair : pairV (mv q n m ((i : Int) / n) ((i : Int) % n)) = [.int ((j : Int) / n), .int ((j : Int) % n)] := by
        have : mv q n m ((i : Int) / n) ((i : Int) % n) = ((j : Int) / n, (j : Int) % n) := j3.symm
        rw [this]
        rfl
      have ai : atI ((ord n m g).map V.int) (i : Int) = some (.int (g ((i : Int) / n) ((i : Int) % n))) := at_nat (by omega) (by rw [Int.toNat_natCast, List.getElem?_map, ord_get hi']; rfl)
      have ej : (j : Int) / n * n + (j : Int) % n = j := by rw [Int.mul_comm]; exact Int.mul_ediv_add_emod _ _
      walk_at "rd"
      rename_i pl H4 e4 f4 h4
      rw [← Int.emod_def] at h4
      refine u_Lgoes (e4.kp _ _ (e.kp _ _ hp NB.tup) NB.tup) ho h4 (by have := hz.1; omega) (by omega) (by omega) on.2 on.1 fun p5 H5 e5 h5 => ?_
      rw [pair] at h5
      have jn0 : 0 ≤ (j : Int) / n := Int.ediv_nonneg (by omega) (by omega)
      have jn1 : (j : Int) / n < 1000000 := Int.lt_of_le_of_lt (Int.ediv_le_self _ (by omega)) (by omega)
      walk_at "rd"
      refine x_setL (by walk_at "hk") (by rw [ej]; exact ix_nat (by rw [List.length_map, hRl]; exact j2)) ?_
      have hR5 : H5 r0 = some (.lst (R.map V.int)) := by walk_at "hk"
      refine ⟨_, _, _, rfl, Er.mutN (e.trans (e4.trans e5)) (NF.of f1) hR5 NB.ints, R.set j (g ((i : Int) / n) ((i : Int) % n)), ?_, by rw [List.length_set]; exact hRl, hi', fun k j' hk ek => ?_⟩
      · rw [upd_same, List.map_set]
      · by_cases c : k = i
        · subst c
          rw [j1] at ek
          have : j = j' := by have := Option.some.inj ek; omega
          subst this
          rw [List.getElem?_set_self (by rw [hRl]; exact j2)]
        · have ne : j ≠ j' := fun ee => by
            subst ee
            exact c (goal_inj n0 o2 (by omega) hi' ek j1)
          rw [List.getElem?_set_ne ne]
          exact inv k j' (by omega) ek
    · obtain ⟨v5, v6, v7, rfl, e, R, hR, hRl, hi, inv⟩ := h
      rw [Int.toNat_natCast] at inv
      have eR : R = ord n m (mvg q n m g) := by
        refine List.ext_getElem? fun j => ?_
        by_cases c : j < n * m
        · obtain ⟨k, hk, ek⟩ := goal_onto (m := m) n0 o2 c
          rw [inv k j hk ek, show ord n m (mvg q n m g) = ord n m (ledg [q] n m g) from rfl, (at_goalG n0 o2 hk ek).2]
        · rw [List.getElem?_eq_none (by omega), List.getElem?_eq_none (by rw [ord_len]; omega)]
      subst eR
      walk_at "rd"
      rename_i t3 H3 e3 f3 h3
      exact k t3 H3 (by walk_at "ex") h3
end
end My

set_option Elab.async false
set_option linter.all false
set_option maxRecDepth 100000
set_option maxHeartbeats 8000000
namespace My
open PySem PySem.Spec PyProof.Rows L2 Sx
local macro_rules | `(tactic| walk_at "nb") => `(tactic| first | exact NB.tup | exact NB.ints | exact NB.len (of_decide_eq_true rfl) | exact NB.at0b rfl | exact NB.at3b rfl | exact NB.ins | exact NB.own | exact NB.frz | exact NB.refs (by assumption) | assumption)
local macro_rules | `(tactic| walk_at "ne") => `(tactic| first | assumption | exact Ne.symm (by assumption) | exact ne_of_none (by assumption) (by assumption) | exact Ne.symm (ne_of_none (by assumption) (by assumption)))
local macro_rules | `(tactic| walk_at "hk") => `(tactic| first
  | assumption
  | exact upd_same
  | (refine' (upd_ne ?hkne).trans ?hkq; (case hkne => walk_at "ne"); (case hkq => walk_at "hk"))
  | (refine' Ex.kp (by assumption) _ _ ?hkq ?hkn; (case hkq => walk_at "hk"); (case hkn => walk_at "nb")))
local macro_rules | `(tactic| walk_at "rd1") => `(tactic| first
  | ((with_reducible refine' x_var ?hx ?_); (case hx => exact rfl))
  | with_reducible refine x_c ?_
  | with_reducible refine x_op ?_
  | with_reducible refine x_un ?_
  | with_reducible refine x_I0 ?_
  | with_reducible refine x_U ?_
  | ((with_reducible refine x_I ?hc ?_); (case hc => first | exact (by decide : (0 : Int) < _) | (show (0 : Int) < _; omega) | (show CMul _ _; first | exact .inl ⟨by omega, by omega⟩ | exact .inr ⟨by omega, by omega⟩) | (show CDiv _ _; exact ⟨by omega, by omega⟩) | (show CDivW _ _; exact wide_div (b := 200) (by omega) (by assumption) (by decide) (by decide)) | (show CDivW _ _; exact wide_div (b := 31) (by omega) (by omega) (by decide) (by decide))))
  | with_reducible refine x_EqI ?_
  | with_reducible refine x_NeI ?_
  | ((with_reducible refine x_EqSt ?h ?_); (case h => decide +kernel))
  | ((with_reducible refine x_EqSf ?h ?_); (case h => decide +kernel))
  | ((with_reducible refine x_NeSt ?h ?_); (case h => decide +kernel))
  | ((with_reducible refine x_NeSf ?h ?_); (case h => decide +kernel))
  | with_reducible refine x_EqS ?_
  | with_reducible refine x_NeS ?_
  | ((with_reducible refine' x_ixL ?hq ?hi ?_); (case hq => walk_at "hk"); (case hi => first | exact rfl | assumption))
  | ((with_reducible refine' x_ixT ?hq ?hi ?_); (case hq => walk_at "hk"); (case hi => first | exact rfl | assumption))
  | with_reducible refine x_chain ?_
  | with_reducible refine x_tup ?_
  | with_reducible refine x_lst ?_
  | ((with_reducible refine x_lenNew ?hl ?_); (case hl => exact Nat.le_of_ble_eq_true rfl); intro _ _ _ _ _)
  | ((with_reducible refine x_new ?_); intro _ _ _ _ _)
  | with_reducible refine x_sl ?_
  | with_reducible refine x_noPart ?_
  | with_reducible refine x_part ?_
  | with_reducible refine x_ex_int ?_
  | with_reducible refine x_ex_bl ?_
  | with_reducible refine x_ex_2 ?_
  | with_reducible refine x_test ?_
  | with_reducible refine x_B ?_
  | with_reducible refine x_and ?_
  | with_reducible refine x_or ?_
  | with_reducible refine x_not ?_
  | with_reducible refine x_andV ?_
  | with_reducible refine x_orV ?_
  | with_reducible refine x_notV ?_
  | with_reducible refine x_ifE ?_
  | with_reducible refine x_iteT ?_
  | with_reducible refine x_iteF ?_
  | ((with_reducible refine x_iteD ?_ ?_) <;> intro _)
  | ((with_reducible refine x_iteN ?_ ?_) <;> intro _)
  | with_reducible refine x_if ?_
  | with_reducible refine x_seq ?_
  | with_reducible refine x_next ?_
  | with_reducible refine x_asg ?_
  | with_reducible refine x_gName ?_
  | ((with_reducible refine' x_gTup ?hq ?hn ?_); (case hq => walk_at "hk"); (case hn => exact rfl))
  | with_reducible refine x_gCons ?_
  | with_reducible refine x_gNil ?_
  | ((with_reducible refine' x_gConsE ?h ?_); (case h => exact rfl))
  | ((with_reducible refine x_gNilE ?h ?_); (case h => exact rfl))
  | with_reducible refine x_ret ?_
  | with_reducible refine x_drop ?_
  | with_reducible refine x_par ?_
  | ((with_reducible refine' x_aug ?hx ?_); (case hx => exact rfl))
  | with_reducible refine x_ipI ?_
  | with_reducible refine x_augS ?_
  | with_reducible refine x_gSub ?_
  | ((with_reducible refine' x_setL ?hq ?hi ?_); (case hq => walk_at "hk"); (case hi => first | exact rfl | assumption))
  | with_reducible refine x_cons ?_
  | with_reducible refine x_nil ?_
  | with_reducible refine x_CB ?_
  | with_reducible refine x_abs ?_
  | with_reducible refine x_intI ?_
  | with_reducible refine x_intB ?_
  | ((with_reducible refine' x_lenL ?hq ?_); (case hq => walk_at "hk"))
  | ((with_reducible refine' x_lenT ?hq ?_); (case hq => walk_at "hk"))
  | ((with_reducible refine x_iteTe ?h ?_); (case h => exact rfl))
  | ((with_reducible refine x_iteFe ?h ?_); (case h => exact rfl))
  | walk_at "use"
  | with_reducible refine x_callS ?_
  | ((with_reducible refine x_lc ?_))
  | ((with_reducible refine x_for ?_))
  | ((with_reducible refine x_iR1 ?_))
  | ((with_reducible refine x_iL ?_))
  | ((with_reducible refine x_iZ ?_))
  | ((with_reducible refine x_yes ?_))
  | ((with_reducible refine' x_NIDt ?hq ?_); (case hq => assumption))
  | ((with_reducible refine' x_NIDf ?hq ?_); (case hq => assumption))
  | ((with_reducible refine' x_IIDf ?hq ?_); (case hq => assumption))
  | ((with_reducible refine' x_IIDt ?hq ?_); (case hq => assumption))
  | ((with_reducible refine' x_ixDs ?hd ?hq ?_); (case hd => assumption); (case hq => assumption))
  | ((with_reducible refine x_InSt ?h ?_); (case h => decide +kernel))
  | ((with_reducible refine x_InSf ?h ?_); (case h => decide +kernel))
  | ((with_reducible refine' x_notInI ?hq ?_); (case hq => walk_at "hk"))
  | ((with_reducible refine' x_inTt ?hq ?hv ?ha ?he ?_); (case hq => walk_at "hk"); (case hv => exact rfl); (case ha => exact rfl); (case he => decide +kernel))
  | ((with_reducible refine' x_inTf ?hq ?hv ?ha ?he ?_); (case hq => walk_at "hk"); (case hv => exact rfl); (case ha => exact rfl); (case he => decide +kernel))
  | ((with_reducible refine' x_slT ?hq ?hw ?_); (case hq => walk_at "hk"); (case hw => with_unfolding_all exact of_decide_eq_true rfl))
  | ((with_reducible refine' x_slL ?hq ?_); (case hq => walk_at "hk"))
  | ((with_reducible refine' x_catT ?hq ?hr ?n1 ?n2 ?hl ?_); (case hq => walk_at "hk"); (case hr => walk_at "hk"); (case n1 => exact List.cons_ne_nil _ _); (case n2 => exact List.cons_ne_nil _ _); (case hl => exact Nat.le_of_ble_eq_true rfl))
  | ((with_reducible refine x_bm ?_))
  | ((with_reducible refine x_lstRg ?_))
  | ((with_reducible refine x_rg1 ?_))
  | ((with_reducible refine And.intro ?h ?_); (case h => exact tyL (by assumption)))
  | dsimp only)
local macro_rules | `(tactic| walk_at "use") => `(tactic| fail)
local macro_rules | `(tactic| walk_at "rd") => `(tactic| repeat' (walk_at "rd1"))
local macro_rules | `(tactic| walk_at "ex") => `(tactic| first | exact Ex.refl _ | assumption | (refine' Ex.trans ?he (by assumption); (case he => walk_at "ex")))
local macro_rules | `(tactic| walk_at "rd1") => `(tactic| first
  | ((with_reducible refine x_iteDf ?h ?_); (case h => exact rfl))
  | ((with_reducible refine x_iteDt ?h ?_); (case h => exact rfl))
  | ((with_reducible refine x_iteNf ?h ?_); (case h => exact rfl))
  | ((with_reducible refine x_iteNt ?h ?_); (case h => exact rfl))
  | ((with_reducible refine x_isiI (r := true) ?h ?_); (case h => decide +kernel))
  | ((with_reducible refine x_isiI (r := false) ?h ?_); (case h => decide +kernel))
  | ((with_reducible refine x_isiS (r := true) ?h ?_); (case h => decide +kernel))
  | ((with_reducible refine x_isiS (r := false) ?h ?_); (case h => decide +kernel))
  | ((with_reducible refine x_isiB (r := true) ?h ?_); (case h => decide +kernel))
  | ((with_reducible refine x_isiB (r := false) ?h ?_); (case h => decide +kernel))
  | ((with_reducible refine' x_isiT (r := true) ?hp ?h ?_); (case hp => walk_at "hk"); (case h => decide +kernel))
  | ((with_reducible refine' x_isiT (r := false) ?hp ?h ?_); (case hp => walk_at "hk"); (case h => decide +kernel))
  | ((with_reducible refine' x_isiL (r := true) ?hp ?h ?_); (case hp => walk_at "hk"); (case h => decide +kernel))
  | ((with_reducible refine' x_isiL (r := false) ?hp ?h ?_); (case hp => walk_at "hk"); (case h => decide +kernel))
  | ((with_reducible refine' x_isi2L ?hp ?hl ?_); (case hp => walk_at "hk"); (case hl => walk_at "hk"))
  | ((with_reducible refine' x_isi2T ?hp ?hl ?_); (case hp => walk_at "hk"); (case hl => walk_at "hk"))
  | ((with_reducible refine' x_tupOfL ?hq ?_); (case hq => walk_at "hk"))
  | ((with_reducible refine' x_tupOfT ?hq ?_); (case hq => walk_at "hk"))
  | ((with_reducible refine x_lenS ?h ?_); (case h => exact Nat.le_of_ble_eq_true rfl))
  | ((with_reducible refine' x_all ?hq ?_); (case hq => walk_at "hk"))
  | with_reducible refine x_lenSet ?_)
local macro_rules | `(tactic| walk_at "nb") => `(tactic| first | exact NB.xd | exact NB.dK)
local macro_rules | `(tactic| walk_at "rd1") => `(tactic| first
  | with_reducible refine Er.x_par3 ?_
  | with_reducible refine Er.x_ex_3 ?_
  | with_reducible refine Er.x_revL0 ?_
  | ((with_reducible refine' Er.x_revL ?hq ?_); (case hq => walk_at "hk"))
  | with_reducible refine Er.x_dget2 ?_
  | with_reducible refine x_dict0 ?_
  | ((with_reducible refine x_pow ?hc ?_); (case hc => exact ⟨by decide, by decide, by decide⟩))
  | ((with_reducible refine And.intro ?h ?_); (case h => exact tyL (by walk_at "hk")))
  | ((with_reducible refine' Er.x_dis ?hq ?_); (case hq => walk_at "hk"))
  | ((with_reducible refine' Er.x_dgo ?hq ?he ?_); (case hq => walk_at "hk"); (case he => exact rfl)))
local macro_rules | `(tactic| walk_at "rd1") => `(tactic| first
  | with_reducible refine Er.x_callSS ?_
  | ((with_reducible refine Er.x_mulS2 ?h ?h0 ?h1 ?_); (case h => decide); (case h0 => decide); (case h1 => decide)))
local macro_rules | `(tactic| walk_at "rd1") => `(tactic| first
  | with_reducible refine Er.x_iR2 ?_
  | with_reducible refine Er.x_iEn ?_
  | with_reducible refine Er.x_cont ?_
  | ((with_reducible refine Er.x_isBt ?h ?_); (case h => exact rfl))
  | ((with_reducible refine Er.x_isBf ?h ?_); (case h => exact rfl))
  | ((with_reducible refine Er.x_isNBt ?h ?_); (case h => exact rfl))
  | ((with_reducible refine Er.x_isNBf ?h ?_); (case h => exact rfl))
  | with_reducible refine Er.x_isB ?_
  | with_reducible refine Er.x_isNB ?_)

open Cl
local macro_rules | `(tactic| walk_at "bg") => `(tactic| first | assumption | exact Ex.bag (by assumption) (by walk_at "bg"))
local macro_rules | `(tactic| walk_at "use") => `(tactic| ((with_reducible refine' u_Ltake ?hb ?h0 ?h1 ?_); (case hb => walk_at "bg"); (case h0 => omega); (case h1 => omega); intro _ _ _ _ _))
local macro_rules | `(tactic| walk_at "nb") => `(tactic| first | exact NB.strs | exact NB.ints | assumption)
section
variable {P : Program} {w : World} {K : PySem.W.Frag} {mg : Str → Option Value} {base : Heap} {a : Ad} {H H1 : Hp} {Q : VK} {E : XK} {p b c t s l : Addr} {xs ys : List V} {q : C} {qs us : List C} {n m : Nat} {g : Int → Int → Int}
open Er
/-! calls as data that can be compared -/
theorem C.shaped : SeqAt.shaped (qd q) = true := by
  have h := C.lay0 q
  unfold SeqAt.shaped
  rw [h.1, decide_eq_true (Nat.le_trans h.2 (by decide))]
  rfl
theorem lay_calls (qs : List C) : (PyData.list (qs.map qd)).canLay0 = true := by
  have := (lay_all qs).1
  simpa [PyData.canLay0] using this
theorem x_notInC (hp : H p = some (.tup q.vals)) (hl : H l = some (.lst xs)) (hc : Cls H xs qs) (k : ∀ r, Q (.bl r) H) : rNotInD K (.ref p) (.ref l) H Q :=
  ⟨_, _, C.dp hp, .lst (SqL.of hl) hc.dps, C.shaped, (shaped_qs qs).2, k _⟩
/-- != of lists of the same calls -/
theorem x_neSame (hl : H l = some (.lst xs)) (hp : H p = some (.lst ys)) (hc : Cls H xs qs) (hd : Cls H ys qs) (k : Q (.bl false) H) : rNeD K (.ref l) (.ref p) H Q := by
  refine x_NeD (.lst (SqL.of hl) hc.dps) (.lst (SqL.of hp) hd.dps) (shaped_qs qs).2 (shaped_qs qs).2 ?_
  rw [SeqAt.eqv_refl _ (lay_calls qs)]
  exact k
/-- != of a list of calls and an empty one -/
theorem x_neNone (hl : H l = some (.lst xs)) (hp : H p = some (.lst [])) (hc : Cls H xs qs) (k : ∀ r, (r = true → qs ≠ []) → Q (.bl r) H) : rNeD K (.ref l) (.ref p) H Q := by
  refine x_NeD (.lst (SqL.of hl) hc.dps) (.lst (SqL.of hp) .nil) (shaped_qs qs).2 (by decide +kernel) (k _ fun h e => ?_)
  subst e
  rw [List.map_nil, show PyData.eqv (.list []) (.list []) = true by decide +kernel] at h
  cases h
theorem dp_ints {ns : List Int} : DpAll K H (ns.map V.int) (ns.map .int) := by
  induction ns with
  | nil => exact .nil
  | cons n ns ih => exact .cons (.int n) ih
theorem shaped_intsT (ns : List Int) : SeqAt.shaped (.tuple (ns.map .int)) = true ∧ (PyData.tuple (ns.map .int)).canLay0 = true := by
  have h : PyData.canLayAll0 (ns.map PyData.int) = true ∧ PyData.depthAll (ns.map PyData.int) = 0 := by
    induction ns with
    | nil => simp [PyData.canLayAll0, PyData.depthAll]
    | cons n ns ih => simp [PyData.canLayAll0, PyData.depthAll, PyData.canLay0, PyData.depth, ih.1, ih.2]
  simp [SeqAt.shaped, PyData.canLay0, PyData.depth, h.1, h.2]
/-- != of equal tuples of ints -/
theorem x_neIntsT {ns : List Int} (hl : H l = some (.tup (ns.map V.int))) (hp : H p = some (.tup (ns.map V.int))) (k : Q (.bl false) H) : rNeD K (.ref l) (.ref p) H Q := by
  refine x_NeD (.tup (SqT.of hl) dp_ints) (.tup (SqT.of hp) dp_ints) (shaped_intsT ns).1 (shaped_intsT ns).1 ?_
  rw [SeqAt.eqv_refl _ (shaped_intsT ns).2]
  exact k
theorem hu65 {k : Nat} {A : Around} (r : Room k A) : A.units + 65 < cLine := by
  have := r.un
  omega
/-! a small line -/
def Drawn (fs : Int) (qs : List C) : Prop := ∀ q ∈ qs, q.ok fs ∧ q.kAbs < 10 ^ 40
def Small (n m : Nat) : Prop := Sz n m ∧ m ≤ 3
def kinds11 : List Str := ["all", "up", "up", "swap", "wheel", "about", "front", "halve", "pair", "others", "fill"]
def sp_Lsmall : Sp := fun vs H Q _ => ∃ b : Addr, vs = [.ref b] ∧ Bag b H ∧ ∀ t l (n m : Nat) xs qs H1, Ex H H1 → H1 t = some (.tup [.int (n : Int), .int (m : Int), .ref l]) → Small n m → H1 l = some (.lst xs) → Cls H1 xs qs → Drawn n qs → qs.length ≤ 10 → Q (.ref t) H1
theorem u_Lsmall (hb : Bag b H) (k : ∀ t l (n m : Nat) xs qs H1, Ex H H1 → H1 t = some (.tup [.int (n : Int), .int (m : Int), .ref l]) → Small n m → H1 l = some (.lst xs) → Cls H1 xs qs → Drawn n qs → qs.length ≤ 10 → Q (.ref t) H1) : sp_Lsmall [.ref b] H Q E := ⟨b, rfl, hb, k⟩
theorem ok_Lsmall (T : Txt K w mg a) : FnOk P w K mg base CX0 4 a.a_Lsmall a.fd_Lsmall ["_law_bag_here"] sp_Lsmall := by
  refine T.F_Lsmall.ok sc_Lsmall (fun vs H Q E h => ?_) (fun cdv A outer s H vs Q E hr h => ?_)
  · obtain ⟨b, rfl, _⟩ := h; rfl
  · obtain ⟨b, rfl, hb, k⟩ := h
    have G_Ltake := ok_Ltake (P := P) (base := base) T
    have G_Lone := ok_Lone (P := P) (base := base) T
    have G_Lcall := ok_Lcall (P := P) (base := base) T
    refine ⟨_, (pss_cons (ps_asg (pe_call G_Lone (hr.mono (by decide)) (by rfl) T.m_Lone T.k_Lone T.b_Lone .nil pass0 (pa_cons (pv 0) (pa_cons (pe_lst (pa_cons (pe_tup (pa_cons pe_int (pa_cons pe_int pa_nil))) (pa_cons (pe_tup (pa_cons pe_int (pa_cons pe_int pa_nil))) (pa_cons (pe_tup (pa_cons pe_int (pa_cons pe_int pa_nil))) (pa_cons (pe_tup (pa_cons pe_int (pa_cons pe_int pa_nil))) (pa_cons (pe_tup (pa_cons pe_int (pa_cons pe_int pa_nil))) (pa_cons (pe_tup (pa_cons pe_int (pa_cons pe_int pa_nil))) (pa_cons (pe_tup (pa_cons pe_int (pa_cons pe_int pa_nil))) pa_nil)))))))) pa_nil))) (pg_tup rfl (pgs_cons (pg_name (i := 1) sc_Lsmall.nd rfl (Or.inl rfl)) (pgs_cons (pg_name (i := 2) sc_Lsmall.nd rfl (Or.inl rfl)) pgs_nil))))
      (pss_cons (ps_par (i := 3) (j := 4) rfl sc_Lsmall.nd rfl rfl (by decide) rfl rfl (pa_cons (pe_lst (pa_cons pe_str (pa_cons pe_str (pa_cons pe_str (pa_cons pe_str (pa_cons pe_str (pa_cons pe_str (pa_cons pe_str (pa_cons pe_str (pa_cons pe_str (pa_cons pe_str (pa_cons pe_str pa_nil)))))))))))) (pa_cons (pe_lst pa_nil) pa_nil)) rfl)
      (pss_cons (ps_for PassesOwn.never rfl (pi_range1 (by rfl) T.n_range (pa_cons (pe_call G_Ltake (hr.mono (by decide)) (by rfl) T.m_Ltake T.k_Ltake T.b_Ltake .nil pass0 (pa_cons (pv 0) (pa_cons pe_int pa_nil))) pa_nil)) (pg_name (i := 5) sc_Lsmall.nd rfl (Or.inl rfl)) (pss_cons (ps_set (i := 6) sc_Lsmall.nd rfl (Or.inl rfl) (pe_call G_Lcall (hr.mono (by decide)) (by rfl) T.m_Lcall T.k_Lcall T.b_Lcall .nil pass0 (pa_cons (pv 0) (pa_cons (pv 1) (pa_cons (pv 3) (pa_cons (pe_call G_Lone (hr.mono (by decide)) (by rfl) T.m_Lone T.k_Lone T.b_Lone .nil pass0 (pa_cons (pv 0) (pa_cons (pe_lst (pa_cons pe_int (pa_cons pe_int (pa_cons pe_int (pa_cons (pe_op op_pow pe_int pe_int) pa_nil))))) pa_nil))) pa_nil))))))
      (pss_one (ps_if (pt_cmpR (op_notInD (hu65 hr)) (pv 6) (pv 4) (by rfl)) (pss_one (ps_expr (pe_bm PySem.F.plainAttrs_list PySem.F.slot_list_append PySem.F.type_list_append mt_append (pv 4) (pa_cons (pv 6) pa_nil)))) pss_nil))))
      (pss_one (ps_ret (pe_tup (pa_cons (pv 1) (pa_cons (pv 2) (pa_cons (pv 4) pa_nil))))))))), ?_⟩
    walk_at "rd"
    rename_i a1 G1 e1 f1 h1 a2 G2 e2 f2 h2 a3 G3 e3 f3 h3 a4 G4 e4 f4 h4 a5 G5 e5 f5 h5 a6 G6 e6 f6 h6 a7 G7 e7 f7 h7 a8 G8 e8 f8 h8
    have hv : ∀ v ∈ [V.ref a1, .ref a2, .ref a3, .ref a4, .ref a5, .ref a6, .ref a7], ∃ (p : Addr) (n m : Nat), v = .ref p ∧ G8 p = some (.tup [.int (n : Int), .int (m : Int)]) ∧ Small n m := by
      intro v hv
      simp only [List.mem_cons, List.not_mem_nil, or_false] at hv
      rcases hv with rfl | rfl | rfl | rfl | rfl | rfl | rfl
      · exact ⟨_, 2, 1, rfl, by walk_at "hk", ⟨.inl rfl, by decide, by decide⟩, by decide⟩
      · exact ⟨_, 2, 2, rfl, by walk_at "hk", ⟨.inl rfl, by decide, by decide⟩, by decide⟩
      · exact ⟨_, 2, 3, rfl, by walk_at "hk", ⟨.inl rfl, by decide, by decide⟩, by decide⟩
      · exact ⟨_, 2, 3, rfl, by walk_at "hk", ⟨.inl rfl, by decide, by decide⟩, by decide⟩
      · exact ⟨_, 3, 1, rfl, by walk_at "hk", ⟨.inr rfl, by decide, by decide⟩, by decide⟩
      · exact ⟨_, 3, 2, rfl, by walk_at "hk", ⟨.inr rfl, by decide, by decide⟩, by decide⟩
      · exact ⟨_, 3, 2, rfl, by walk_at "hk", ⟨.inr rfl, by decide, by decide⟩, by decide⟩
    have ex8 : Ex H G8 := by walk_at "ex"
    have hb8 := ex8.bag hb
    refine u_Lone hb8 h8 (NB.at0b rfl) (Nat.lt_of_sub_pos (Nat.zero_lt_succ 6)) (Nat.lt_of_le_of_lt (Nat.le_refl 7) (by decide)) fun v H1 e9 hv' => ?_
    obtain ⟨p, n, m, rfl, hp, sm⟩ := hv v hv'
    have hp1 := e9.kp _ _ hp NB.tup
    have ex1 : Ex H H1 := ex8.trans e9
    have hb1 := e9.bag hb8
    clear hv hv' hp hb8 ex8 e9 e1 e2 e3 e4 e5 e6 e7 e8 h1 h2 h3 h4 h5 h6 h7 h8 f1 f2 f3 f4 f5 f6 f7 f8
    walk_at "rd"
    rename_i kp H2 e2 f2 h2 fp H3 e3 f3 h3 d H4 e4 d0 d1
    have hk2 : H2 kp = some (.lst (kinds11.map V.str)) := h2
    have nkf : kp ≠ fp := ne_of_none hk2 f3
    have hk4 := (e3.trans e4).kp _ _ hk2 NB.strs
    have hf4 : H4 fp = some (.lst []) := e4.kp _ _ h3 (NB.len (by decide))
    have ff : NF H1 fp := NF.back e2 (NF.of f3)
    have ex4 : Ex H1 H4 := by walk_at "ex"
    have hfs : (n : Int) = 2 ∨ (n : Int) = 3 := by have := sm.1.1; omega
    clear h2 hk2 h3 e2 e3 e4 f2 f3
    refine for_rng (m := d) (by omega) (by omega) (fun i σ H' => ∃ (xs : List V) (qs : List C) (v5 v6 : Option V), σ = [some (.ref b), some (.int n), some (.int m), some (.ref kp), some (.ref fp), v5, v6] ∧ Ex H1 H' ∧ H' kp = some (.lst (kinds11.map V.str)) ∧ H' fp = some (.lst xs) ∧ Cls H' xs qs ∧ Drawn n qs ∧ qs.length ≤ i) ⟨[], [], _, _, rfl, ex4, hk4, hf4, .nil, (by intro q hq; cases hq), Nat.zero_le _⟩
      (fun i σ H' hi h => ?_) (fun σ H' h => ?_)
    · obtain ⟨xs, qs, v5, v6, rfl, ex, hk, hf, hc, dr, hl⟩ := h
      have hb' := ex.bag hb1
      have nbx := hc.nb
      clear ex4 hk4 hf4
      walk_at "rd"
      rename_i mp H5 e5 f5 h5
      refine u_Lone (e5.bag hb') h5 (NB.at3b rfl) (Nat.lt_of_sub_pos (Nat.zero_lt_succ 3)) (Nat.lt_of_le_of_lt (Nat.le_refl 4) (by decide)) fun v H6 e6 hv => ?_
      obtain ⟨z, rfl, z0, z1⟩ : ∃ z : Int, v = .int z ∧ 0 < z ∧ z.natAbs ≤ 10 ^ 30 := by
        simp only [List.mem_cons, List.not_mem_nil, or_false] at hv
        rcases hv with rfl | rfl | rfl | rfl
        · exact ⟨_, rfl, by decide, by decide⟩
        · exact ⟨_, rfl, by decide, by decide⟩
        · exact ⟨_, rfl, by decide, by decide⟩
        · exact ⟨_, rfl, by decide, by decide⟩
      have e56 := e5.trans e6
      clear e5 e6 h5 f5
      walk_at "rd"
      refine u_Lcall kinds11 (e56.bag hb') hfs (e56.kp _ _ hk NB.strs) (by decide) (by decide) (by decide) z0 (Nat.lt_of_le_of_lt z1 (by decide)) fun p1 q H7 e7 h7 ok kb => ?_
      have e07 := e56.trans e7
      have hk7 := e07.kp _ _ hk NB.strs
      have hf7 := e07.kp _ _ hf nbx
      have hc7 := hc.ex e07
      have ex7 := ex.trans e07
      clear e56 e7 e07 hb' hk hf hc ex
      walk_at "rd"
      refine x_notInC h7 hf7 hc7 fun r => ?_
      cases r with
      | true =>
        walk_at "rd"
        refine Er.x_append hf7 (by rw [hc7.len]; exact Nat.lt_of_le_of_lt (show qs.length ≤ 10 by omega) (by decide)) ?_
        have hne : p1 ≠ fp := ne_of h7 hf7 (by simp)
        have tx : Tx H7 (upd H7 fp (.lst (xs ++ [.ref p1]))) := Tx.set hf7
        walk_at "rd"
        refine ⟨xs ++ [.ref p1], qs ++ [q], _, _, rfl, Er.mutN ex7 ff hf7 nbx, by rw [upd_ne nkf]; exact hk7, upd_same, (hc7.one h7).mono tx, ?_, by simp; omega⟩
        intro q' hq'
        rcases List.mem_append.mp hq' with hq' | hq'
        · exact dr q' hq'
        · rw [List.mem_singleton.mp hq']
          exact ⟨ok, Nat.lt_of_le_of_lt (Nat.le_trans kb z1) (by decide)⟩
      | false =>
        walk_at "rd"
        exact ⟨xs, qs, _, _, rfl, ex7, hk7, hf7, hc7, dr, by omega⟩
    · obtain ⟨xs, qs, v5, v6, rfl, ex, hk, hf, hc, dr, hl⟩ := h
      have nbx := hc.nb
      walk_at "rd"
      rename_i t H5 e5 f5 h5
      exact k t fp n m xs qs H5 (ex1.trans (ex.trans e5)) h5 sm (e5.kp _ _ hf nbx) (hc.ex e5) dr (by omega)
end
end My

set_option Elab.async false
set_option linter.all false
set_option maxRecDepth 100000
set_option maxHeartbeats 8000000
namespace My
open PySem PySem.Spec PyProof.Rows L2 Sx
local macro_rules | `(tactic| walk_at "nb") => `(tactic| first | exact NB.tup | exact NB.ints | exact NB.len (of_decide_eq_true rfl) | exact NB.at0b rfl | exact NB.at3b rfl | exact NB.ins | exact NB.own | exact NB.frz | exact NB.refs (by assumption) | assumption)
local macro_rules | `(tactic| walk_at "ne") => `(tactic| first | assumption | exact Ne.symm (by assumption) | exact ne_of_none (by assumption) (by assumption) | exact Ne.symm (ne_of_none (by assumption) (by assumption)))
local macro_rules | `(tactic| walk_at "hk") => `(tactic| first
  | assumption
  | exact upd_same
  | (refine' (upd_ne ?hkne).trans ?hkq; (case hkne => walk_at "ne"); (case hkq => walk_at "hk"))
  | (refine' Ex.kp (by assumption) _ _ ?hkq ?hkn; (case hkq => walk_at "hk"); (case hkn => walk_at "nb")))
local macro_rules | `(tactic| walk_at "rd1") => `(tactic| first
  | ((with_reducible refine' x_var ?hx ?_); (case hx => exact rfl))
  | with_reducible refine x_c ?_
  | with_reducible refine x_op ?_
  | with_reducible refine x_un ?_
  | with_reducible refine x_I0 ?_
  | with_reducible refine x_U ?_
  | ((with_reducible refine x_I ?hc ?_); (case hc => first | exact (by decide : (0 : Int) < _) | (show (0 : Int) < _; omega) | (show CMul _ _; first | exact .inl ⟨by omega, by omega⟩ | exact .inr ⟨by omega, by omega⟩) | (show CDiv _ _; exact ⟨by omega, by omega⟩) | (show CDivW _ _; exact wide_div (b := 200) (by omega) (by assumption) (by decide) (by decide)) | (show CDivW _ _; exact wide_div (b := 31) (by omega) (by omega) (by decide) (by decide))))
  | with_reducible refine x_EqI ?_
  | with_reducible refine x_NeI ?_
  | ((with_reducible refine x_EqSt ?h ?_); (case h => decide +kernel))
  | ((with_reducible refine x_EqSf ?h ?_); (case h => decide +kernel))
  | ((with_reducible refine x_NeSt ?h ?_); (case h => decide +kernel))
  | ((with_reducible refine x_NeSf ?h ?_); (case h => decide +kernel))
  | with_reducible refine x_EqS ?_
  | with_reducible refine x_NeS ?_
  | ((with_reducible refine' x_ixL ?hq ?hi ?_); (case hq => walk_at "hk"); (case hi => first | exact rfl | assumption))
  | ((with_reducible refine' x_ixT ?hq ?hi ?_); (case hq => walk_at "hk"); (case hi => first | exact rfl | assumption))
  | with_reducible refine x_chain ?_
  | with_reducible refine x_tup ?_
  | with_reducible refine x_lst ?_
  | ((with_reducible refine x_lenNew ?hl ?_); (case hl => exact Nat.le_of_ble_eq_true rfl); intro _ _ _ _ _)
  | ((with_reducible refine x_new ?_); intro _ _ _ _ _)
  | with_reducible refine x_sl ?_
  | with_reducible refine x_noPart ?_
  | with_reducible refine x_part ?_
  | with_reducible refine x_ex_int ?_
  | with_reducible refine x_ex_bl ?_
  | with_reducible refine x_ex_2 ?_
  | with_reducible refine x_test ?_
  | with_reducible refine x_B ?_
  | with_reducible refine x_and ?_
  | with_reducible refine x_or ?_
  | with_reducible refine x_not ?_
  | with_reducible refine x_andV ?_
  | with_reducible refine x_orV ?_
  | with_reducible refine x_notV ?_
  | with_reducible refine x_ifE ?_
  | with_reducible refine x_iteT ?_
  | with_reducible refine x_iteF ?_
  | ((with_reducible refine x_iteD ?_ ?_) <;> intro _)
  | ((with_reducible refine x_iteN ?_ ?_) <;> intro _)
  | with_reducible refine x_if ?_
  | with_reducible refine x_seq ?_
  | with_reducible refine x_next ?_
  | with_reducible refine x_asg ?_
  | with_reducible refine x_gName ?_
  | ((with_reducible refine' x_gTup ?hq ?hn ?_); (case hq => walk_at "hk"); (case hn => exact rfl))
  | with_reducible refine x_gCons ?_
  | with_reducible refine x_gNil ?_
  | ((with_reducible refine' x_gConsE ?h ?_); (case h => exact rfl))
  | ((with_reducible refine x_gNilE ?h ?_); (case h => exact rfl))
  | with_reducible refine x_ret ?_
  | with_reducible refine x_drop ?_
  | with_reducible refine x_par ?_
  | ((with_reducible refine' x_aug ?hx ?_); (case hx => exact rfl))
  | with_reducible refine x_ipI ?_
  | with_reducible refine x_augS ?_
  | with_reducible refine x_gSub ?_
  | ((with_reducible refine' x_setL ?hq ?hi ?_); (case hq => walk_at "hk"); (case hi => first | exact rfl | assumption))
  | with_reducible refine x_cons ?_
  | with_reducible refine x_nil ?_
  | with_reducible refine x_CB ?_
  | with_reducible refine x_abs ?_
  | with_reducible refine x_intI ?_
  | with_reducible refine x_intB ?_
  | ((with_reducible refine' x_lenL ?hq ?_); (case hq => walk_at "hk"))
  | ((with_reducible refine' x_lenT ?hq ?_); (case hq => walk_at "hk"))
  | ((with_reducible refine x_iteTe ?h ?_); (case h => exact rfl))
  | ((with_reducible refine x_iteFe ?h ?_); (case h => exact rfl))
  | walk_at "use"
  | with_reducible refine x_callS ?_
  | ((with_reducible refine x_lc ?_))
  | ((with_reducible refine x_for ?_))
  | ((with_reducible refine x_iR1 ?_))
  | ((with_reducible refine x_iL ?_))
  | ((with_reducible refine x_iZ ?_))
  | ((with_reducible refine x_yes ?_))
  | ((with_reducible refine' x_NIDt ?hq ?_); (case hq => assumption))
  | ((with_reducible refine' x_NIDf ?hq ?_); (case hq => assumption))
  | ((with_reducible refine' x_IIDf ?hq ?_); (case hq => assumption))
  | ((with_reducible refine' x_IIDt ?hq ?_); (case hq => assumption))
  | ((with_reducible refine' x_ixDs ?hd ?hq ?_); (case hd => assumption); (case hq => assumption))
  | ((with_reducible refine x_InSt ?h ?_); (case h => decide +kernel))
  | ((with_reducible refine x_InSf ?h ?_); (case h => decide +kernel))
  | ((with_reducible refine' x_notInI ?hq ?_); (case hq => walk_at "hk"))
  | ((with_reducible refine' x_inTt ?hq ?hv ?ha ?he ?_); (case hq => walk_at "hk"); (case hv => exact rfl); (case ha => exact rfl); (case he => decide +kernel))
  | ((with_reducible refine' x_inTf ?hq ?hv ?ha ?he ?_); (case hq => walk_at "hk"); (case hv => exact rfl); (case ha => exact rfl); (case he => decide +kernel))
  | ((with_reducible refine' x_slT ?hq ?hw ?_); (case hq => walk_at "hk"); (case hw => with_unfolding_all exact of_decide_eq_true rfl))
  | ((with_reducible refine' x_slL ?hq ?_); (case hq => walk_at "hk"))
  | ((with_reducible refine' x_catT ?hq ?hr ?n1 ?n2 ?hl ?_); (case hq => walk_at "hk"); (case hr => walk_at "hk"); (case n1 => exact List.cons_ne_nil _ _); (case n2 => exact List.cons_ne_nil _ _); (case hl => exact Nat.le_of_ble_eq_true rfl))
  | ((with_reducible refine x_bm ?_))
  | ((with_reducible refine x_lstRg ?_))
  | ((with_reducible refine x_rg1 ?_))
  | ((with_reducible refine And.intro ?h ?_); (case h => exact tyL (by assumption)))
  | dsimp only)
local macro_rules | `(tactic| walk_at "use") => `(tactic| fail)
local macro_rules | `(tactic| walk_at "rd") => `(tactic| repeat' (walk_at "rd1"))
local macro_rules | `(tactic| walk_at "ex") => `(tactic| first | exact Ex.refl _ | assumption | (refine' Ex.trans ?he (by assumption); (case he => walk_at "ex")))
local macro_rules | `(tactic| walk_at "rd1") => `(tactic| first
  | ((with_reducible refine x_iteDf ?h ?_); (case h => exact rfl))
  | ((with_reducible refine x_iteDt ?h ?_); (case h => exact rfl))
  | ((with_reducible refine x_iteNf ?h ?_); (case h => exact rfl))
  | ((with_reducible refine x_iteNt ?h ?_); (case h => exact rfl))
  | ((with_reducible refine x_isiI (r := true) ?h ?_); (case h => decide +kernel))
  | ((with_reducible refine x_isiI (r := false) ?h ?_); (case h => decide +kernel))
  | ((with_reducible refine x_isiS (r := true) ?h ?_); (case h => decide +kernel))
  | ((with_reducible refine x_isiS (r := false) ?h ?_); (case h => decide +kernel))
  | ((with_reducible refine x_isiB (r := true) ?h ?_); (case h => decide +kernel))
  | ((with_reducible refine x_isiB (r := false) ?h ?_); (case h => decide +kernel))
  | ((with_reducible refine' x_isiT (r := true) ?hp ?h ?_); (case hp => walk_at "hk"); (case h => decide +kernel))
  | ((with_reducible refine' x_isiT (r := false) ?hp ?h ?_); (case hp => walk_at "hk"); (case h => decide +kernel))
  | ((with_reducible refine' x_isiL (r := true) ?hp ?h ?_); (case hp => walk_at "hk"); (case h => decide +kernel))
  | ((with_reducible refine' x_isiL (r := false) ?hp ?h ?_); (case hp => walk_at "hk"); (case h => decide +kernel))
  | ((with_reducible refine' x_isi2L ?hp ?hl ?_); (case hp => walk_at "hk"); (case hl => walk_at "hk"))
  | ((with_reducible refine' x_isi2T ?hp ?hl ?_); (case hp => walk_at "hk"); (case hl => walk_at "hk"))
  | ((with_reducible refine' x_tupOfL ?hq ?_); (case hq => walk_at "hk"))
  | ((with_reducible refine' x_tupOfT ?hq ?_); (case hq => walk_at "hk"))
  | ((with_reducible refine x_lenS ?h ?_); (case h => exact Nat.le_of_ble_eq_true rfl))
  | ((with_reducible refine' x_all ?hq ?_); (case hq => walk_at "hk"))
  | with_reducible refine x_lenSet ?_)
local macro_rules | `(tactic| walk_at "nb") => `(tactic| first | exact NB.xd | exact NB.dK)
local macro_rules | `(tactic| walk_at "rd1") => `(tactic| first
  | with_reducible refine Er.x_par3 ?_
  | with_reducible refine Er.x_ex_3 ?_
  | with_reducible refine Er.x_revL0 ?_
  | ((with_reducible refine' Er.x_revL ?hq ?_); (case hq => walk_at "hk"))
  | with_reducible refine Er.x_dget2 ?_
  | with_reducible refine x_dict0 ?_
  | ((with_reducible refine x_pow ?hc ?_); (case hc => exact ⟨by decide, by decide, by decide⟩))
  | ((with_reducible refine And.intro ?h ?_); (case h => exact tyL (by walk_at "hk")))
  | ((with_reducible refine' Er.x_dis ?hq ?_); (case hq => walk_at "hk"))
  | ((with_reducible refine' Er.x_dgo ?hq ?he ?_); (case hq => walk_at "hk"); (case he => exact rfl)))
local macro_rules | `(tactic| walk_at "rd1") => `(tactic| first
  | with_reducible refine Er.x_iR2 ?_
  | with_reducible refine Er.x_iEn ?_
  | with_reducible refine Er.x_cont ?_
  | ((with_reducible refine Er.x_isBt ?h ?_); (case h => exact rfl))
  | ((with_reducible refine Er.x_isBf ?h ?_); (case h => exact rfl))
  | ((with_reducible refine Er.x_isNBt ?h ?_); (case h => exact rfl))
  | ((with_reducible refine Er.x_isNBf ?h ?_); (case h => exact rfl))
  | with_reducible refine Er.x_isB ?_
  | with_reducible refine Er.x_isNB ?_)

local macro_rules | `(tactic| walk_at "nb") => `(tactic| first | exact NB.dK | exact NB.strs | exact NB.ints | assumption)
local macro_rules | `(tactic| walk_at "rd1") => `(tactic| first
  | ((with_reducible refine' Ow.x_catA ?h ?h' ?l ?_); (case h => walk_at "hk"); (case h' => walk_at "hk"); (case l => walk_at "ln"); intro _ _ _ _)
  | ((with_reducible refine' Ow.x_slA ?h ?_); (case h => walk_at "hk"); intro _ _ _ _)
  | with_reducible refine Ow.x_iRev ?_
  | with_reducible refine Er.x_isN ?_
  | with_reducible refine Er.x_methS ?_
  | with_reducible refine Er.x_makeS ?_
  | ((with_reducible refine' x_methKS ?h ?l ?_); (case h => walk_at "sc"); (case l => intro _ _; exact rfl)))
local macro_rules | `(tactic| walk_at "ln") => `(tactic| fail)
local macro_rules | `(tactic| walk_at "sc") => `(tactic| fail)
local macro_rules | `(tactic| walk_at "rf") => `(tactic| fail)
local macro_rules | `(tactic| walk_at "rd1") => `(tactic| first
  | with_reducible refine Er.x_stepL ?_
  | ((with_reducible refine' Er.x_stepK ?h ?h0 ?_); (case h => walk_at "hk"); (case h0 => decide); intro _ _ _ _ _)
  | with_reducible refine Er.x_dget2 ?_
  | ((with_reducible refine' Er.x_dis ?hq ?_); (case hq => walk_at "hk"))
  | ((with_reducible refine And.intro ?h ?_); (case h => exact tyL (by walk_at "hk"))))
section
variable {P : Program} {w : World} {K : PySem.W.Frag} {mg : Str → Option Value} {base : Heap} {a : Ad} {H H1 : Hp} {Q : VK} {E : XK} {p b l : Addr} {xs : List V} {q : C} {qs : List C}
open Er Cl
def C.hasK : C → Bool
  | .all _ => true | .up _ _ => true | .wheel _ _ _ => true | _ => false
def C.kk : C → Int
  | .all k => k | .up _ k => k | .wheel _ _ k => k | _ => 0
theorem C.atK (h : q.hasK = true) : atI q.vals (-1) = some (.int q.kk) := by cases q <;> first | rfl | cases h
theorem C.inK : inV (.str q.wd) [.str "all", .str "up", .str "wheel"] = q.hasK := by cases q <;> simp only [C.wd, C.hasK] <;> decide +kernel
theorem x_inK {l : Addr} (h : H l = some (.tup [.str "all", .str "up", .str "wheel"])) (k : Q (.bl q.hasK) H) : rIn K false (.str q.wd) (.ref l) H Q := ⟨l, _, rfl, .inr (SqT.of h), rfl, rfl, by rw [if_neg Bool.false_ne_true, C.inK]; exact k⟩
theorem C.negV (h : q.hasK = true) : cutV q.vals none (some (-1)) ++ [.int (0 - q.kk)] = q.turned.vals := by
  cases q with
  | all k => show [V.str "all", .int (0 - k)] = [.str "all", .int (-k)]; rw [Int.zero_sub]
  | up f k => show [V.str "up", .int f, .int (0 - k)] = [.str "up", .int f, .int (-k)]; rw [Int.zero_sub]
  | wheel f g k => show [V.str "wheel", .int f, .int g, .int (0 - k)] = [.str "wheel", .int f, .int g, .int (-k)]; rw [Int.zero_sub]
  | _ => cases h
def disp : List (Key × V) := [(Sum.inr "halve", .str "pair"), (Sum.inr "pair", .str "halve"), (Sum.inr "others", .str "fill"), (Sum.inr "fill", .str "others")]
theorem C.get1 (h : q.hasK = true) : (valV disp (Sum.inr q.turned.wd)).getD (.str q.turned.wd) = .str q.turned.wd := by
  cases q <;> first | rfl | cases h
theorem C.get0 (h : q.hasK = false) : (valV disp (Sum.inr q.wd)).getD (.str q.wd) = .str q.turned.wd := by
  cases q <;> first | rfl | cases h
theorem C.put1 : [.str q.wd] ++ cutV q.vals (some 1) none = q.vals := by cases q <;> rfl
theorem C.put0 (h : q.hasK = false) : [.str q.turned.wd] ++ cutV q.vals (some 1) none = q.turned.vals := by
  cases q <;> first | rfl | cases h
theorem C.ln1 {x : V} : (cutV q.vals none (some (-1))).length + [x].length ≤ sizeLine := by cases q <;> exact Nat.le_of_ble_eq_true rfl
theorem C.ln2 {x : V} : [x].length + (cutV q.vals (some 1) none).length ≤ sizeLine := by cases q <;> exact Nat.le_of_ble_eq_true rfl
/-! calls turned back, by the law -/
def sp_Lundo : Sp := fun vs H Q _ => ∃ (l : Addr) (xs : List V) (qs : List C), vs = [.ref l] ∧ H l = some (.lst xs) ∧ Cls H xs qs ∧ qs.length ≤ 1000 ∧ ∀ t ys H1, Ex H H1 → H1 t = some (.lst ys) → Cls H1 ys (qs.reverse.map C.turned) → Q (.ref t) H1
theorem u_Lundo (h : H l = some (.lst xs)) (hc : Cls H xs qs) (hl : qs.length ≤ 1000) (k : ∀ t ys H1, Ex H H1 → H1 t = some (.lst ys) → Cls H1 ys (qs.reverse.map C.turned) → Q (.ref t) H1) : sp_Lundo [.ref l] H Q E := ⟨l, xs, qs, rfl, h, hc, hl, k⟩
theorem ok_Lundo (T : Txt K w mg a) : FnOk P w K mg base CX0 1 a.a_Lundo a.fd_Lundo ["_law_calls"] sp_Lundo := by
  refine T.F_Lundo.ok sc_Lundo (fun vs H Q E h => ?_) (fun cdv A outer s H vs Q E hr h => ?_)
  · obtain ⟨l, xs, qs, rfl, _⟩ := h; rfl
  · obtain ⟨l, xs, qs, rfl, hl, hc, hn, k⟩ := h
    have nbx := hc.nb
    refine ⟨_, (pss_cons (ps_par (i := 1) (j := 2) rfl sc_Lundo.nd rfl rfl (by decide) rfl rfl (pa_cons (pe_disp (pps_cons pe_str pe_str (pps_cons pe_str pe_str (pps_cons pe_str pe_str (pps_cons pe_str pe_str pps_nil)))) (by rfl) (by rfl) (fun z => by cases z) (by decide)) (pa_cons (pe_lst pa_nil) pa_nil)) rfl)
      (pss_cons (ps_for PassesOwn.never rfl (pi_list (Er.pe_stepL (pv 0) po_none po_none (po_some (pe_un un_neg pe_int)))) (pg_name (i := 3) sc_Lundo.nd rfl (Or.inl rfl)) (pss_cons (ps_if (pt_cmpR op_in_seq (pe_ix ix_tup (pv 3) pe_int (fun _ _ => rfl)) (pe_tup (pa_cons pe_str (pa_cons pe_str (pa_cons pe_str pa_nil)))) (by rfl)) (pss_one (ps_set (i := 3) sc_Lundo.nd rfl (Or.inl rfl) (pe_op op_catA (pe_slice sl_tupA (pv 3) po_none (po_some (pe_un un_neg pe_int))) (pe_tup (pa_cons (pe_op op_sub pe_int (pe_ix ix_tup (pv 3) (pe_un un_neg pe_int) (fun _ _ => rfl))) pa_nil))))) pss_nil)
      (pss_one (ps_expr (pe_bm PySem.F.plainAttrs_list PySem.F.slot_list_append PySem.F.type_list_append mt_append (pv 2) (pa_cons (pe_op op_catA (pe_tup (pa_cons (pe_dget2 (hu_of hr) (pv 1) (pe_ix ix_tup (pv 3) pe_int (fun _ _ => rfl)) (pe_ix ix_tup (pv 3) pe_int (fun _ _ => rfl)) ⟨rfl, rfl, rfl, rfl⟩) pa_nil)) (pe_slice sl_tupA (pv 3) (po_some pe_int) po_none)) pa_nil))))))
      (pss_one (ps_ret (pv 2))))), ?_⟩
    walk_at "rd"
    refine x_disp4 fun dp H1 e1 f1 h1 => ?_
    walk_at "rd"
    refine x_disp4S h1 f1 (Ex.refl _ |>.trans e1) (by decide) fun H2 e2 _ h2 => ?_
    clear h1 e1
    walk_at "rd"
    rename_i fp H3 e3 f3 h3 rp H4 e4 f4 h4
    rw [pick_rev] at h4
    have hd4 : H4 dp = some (.dK disp) := (e3.trans e4).kp _ _ h2 NB.dK
    have hf4 : H4 fp = some (.lst []) := by walk_at "hk"
    have ex4 : Ex H H4 := by walk_at "ex"
    have f3' : NF H fp := NF.back e2 (NF.of f3)
    have nr : rp ≠ fp := Ne.symm (ne_of_none h3 f4)
    clear h2 e2 e3 e4 h3
    refine for_lst (xs := xs.reverse) h4 (fun i σ H' => ∃ v3 : Option V, σ = [some (.ref l), some (.ref dp), some (.ref fp), v3] ∧ Ex H H' ∧ H' dp = some (.dK disp) ∧ H' rp = some (.lst xs.reverse) ∧ i ≤ qs.length ∧ ∃ ys, H' fp = some (.lst ys) ∧ Cls H' ys ((qs.reverse.take i).map C.turned)) ⟨_, rfl, ex4, hd4, h4, Nat.zero_le _, [], hf4, .nil⟩
      (fun i σ H' _ h => ?_) (fun i x σ H' hx h => ?_) (fun σ H' h => ?_)
    · obtain ⟨_, _, _, _, h, _⟩ := h
      exact h
    · obtain ⟨v3, rfl, ex, hd, hr', hi, ys, hf, hcy⟩ := h
      obtain ⟨p, q, rfl, hq, hp⟩ := (hc.ex ex).rev.get hx
      have hi' : i < qs.length := by have := (List.getElem?_eq_some_iff.mp hq).1; simpa using this
      have c0 : atI q.vals 0 = some (.str q.wd) := C.wd0
      have nby := hcy.nb
      have fin : ∀ {pp : Addr} {H6 : Hp}, Ex H' H6 → H6 pp = some (.tup q.turned.vals) → ∀ v, ∃ v3 : Option V, [some (.ref l), some (.ref dp), some (.ref fp), some v] = [some (.ref l), some (.ref dp), some (.ref fp), v3] ∧ Ex H (upd H6 fp (.lst (ys ++ [.ref pp]))) ∧ (upd H6 fp (.lst (ys ++ [.ref pp]))) dp = some (.dK disp) ∧ (upd H6 fp (.lst (ys ++ [.ref pp]))) rp = some (.lst xs.reverse) ∧ i + 1 ≤ qs.length ∧ ∃ zs, (upd H6 fp (.lst (ys ++ [.ref pp]))) fp = some (.lst zs) ∧ Cls (upd H6 fp (.lst (ys ++ [.ref pp]))) zs ((qs.reverse.take (i + 1)).map C.turned) := by
        intro pp H6 e6 h6 v
        have hf6 := e6.kp _ _ hf hcy.nb
        have ex7 : Ex H (upd H6 fp (.lst (ys ++ [.ref pp]))) := Er.mutN (ex.trans e6) f3' hf6 hcy.nb
        have nd : dp ≠ fp := fun e => by
          have := e6.kp _ _ hd NB.dK
          rw [e, hf6] at this
          cases this
        have np : pp ≠ fp := ne_of h6 hf6 (by intro z; cases z)
        have c6 : Cls H6 ys ((qs.reverse.take i).map C.turned) := hcy.ex e6
        have rv := ((hc.ex ex).rev).nb
        refine ⟨_, rfl, ex7, ?_, ?_, hi', ys ++ [.ref pp], upd_same, ?_⟩
        · rw [upd_ne nd]; exact e6.kp _ _ hd NB.dK
        · rw [upd_ne nr]; exact e6.kp _ _ hr' rv
        · rw [List.take_add_one, hq, List.map_append]
          refine Cls.app (c6.mono fun a xs h => ?_) (.cons (by rw [upd_ne np]; exact h6) .nil)
          rw [upd_ne (ne_of h hf6 (by intro z; cases z))]
          exact h
      walk_at "rd"
      refine' x_inK ?hq ?_; (case hq => walk_at "hk")
      walk_at "rd"
      refine x_iteB (fun hK => ?_) (fun hK => ?_)
      · have cK := C.atK hK
        have t0 : atI q.turned.vals 0 = some (.str q.turned.wd) := C.wd0
        walk_at "rd"
        refine' Ow.x_catA ?h ?h' C.ln1 fun p3 H5 e5 h5 => ?_
        case h => walk_at "hk"
        case h' => walk_at "hk"
        rw [C.negV hK] at h5
        have e05 : Ex H' H5 := by walk_at "ex"
        have hd5 : H5 dp = some (.dK disp) := e05.kp _ _ hd NB.dK
        clear e5
        walk_at "rd"
        refine' Ow.x_catA ?h ?h' C.ln2 fun p4 H6 e6 h6 => ?_
        case h => walk_at "hk"
        case h' => walk_at "hk"
        rw [C.get1 hK, C.put1] at h6
        walk_at "rd"
        have e06 : Ex H' H6 := by walk_at "ex"
        refine Er.x_append (e06.kp _ _ hf hcy.nb) ?_ (fin e06 h6 _)
        rw [hcy.len, List.length_map, List.length_take, List.length_reverse]
        exact Nat.lt_of_le_of_lt (show _ ≤ 1000 by omega) (by decide)
      · walk_at "rd"
        refine' Ow.x_catA ?h ?h' C.ln2 fun p4 H6 e6 h6 => ?_
        case h => walk_at "hk"
        case h' => walk_at "hk"
        rw [C.get0 hK, C.put0 hK] at h6
        walk_at "rd"
        have e06 : Ex H' H6 := by walk_at "ex"
        refine Er.x_append (e06.kp _ _ hf hcy.nb) ?_ (fin e06 h6 _)
        rw [hcy.len, List.length_map, List.length_take, List.length_reverse]
        exact Nat.lt_of_le_of_lt (show _ ≤ 1000 by omega) (by decide)
    · obtain ⟨v3, rfl, ex, hd, hr', hi, ys, hf, hcy⟩ := h
      walk_at "rd"
      refine k fp ys _ ex hf ?_
      rw [List.length_reverse, hc.len, List.take_of_length_le (by rw [List.length_reverse]; exact Nat.le_refl _)] at hcy
      exact hcy
end
end My

set_option Elab.async false
set_option linter.all false
set_option maxRecDepth 100000
set_option maxHeartbeats 8000000
namespace My
open PySem PySem.Spec PyProof.Rows L2 Sx
local macro_rules | `(tactic| walk_at "nb") => `(tactic| first | exact NB.tup | exact NB.ints | exact NB.len (of_decide_eq_true rfl) | exact NB.at0b rfl | exact NB.at3b rfl | exact NB.ins | exact NB.own | exact NB.frz | exact NB.refs (by assumption) | assumption)
local macro_rules | `(tactic| walk_at "ne") => `(tactic| first | assumption | exact Ne.symm (by assumption) | exact ne_of_none (by assumption) (by assumption) | exact Ne.symm (ne_of_none (by assumption) (by assumption)))
local macro_rules | `(tactic| walk_at "hk") => `(tactic| first
  | assumption
  | exact upd_same
  | (refine' (upd_ne ?hkne).trans ?hkq; (case hkne => walk_at "ne"); (case hkq => walk_at "hk"))
  | (refine' Ex.kp (by assumption) _ _ ?hkq ?hkn; (case hkq => walk_at "hk"); (case hkn => walk_at "nb")))
local macro_rules | `(tactic| walk_at "rd1") => `(tactic| first
  | ((with_reducible refine' x_var ?hx ?_); (case hx => exact rfl))
  | with_reducible refine x_c ?_
  | with_reducible refine x_op ?_
  | with_reducible refine x_un ?_
  | with_reducible refine x_I0 ?_
  | with_reducible refine x_U ?_
  | ((with_reducible refine x_I ?hc ?_); (case hc => first | exact (by decide : (0 : Int) < _) | (show (0 : Int) < _; omega) | (show CMul _ _; first | exact .inl ⟨by omega, by omega⟩ | exact .inr ⟨by omega, by omega⟩) | (show CDiv _ _; exact ⟨by omega, by omega⟩) | (show CDivW _ _; exact wide_div (b := 200) (by omega) (by assumption) (by decide) (by decide)) | (show CDivW _ _; exact wide_div (b := 31) (by omega) (by omega) (by decide) (by decide))))
  | with_reducible refine x_EqI ?_
  | with_reducible refine x_NeI ?_
  | ((with_reducible refine x_EqSt ?h ?_); (case h => decide +kernel))
  | ((with_reducible refine x_EqSf ?h ?_); (case h => decide +kernel))
  | ((with_reducible refine x_NeSt ?h ?_); (case h => decide +kernel))
  | ((with_reducible refine x_NeSf ?h ?_); (case h => decide +kernel))
  | with_reducible refine x_EqS ?_
  | with_reducible refine x_NeS ?_
  | ((with_reducible refine' x_ixL ?hq ?hi ?_); (case hq => walk_at "hk"); (case hi => first | exact rfl | assumption))
  | ((with_reducible refine' x_ixT ?hq ?hi ?_); (case hq => walk_at "hk"); (case hi => first | exact rfl | assumption))
  | with_reducible refine x_chain ?_
  | with_reducible refine x_tup ?_
  | with_reducible refine x_lst ?_
  | ((with_reducible refine x_lenNew ?hl ?_); (case hl => exact Nat.le_of_ble_eq_true rfl); intro _ _ _ _ _)
  | ((with_reducible refine x_new ?_); intro _ _ _ _ _)
  | with_reducible refine x_sl ?_
  | with_reducible refine x_noPart ?_
  | with_reducible refine x_part ?_
  | with_reducible refine x_ex_int ?_
  | with_reducible refine x_ex_bl ?_
  | with_reducible refine x_ex_2 ?_
  | with_reducible refine x_test ?_
  | with_reducible refine x_B ?_
  | with_reducible refine x_and ?_
  | with_reducible refine x_or ?_
  | with_reducible refine x_not ?_
  | with_reducible refine x_andV ?_
  | with_reducible refine x_orV ?_
  | with_reducible refine x_notV ?_
  | with_reducible refine x_ifE ?_
  | with_reducible refine x_iteT ?_
  | with_reducible refine x_iteF ?_
  | ((with_reducible refine x_iteD ?_ ?_) <;> intro _)
  | ((with_reducible refine x_iteN ?_ ?_) <;> intro _)
  | with_reducible refine x_if ?_
  | with_reducible refine x_seq ?_
  | with_reducible refine x_next ?_
  | with_reducible refine x_asg ?_
  | with_reducible refine x_gName ?_
  | ((with_reducible refine' x_gTup ?hq ?hn ?_); (case hq => walk_at "hk"); (case hn => exact rfl))
  | with_reducible refine x_gCons ?_
  | with_reducible refine x_gNil ?_
  | ((with_reducible refine' x_gConsE ?h ?_); (case h => exact rfl))
  | ((with_reducible refine x_gNilE ?h ?_); (case h => exact rfl))
  | with_reducible refine x_ret ?_
  | with_reducible refine x_drop ?_
  | with_reducible refine x_par ?_
  | ((with_reducible refine' x_aug ?hx ?_); (case hx => exact rfl))
  | with_reducible refine x_ipI ?_
  | with_reducible refine x_augS ?_
  | with_reducible refine x_gSub ?_
  | ((with_reducible refine' x_setL ?hq ?hi ?_); (case hq => walk_at "hk"); (case hi => first | exact rfl | assumption))
  | with_reducible refine x_cons ?_
  | with_reducible refine x_nil ?_
  | with_reducible refine x_CB ?_
  | with_reducible refine x_abs ?_
  | with_reducible refine x_intI ?_
  | with_reducible refine x_intB ?_
  | ((with_reducible refine' x_lenL ?hq ?_); (case hq => walk_at "hk"))
  | ((with_reducible refine' x_lenT ?hq ?_); (case hq => walk_at "hk"))
  | ((with_reducible refine x_iteTe ?h ?_); (case h => exact rfl))
  | ((with_reducible refine x_iteFe ?h ?_); (case h => exact rfl))
  | walk_at "use"
  | with_reducible refine x_callS ?_
  | ((with_reducible refine x_lc ?_))
  | ((with_reducible refine x_for ?_))
  | ((with_reducible refine x_iR1 ?_))
  | ((with_reducible refine x_iL ?_))
  | ((with_reducible refine x_iZ ?_))
  | ((with_reducible refine x_yes ?_))
  | ((with_reducible refine' x_NIDt ?hq ?_); (case hq => assumption))
  | ((with_reducible refine' x_NIDf ?hq ?_); (case hq => assumption))
  | ((with_reducible refine' x_IIDf ?hq ?_); (case hq => assumption))
  | ((with_reducible refine' x_IIDt ?hq ?_); (case hq => assumption))
  | ((with_reducible refine' x_ixDs ?hd ?hq ?_); (case hd => assumption); (case hq => assumption))
  | ((with_reducible refine x_InSt ?h ?_); (case h => decide +kernel))
  | ((with_reducible refine x_InSf ?h ?_); (case h => decide +kernel))
  | ((with_reducible refine' x_notInI ?hq ?_); (case hq => walk_at "hk"))
  | ((with_reducible refine' x_inTt ?hq ?hv ?ha ?he ?_); (case hq => walk_at "hk"); (case hv => exact rfl); (case ha => exact rfl); (case he => decide +kernel))
  | ((with_reducible refine' x_inTf ?hq ?hv ?ha ?he ?_); (case hq => walk_at "hk"); (case hv => exact rfl); (case ha => exact rfl); (case he => decide +kernel))
  | ((with_reducible refine' x_slT ?hq ?hw ?_); (case hq => walk_at "hk"); (case hw => with_unfolding_all exact of_decide_eq_true rfl))
  | ((with_reducible refine' x_slL ?hq ?_); (case hq => walk_at "hk"))
  | ((with_reducible refine' x_catT ?hq ?hr ?n1 ?n2 ?hl ?_); (case hq => walk_at "hk"); (case hr => walk_at "hk"); (case n1 => exact List.cons_ne_nil _ _); (case n2 => exact List.cons_ne_nil _ _); (case hl => exact Nat.le_of_ble_eq_true rfl))
  | ((with_reducible refine x_bm ?_))
  | ((with_reducible refine x_lstRg ?_))
  | ((with_reducible refine x_rg1 ?_))
  | ((with_reducible refine And.intro ?h ?_); (case h => exact tyL (by assumption)))
  | dsimp only)
local macro_rules | `(tactic| walk_at "use") => `(tactic| fail)
local macro_rules | `(tactic| walk_at "rd") => `(tactic| repeat' (walk_at "rd1"))
local macro_rules | `(tactic| walk_at "ex") => `(tactic| first | exact Ex.refl _ | assumption | (refine' Ex.trans ?he (by assumption); (case he => walk_at "ex")))
local macro_rules | `(tactic| walk_at "rd1") => `(tactic| first
  | ((with_reducible refine x_iteDf ?h ?_); (case h => exact rfl))
  | ((with_reducible refine x_iteDt ?h ?_); (case h => exact rfl))
  | ((with_reducible refine x_iteNf ?h ?_); (case h => exact rfl))
  | ((with_reducible refine x_iteNt ?h ?_); (case h => exact rfl))
  | ((with_reducible refine x_isiI (r := true) ?h ?_); (case h => decide +kernel))
  | ((with_reducible refine x_isiI (r := false) ?h ?_); (case h => decide +kernel))
  | ((with_reducible refine x_isiS (r := true) ?h ?_); (case h => decide +kernel))
  | ((with_reducible refine x_isiS (r := false) ?h ?_); (case h => decide +kernel))
  | ((with_reducible refine x_isiB (r := true) ?h ?_); (case h => decide +kernel))
  | ((with_reducible refine x_isiB (r := false) ?h ?_); (case h => decide +kernel))
  | ((with_reducible refine' x_isiT (r := true) ?hp ?h ?_); (case hp => walk_at "hk"); (case h => decide +kernel))
  | ((with_reducible refine' x_isiT (r := false) ?hp ?h ?_); (case hp => walk_at "hk"); (case h => decide +kernel))
  | ((with_reducible refine' x_isiL (r := true) ?hp ?h ?_); (case hp => walk_at "hk"); (case h => decide +kernel))
  | ((with_reducible refine' x_isiL (r := false) ?hp ?h ?_); (case hp => walk_at "hk"); (case h => decide +kernel))
  | ((with_reducible refine' x_isi2L ?hp ?hl ?_); (case hp => walk_at "hk"); (case hl => walk_at "hk"))
  | ((with_reducible refine' x_isi2T ?hp ?hl ?_); (case hp => walk_at "hk"); (case hl => walk_at "hk"))
  | ((with_reducible refine' x_tupOfL ?hq ?_); (case hq => walk_at "hk"))
  | ((with_reducible refine' x_tupOfT ?hq ?_); (case hq => walk_at "hk"))
  | ((with_reducible refine x_lenS ?h ?_); (case h => exact Nat.le_of_ble_eq_true rfl))
  | ((with_reducible refine' x_all ?hq ?_); (case hq => walk_at "hk"))
  | with_reducible refine x_lenSet ?_)
local macro_rules | `(tactic| walk_at "nb") => `(tactic| first | exact NB.xd | exact NB.dK)
local macro_rules | `(tactic| walk_at "rd1") => `(tactic| first
  | with_reducible refine Er.x_par3 ?_
  | with_reducible refine Er.x_ex_3 ?_
  | with_reducible refine Er.x_revL0 ?_
  | ((with_reducible refine' Er.x_revL ?hq ?_); (case hq => walk_at "hk"))
  | with_reducible refine Er.x_dget2 ?_
  | with_reducible refine x_dict0 ?_
  | ((with_reducible refine x_pow ?hc ?_); (case hc => exact ⟨by decide, by decide, by decide⟩))
  | ((with_reducible refine And.intro ?h ?_); (case h => exact tyL (by walk_at "hk")))
  | ((with_reducible refine' Er.x_dis ?hq ?_); (case hq => walk_at "hk"))
  | ((with_reducible refine' Er.x_dgo ?hq ?he ?_); (case hq => walk_at "hk"); (case he => exact rfl)))
local macro_rules | `(tactic| walk_at "rd1") => `(tactic| first
  | with_reducible refine Er.x_callSS ?_
  | ((with_reducible refine Er.x_mulS2 ?h ?h0 ?h1 ?_); (case h => decide); (case h0 => decide); (case h1 => decide)))

section
variable {P : Program} {w : World} {K : PySem.W.Frag} {mg : Str → Option Value} {base : Heap} {a : Ad} {H H1 : Hp} {Q : VK} {E : XK} {p b : Addr} {v u : V}
/-! two that are alike -/
def sp_Lalike (K : PySem.W.Frag) : Sp := fun vs H Q _ => ∃ v u : V, vs = [v, u] ∧ Er.Alike K H v u ∧ ∀ H1, Ex H H1 → Q (.bl true) H1
theorem u_Lalike (h : Er.Alike K H v u) (k : ∀ H1, Ex H H1 → Q (.bl true) H1) : sp_Lalike K [v, u] H Q E := ⟨v, u, rfl, h, k⟩
theorem ok_Lalike (T : Txt K w mg a) : Ow.FnG P w K mg base CX0 1 a.a_Lalike a.fd_Lalike ["_law_found", "_law_due"] (sp_Lalike K) := by
  refine Ow.fnG_of T.F_Lalike sc_Lalike (fun vs H Q E h => ?_) (fun cdv A outer s H vs Q E hG hr h => ?_)
  · obtain ⟨v, u, rfl, _⟩ := h; rfl
  · obtain ⟨v, u, rfl, ⟨he, z, h1, h2⟩, k⟩ := h
    refine ⟨_, (pss_one (ps_ret (pe_and (pe_cmpR (Er.op_eqAny hr.units) (pv 0) (pv 1) (nomark _)) (pe_one (pe_cmpR op_eq (pe_callB (Er.call_reprY hG hr.units) (by rfl) T.n_repr (by decide +kernel) (pa_cons (pv 0) pa_nil)) (pe_callB (Er.call_reprY hG hr.units) (by rfl) T.n_repr (by decide +kernel) (pa_cons (pv 1) pa_nil)) (nomark _)))))), ?_⟩
    walk_at "rd"
    refine he H _ (Ex.refl _) ?_
    walk_at "rd"
    refine h1 H _ (Ex.refl _) ?_
    walk_at "rd"
    refine h2 H _ (Ex.refl _) ?_
    walk_at "rd"
    rw [show decide (z = z) = true from decide_eq_true rfl]
    exact k _ (Ex.refl _)
end
end My

set_option Elab.async false
set_option linter.all false
set_option maxRecDepth 100000
set_option maxHeartbeats 8000000
namespace My
open PySem PySem.Spec PyProof.Rows L2 Sx
local macro_rules | `(tactic| walk_at "nb") => `(tactic| first | exact NB.tup | exact NB.ints | exact NB.len (of_decide_eq_true rfl) | exact NB.at0b rfl | exact NB.at3b rfl | exact NB.ins | exact NB.own | exact NB.frz | exact NB.refs (by assumption) | assumption)
local macro_rules | `(tactic| walk_at "ne") => `(tactic| first | assumption | exact Ne.symm (by assumption) | exact ne_of_none (by assumption) (by assumption) | exact Ne.symm (ne_of_none (by assumption) (by assumption)))
local macro_rules | `(tactic| walk_at "hk") => `(tactic| first
  | assumption
  | exact upd_same
  | (refine' (upd_ne ?hkne).trans ?hkq; (case hkne => walk_at "ne"); (case hkq => walk_at "hk"))
  | (refine' Ex.kp (by assumption) _ _ ?hkq ?hkn; (case hkq => walk_at "hk"); (case hkn => walk_at "nb")))
local macro_rules | `(tactic| walk_at "rd1") => `(tactic| first
  | ((with_reducible refine' x_var ?hx ?_); (case hx => exact rfl))
  | with_reducible refine x_c ?_
  | with_reducible refine x_op ?_
  | with_reducible refine x_un ?_
  | with_reducible refine x_I0 ?_
  | with_reducible refine x_U ?_
  | ((with_reducible refine x_I ?hc ?_); (case hc => first | exact (by decide : (0 : Int) < _) | (show (0 : Int) < _; omega) | (show CMul _ _; first | exact .inl ⟨by omega, by omega⟩ | exact .inr ⟨by omega, by omega⟩) | (show CDiv _ _; exact ⟨by omega, by omega⟩) | (show CDivW _ _; exact wide_div (b := 200) (by omega) (by assumption) (by decide) (by decide)) | (show CDivW _ _; exact wide_div (b := 31) (by omega) (by omega) (by decide) (by decide))))
  | with_reducible refine x_EqI ?_
  | with_reducible refine x_NeI ?_
  | ((with_reducible refine x_EqSt ?h ?_); (case h => decide +kernel))
  | ((with_reducible refine x_EqSf ?h ?_); (case h => decide +kernel))
  | ((with_reducible refine x_NeSt ?h ?_); (case h => decide +kernel))
  | ((with_reducible refine x_NeSf ?h ?_); (case h => decide +kernel))
  | with_reducible refine x_EqS ?_
  | with_reducible refine x_NeS ?_
  | ((with_reducible refine' x_ixL ?hq ?hi ?_); (case hq => walk_at "hk"); (case hi => first | exact rfl | assumption))
  | ((with_reducible refine' x_ixT ?hq ?hi ?_); (case hq => walk_at "hk"); (case hi => first | exact rfl | assumption))
  | with_reducible refine x_chain ?_
  | with_reducible refine x_tup ?_
  | with_reducible refine x_lst ?_
  | ((with_reducible refine x_lenNew ?hl ?_); (case hl => exact Nat.le_of_ble_eq_true rfl); intro _ _ _ _ _)
  | ((with_reducible refine x_new ?_); intro _ _ _ _ _)
  | with_reducible refine x_sl ?_
  | with_reducible refine x_noPart ?_
  | with_reducible refine x_part ?_
  | with_reducible refine x_ex_int ?_
  | with_reducible refine x_ex_bl ?_
  | with_reducible refine x_ex_2 ?_
  | with_reducible refine x_test ?_
  | with_reducible refine x_B ?_
  | with_reducible refine x_and ?_
  | with_reducible refine x_or ?_
  | with_reducible refine x_not ?_
  | with_reducible refine x_andV ?_
  | with_reducible refine x_orV ?_
  | with_reducible refine x_notV ?_
  | with_reducible refine x_ifE ?_
  | with_reducible refine x_iteT ?_
  | with_reducible refine x_iteF ?_
  | ((with_reducible refine x_iteD ?_ ?_) <;> intro _)
  | ((with_reducible refine x_iteN ?_ ?_) <;> intro _)
  | with_reducible refine x_if ?_
  | with_reducible refine x_seq ?_
  | with_reducible refine x_next ?_
  | with_reducible refine x_asg ?_
  | with_reducible refine x_gName ?_
  | ((with_reducible refine' x_gTup ?hq ?hn ?_); (case hq => walk_at "hk"); (case hn => exact rfl))
  | with_reducible refine x_gCons ?_
  | with_reducible refine x_gNil ?_
  | ((with_reducible refine' x_gConsE ?h ?_); (case h => exact rfl))
  | ((with_reducible refine x_gNilE ?h ?_); (case h => exact rfl))
  | with_reducible refine x_ret ?_
  | with_reducible refine x_drop ?_
  | with_reducible refine x_par ?_
  | ((with_reducible refine' x_aug ?hx ?_); (case hx => exact rfl))
  | with_reducible refine x_ipI ?_
  | with_reducible refine x_augS ?_
  | with_reducible refine x_gSub ?_
  | ((with_reducible refine' x_setL ?hq ?hi ?_); (case hq => walk_at "hk"); (case hi => first | exact rfl | assumption))
  | with_reducible refine x_cons ?_
  | with_reducible refine x_nil ?_
  | with_reducible refine x_CB ?_
  | with_reducible refine x_abs ?_
  | with_reducible refine x_intI ?_
  | with_reducible refine x_intB ?_
  | ((with_reducible refine' x_lenL ?hq ?_); (case hq => walk_at "hk"))
  | ((with_reducible refine' x_lenT ?hq ?_); (case hq => walk_at "hk"))
  | ((with_reducible refine x_iteTe ?h ?_); (case h => exact rfl))
  | ((with_reducible refine x_iteFe ?h ?_); (case h => exact rfl))
  | walk_at "use"
  | with_reducible refine x_callS ?_
  | ((with_reducible refine x_lc ?_))
  | ((with_reducible refine x_for ?_))
  | ((with_reducible refine x_iR1 ?_))
  | ((with_reducible refine x_iL ?_))
  | ((with_reducible refine x_iZ ?_))
  | ((with_reducible refine x_yes ?_))
  | ((with_reducible refine' x_NIDt ?hq ?_); (case hq => assumption))
  | ((with_reducible refine' x_NIDf ?hq ?_); (case hq => assumption))
  | ((with_reducible refine' x_IIDf ?hq ?_); (case hq => assumption))
  | ((with_reducible refine' x_IIDt ?hq ?_); (case hq => assumption))
  | ((with_reducible refine' x_ixDs ?hd ?hq ?_); (case hd => assumption); (case hq => assumption))
  | ((with_reducible refine x_InSt ?h ?_); (case h => decide +kernel))
  | ((with_reducible refine x_InSf ?h ?_); (case h => decide +kernel))
  | ((with_reducible refine' x_notInI ?hq ?_); (case hq => walk_at "hk"))
  | ((with_reducible refine' x_inTt ?hq ?hv ?ha ?he ?_); (case hq => walk_at "hk"); (case hv => exact rfl); (case ha => exact rfl); (case he => decide +kernel))
  | ((with_reducible refine' x_inTf ?hq ?hv ?ha ?he ?_); (case hq => walk_at "hk"); (case hv => exact rfl); (case ha => exact rfl); (case he => decide +kernel))
  | ((with_reducible refine' x_slT ?hq ?hw ?_); (case hq => walk_at "hk"); (case hw => with_unfolding_all exact of_decide_eq_true rfl))
  | ((with_reducible refine' x_slL ?hq ?_); (case hq => walk_at "hk"))
  | ((with_reducible refine' x_catT ?hq ?hr ?n1 ?n2 ?hl ?_); (case hq => walk_at "hk"); (case hr => walk_at "hk"); (case n1 => exact List.cons_ne_nil _ _); (case n2 => exact List.cons_ne_nil _ _); (case hl => exact Nat.le_of_ble_eq_true rfl))
  | ((with_reducible refine x_bm ?_))
  | ((with_reducible refine x_lstRg ?_))
  | ((with_reducible refine x_rg1 ?_))
  | ((with_reducible refine And.intro ?h ?_); (case h => exact tyL (by assumption)))
  | dsimp only)
local macro_rules | `(tactic| walk_at "use") => `(tactic| fail)
local macro_rules | `(tactic| walk_at "rd") => `(tactic| repeat' (walk_at "rd1"))
local macro_rules | `(tactic| walk_at "ex") => `(tactic| first | exact Ex.refl _ | assumption | (refine' Ex.trans ?he (by assumption); (case he => walk_at "ex")))
local macro_rules | `(tactic| walk_at "rd1") => `(tactic| first
  | ((with_reducible refine x_iteDf ?h ?_); (case h => exact rfl))
  | ((with_reducible refine x_iteDt ?h ?_); (case h => exact rfl))
  | ((with_reducible refine x_iteNf ?h ?_); (case h => exact rfl))
  | ((with_reducible refine x_iteNt ?h ?_); (case h => exact rfl))
  | ((with_reducible refine x_isiI (r := true) ?h ?_); (case h => decide +kernel))
  | ((with_reducible refine x_isiI (r := false) ?h ?_); (case h => decide +kernel))
  | ((with_reducible refine x_isiS (r := true) ?h ?_); (case h => decide +kernel))
  | ((with_reducible refine x_isiS (r := false) ?h ?_); (case h => decide +kernel))
  | ((with_reducible refine x_isiB (r := true) ?h ?_); (case h => decide +kernel))
  | ((with_reducible refine x_isiB (r := false) ?h ?_); (case h => decide +kernel))
  | ((with_reducible refine' x_isiT (r := true) ?hp ?h ?_); (case hp => walk_at "hk"); (case h => decide +kernel))
  | ((with_reducible refine' x_isiT (r := false) ?hp ?h ?_); (case hp => walk_at "hk"); (case h => decide +kernel))
  | ((with_reducible refine' x_isiL (r := true) ?hp ?h ?_); (case hp => walk_at "hk"); (case h => decide +kernel))
  | ((with_reducible refine' x_isiL (r := false) ?hp ?h ?_); (case hp => walk_at "hk"); (case h => decide +kernel))
  | ((with_reducible refine' x_isi2L ?hp ?hl ?_); (case hp => walk_at "hk"); (case hl => walk_at "hk"))
  | ((with_reducible refine' x_isi2T ?hp ?hl ?_); (case hp => walk_at "hk"); (case hl => walk_at "hk"))
  | ((with_reducible refine' x_tupOfL ?hq ?_); (case hq => walk_at "hk"))
  | ((with_reducible refine' x_tupOfT ?hq ?_); (case hq => walk_at "hk"))
  | ((with_reducible refine x_lenS ?h ?_); (case h => exact Nat.le_of_ble_eq_true rfl))
  | ((with_reducible refine' x_all ?hq ?_); (case hq => walk_at "hk"))
  | with_reducible refine x_lenSet ?_)
local macro_rules | `(tactic| walk_at "nb") => `(tactic| first | exact NB.xd | exact NB.dK)
local macro_rules | `(tactic| walk_at "rd1") => `(tactic| first
  | with_reducible refine Er.x_par3 ?_
  | with_reducible refine Er.x_ex_3 ?_
  | with_reducible refine Er.x_revL0 ?_
  | ((with_reducible refine' Er.x_revL ?hq ?_); (case hq => walk_at "hk"))
  | with_reducible refine Er.x_dget2 ?_
  | with_reducible refine x_dict0 ?_
  | ((with_reducible refine x_pow ?hc ?_); (case hc => exact ⟨by decide, by decide, by decide⟩))
  | ((with_reducible refine And.intro ?h ?_); (case h => exact tyL (by walk_at "hk")))
  | ((with_reducible refine' Er.x_dis ?hq ?_); (case hq => walk_at "hk"))
  | ((with_reducible refine' Er.x_dgo ?hq ?he ?_); (case hq => walk_at "hk"); (case he => exact rfl)))
local macro_rules | `(tactic| walk_at "rd1") => `(tactic| first
  | with_reducible refine Er.x_callSS ?_
  | ((with_reducible refine Er.x_mulS2 ?h ?h0 ?h1 ?_); (case h => decide); (case h0 => decide); (case h1 => decide)))
local macro_rules | `(tactic| walk_at "rd1") => `(tactic| first
  | with_reducible refine Er.x_iR2 ?_
  | with_reducible refine Er.x_iEn ?_
  | with_reducible refine Er.x_cont ?_
  | ((with_reducible refine Er.x_isBt ?h ?_); (case h => exact rfl))
  | ((with_reducible refine Er.x_isBf ?h ?_); (case h => exact rfl))
  | ((with_reducible refine Er.x_isNBt ?h ?_); (case h => exact rfl))
  | ((with_reducible refine Er.x_isNBf ?h ?_); (case h => exact rfl))
  | with_reducible refine Er.x_isB ?_
  | with_reducible refine Er.x_isNB ?_)

open Cl
local macro_rules | `(tactic| walk_at "bg") => `(tactic| first | assumption | exact Ex.bag (by assumption) (by walk_at "bg"))
local macro_rules | `(tactic| walk_at "use") => `(tactic| ((with_reducible refine' u_Ltake ?hb ?h0 ?h1 ?_); (case hb => walk_at "bg"); (case h0 => omega); (case h1 => omega); intro _ _ _ _ _))
local macro_rules | `(tactic| walk_at "nb") => `(tactic| first | exact NB.strs | exact NB.ints | assumption)
local macro_rules | `(tactic| walk_at "rd1") => `(tactic| first
  | ((with_reducible refine' x_listOfL ?h ?_); (case h => walk_at "hk")))
section
variable {P : Program} {w : World} {K : PySem.W.Frag} {mg : Str → Option Value} {base : Heap} {a : Ad} {H H1 : Hp} {Q : VK} {E : XK} {p b c t s l : Addr} {xs ys : List V} {q : C} {qs us : List C} {n m : Nat} {g : Int → Int → Int}
open Er
theorem x_tupRg {te : L2.St → Hp → (Int → Int → Hp → Prop) → Prop} {σ : L2.St} (k : te σ H fun a b H1 => RgOk a b ∧ JustNew (.tup (rgV a b)) H1 Q) : tTupRg te σ H Q := k
theorem rg_ints {k : Nat} : rgV 0 (k : Int) = ((List.range k).map fun i : Nat => (i : Int)).map V.int := by
  unfold rgV
  rw [List.map_map, Int.sub_zero, Int.toNat_natCast]
  refine List.map_congr_left fun i _ => ?_
  show V.int (0 + (i : Int)) = V.int (i : Int)
  rw [Int.zero_add]
theorem x_rgT (hz : Sz n m) (k : ∀ t H1, Ex H H1 → H1 t = some (.tup ((Ivs.rg (n * m)).map V.int)) → Q (.ref t) H1) : RgOk 0 ((n : Int) * m) ∧ JustNew (.tup (rgV 0 ((n : Int) * m))) H Q := by
  have hnm := hz.lt
  rw [← Int.natCast_mul]
  refine ⟨RgOk.of_le (by omega) (by omega) (by omega) (by omega), x_new fun t H1 e1 f1 h1 => k t H1 e1 ?_⟩
  rw [h1, rg_ints]
  rfl
theorem x_joinS {c : Bool} {tu tw : TS} {D : Ends} {σ : L2.St} (R : L2.St → Hp → Prop) (kR : ∀ N : L2.St → Hp → Prop, (∀ σ' H', R σ' H' → N σ' H') → if c = true then tu { D with nx := N } σ H else tw { D with nx := N } σ H) (k : ∀ σ' H', R σ' H' → D.nx σ' H') : if c = true then tu D σ H else tw D σ H := kR D.nx k
theorem ord_home (hn : 0 < n) : ord n m (num0 n) = Ivs.rg (n * m) := goals_nil hn
theorem home (hn : 0 < n) (h : ∀ q ∈ us, q.ok n) : ord n m (ledg (us ++ us.reverse.map C.turned) n m (num0 n)) = Ivs.rg (n * m) := by
  rw [← ord_home hn]
  refine ord_alike (us := []) hn (fun q hq => (List.mem_append.mp hq).elim (h q) (ok_rev h q)) (fun q hq => by cases hq) fun x hx => ?_
  rw [led_app, led_back h hx]
  rfl
theorem alike_ints {ns : List Int} (h1 : H p = some (.tup (ns.map V.int))) (h2 : H t = some (.tup (ns.map V.int))) (hn : ∀ n ∈ ns, n.natAbs < 10 ^ 59) (hl : ns.length ≤ 10) : Er.Alike K H (.ref p) (.ref t) :=
  Alike.of (d := .tuple (ns.map .int)) (b := 100) (e := 5) (dnTup h1 dnInts) (dnTup h2 dnInts) ((Sml.tup (b := 0) (e := 0) (n := 10) (smlInts hn) (by rw [List.length_map]; exact hl)).up (by decide) (by decide)) (by decide) (by decide)
def sp_law (K : PySem.W.Frag) : Sp := fun vs H Q _ => ∃ (a : Addr) (ns : List Int), vs = [.ref a] ∧ SqL K H a (ns.map V.int) ∧ ns.length ≤ 63 ∧ ∀ H', Q (.bl true) H'
theorem law_start {ns : List Int} {s : Addr} (hl : ns.length ≤ 63) (hS : SqL K H s (ns.map V.int)) : sp_law K [.ref s] H (fun v _ => v = .bl true) E := ⟨s, ns, rfl, hS, hl, fun _ => rfl⟩
theorem ok_law (T : Txt K w mg a) : Ow.FnG P w K mg base CX0 8 a.a_law a.fd_law ["_law_script"] (sp_law K) := by
  refine Ow.fnG_of T.F_law sc_law (fun vs H Q E h => ?_) (fun cdv A outer s H vs Q E hG hr h => ?_)
  · obtain ⟨s, ns, rfl, _⟩ := h; rfl
  · obtain ⟨s, ns, rfl, hs, hl, k⟩ := h
    have G_Lbag := ok_Lbag (P := P) (base := base) T
    have G_Ltake := ok_Ltake (P := P) (base := base) T
    have G_Lone := ok_Lone (P := P) (base := base) T
    have G_Lsmall := ok_Lsmall (P := P) (base := base) T
    have G_Ldone := ok_Ldone (P := P) (base := base) T
    have G_Lundo := ok_Lundo (P := P) (base := base) T
    have G_Lalike := ok_Lalike (P := P) (base := base) T
    have G_arranged := ok_arranged (P := P) (base := base) T
    refine ⟨_, (pss_cons (ps_set (i := 1) sc_law.nd rfl (Or.inr rfl) (pe_call G_Lbag (hr.mono (by decide)) (by rfl) T.m_Lbag T.k_Lbag T.b_Lbag .nil pass0 (pa_cons (pv 0) pa_nil)))
      (pss_cons (ps_for PassesOwn.never rfl (pi_range1 (by rfl) T.n_range (pa_cons pe_int pa_nil)) (pg_name (i := 2) sc_law.nd rfl (Or.inl rfl)) (pss_cons (ps_asg (pe_call G_Lsmall (hr.mono (by decide)) (by rfl) T.m_Lsmall T.k_Lsmall T.b_Lsmall .nil pass0 (pa_cons (pv 1) pa_nil)) (pg_tup rfl (pgs_cons (pg_name (i := 3) sc_law.nd rfl (Or.inl rfl)) (pgs_cons (pg_name (i := 4) sc_law.nd rfl (Or.inl rfl)) (pgs_cons (pg_name (i := 5) sc_law.nd rfl (Or.inr rfl)) pgs_nil)))))
      (pss_cons (ps_par (i := 6) (j := 7) rfl sc_law.nd rfl rfl (by decide) rfl rfl (pa_cons (pe_lst pa_nil) (pa_cons (pe_tupRg rfl (by rfl) T.n_tuple (prg_1 (by rfl) T.n_range (pe_op op_mul (pv 3) (pv 4)))) pa_nil)) rfl)
      (pss_cons (ps_if (pt_cmpR (op_neD hr.units) (pv 5) (pe_lst pa_nil) (nomark _)) (pss_one (ps_setLc (i := 6) (own := [("_law_k", 10)]) rfl sc_law.nd rfl rfl (sw_true rfl rfl rfl (by decide +kernel)) (pi_range1 (by rfl) T.n_range (pa_cons (pe_call G_Ltake (hr.mono (by decide)) (by rfl) T.m_Ltake T.k_Ltake T.b_Ltake .nil pass0 (pa_cons (pv 1) (pa_cons pe_int pa_nil))) pa_nil)) (blkOk_by (own := [("_law_k", 10)]) (N := ["_law_script", "_law_bag_here", "_law_turn", "_law_files", "_law_rows", "_law_menu", "_law_calls", "_law_due", "_law_call_here", "_law_given", "_law_k"]) (sc := defScope s_law) (by decide +kernel)) (fun _ _ _ _ _ => (pg_name (i := 10) sc_law.nd rfl (Or.inl rfl) (Or.inr rfl))) (fun _ _ _ _ _ => pts_nil) (fun _ _ _ _ _ => (pe_call G_Lone (hr.mono (by decide)) (by rfl) T.m_Lone T.k_Lone T.b_Lone .nil pass0 (pa_cons (pv 1) (pa_cons (pv 5) pa_nil)))))) pss_nil)
      (pss_cons (ps_for PassesOwn.never rfl (pi_list (pv 6)) (pg_name (i := 8) sc_law.nd rfl (Or.inl rfl)) (pss_one (ps_set (i := 7) sc_law.nd rfl (Or.inl rfl) (pe_call G_Ldone (hr.mono (by decide)) (by rfl) T.m_Ldone T.k_Ldone T.b_Ldone .nil pass0 (pa_cons (pv 3) (pa_cons (pv 4) (pa_cons (pv 7) (pa_cons (pv 8) pa_nil))))))))
      (pss_cons (ps_set (i := 9) sc_law.nd rfl (Or.inl rfl) (pe_callTy c_listOf (by rfl) T.n_list (by decide +kernel) (pa_cons (pv 6) pa_nil)))
      (pss_cons (ps_if (PW.pt (pw_or (pt_not (pt_val (Ow.pe_callG hG G_Lalike (hr.mono (by decide)) (by rfl) T.m_Lalike T.k_Lalike T.b_Lalike .nil pass0 (pa_cons (pe_call G_arranged (hr.mono (by decide)) (by rfl) T.m_arranged T.k_arranged T.b_arranged .nil pass0 (pa_cons (pv 3) (pa_cons (pv 4) (pa_cons (pv 9) pa_nil)))) (pa_cons (pv 7) pa_nil))))) (pw_or1 (pt_cmpR (op_neD hr.units) (pv 9) (pv 6) (nomark _))))) (pss_one (ps_ret pe_bl)) pss_nil)
      (pss_cons (ps_if (pt_cmpR (op_neD hr.units) (pe_call G_arranged (hr.mono (by decide)) (by rfl) T.m_arranged T.k_arranged T.b_arranged .nil pass0 (pa_cons (pv 3) (pa_cons (pv 4) (pa_cons (pe_op op_cat (pv 6) (pe_call G_Lundo (hr.mono (by decide)) (by rfl) T.m_Lundo T.k_Lundo T.b_Lundo .nil pass0 (pa_cons (pv 6) pa_nil))) pa_nil)))) (pe_tupRg rfl (by rfl) T.n_tuple (prg_1 (by rfl) T.n_range (pe_op op_mul (pv 3) (pv 4)))) (nomark _)) (pss_one (ps_ret pe_bl)) pss_nil)
      (pss_one (ps_if (pt_cmpR (op_neD hr.units) (pe_call G_arranged (hr.mono (by decide)) (by rfl) T.m_arranged T.k_arranged T.b_arranged .nil pass0 (pa_cons (pv 3) (pa_cons (pv 4) (pa_cons (pe_lst pa_nil) pa_nil)))) (pe_tupRg rfl (by rfl) T.n_tuple (prg_1 (by rfl) T.n_range (pe_op op_mul (pv 3) (pv 4)))) (nomark _)) (pss_one (ps_ret pe_bl)) pss_nil))))))))))
      (pss_one (ps_ret pe_bl)))), ?_⟩
    walk_at "rd"
    refine u_Lbag hs hl fun b H1 e1 hb => ?_
    walk_at "rd"
    refine for_rng (m := 4) (by decide) (by decide) (fun i σ H' => ∃ v2 v3 v4 v5 v6 v7 v8 v9 v10 : Option V, σ = [some (.ref s), some (.ref b), v2, v3, v4, v5, v6, v7, v8, v9, v10] ∧ Bag b H') ⟨_, _, _, _, _, _, _, _, _, rfl, hb⟩ (fun i σ H2 hi h => ?_) (fun σ H2 h => ?_)
    · obtain ⟨v2, v3, v4, v5, v6, v7, v8, v9, v10, rfl, hb2⟩ := h
      walk_at "rd"
      refine u_Lsmall hb2 fun t l n m xs qs H3 e3 h3 sm hl3 hc3 dr3 ll3 => ?_
      have hb3 := e3.bag hb2
      have hz := sm.1
      have n0 := hz.n0
      have nbx := hc3.nb
      have hn2 := hz.two
      have hm3 := sm.2
      have hm0 := hz.2.1
      clear e3 hb2 hb e1
      walk_at "rd"
      refine x_tupRg ?_
      walk_at "rd"
      rename_i cl H4 e4 f4 h4
      refine x_rgT hz fun du H5 e5 h5 => ?_
      rw [← ord_home n0] at h5
      have hb5 : Bag b H5 := by walk_at "bg"
      have hl5 : H5 l = some (.lst xs) := by walk_at "hk"
      have hc5 := hc3.ex (e4.trans e5)
      have h45 : H5 cl = some (.lst []) := e5.kp _ _ h4 (NB.len (by decide))
      clear hb3 h3 hl3 hc3 e4 e5 h4 f4
      walk_at "rd"
      rename_i em H6 e6 f6 h6
      refine x_neNone (e6.kp _ _ hl5 nbx) h6 (hc5.ex e6) fun r hr0 => ?_
      walk_at "rd"
      have hl6 := e6.kp _ _ hl5 nbx
      have hc6 := hc5.ex e6
      have hb6 := e6.bag hb5
      have h5' := e6.kp _ _ h5 NB.tup
      have h46 : H6 cl = some (.lst []) := e6.kp _ _ h45 (NB.len (by decide))
      clear e6 h6 f6 hl5 hc5 hb5 h5 h45 G_Lbag G_Lsmall
      refine x_joinS (fun σ' H' => ∃ (c : Addr) (ys : List V) (us : List C) (v2 v8 v9 v10 : Option V), σ' = [some (.ref s), some (.ref b), v2, some (.int n), some (.int m), some (.ref l), some (.ref c), some (.ref du), v8, v9, v10] ∧ Ex H6 H' ∧ H' c = some (.lst ys) ∧ Cls H' ys us ∧ Drawn n us ∧ us.length ≤ 40) (fun N kN => ?_) fun σ' H7 h => ?_
      · cases r with
        | true =>
          have ne := hr0 rfl
          walk_at "rd"
          rename_i d H7 e7 d0 d1
          have hl7 := e7.kp _ _ hl6 nbx
          have hb7 := e7.bag hb6
          have hc7 := hc6.ex e7
          refine lc_rng (m := d) (by omega) (by omega) (fun i acc H => ∃ us, Cls H acc us ∧ Drawn n us ∧ us.length = i ∧ i ≤ 31) ⟨[], .nil, (by intro q hq; cases hq), rfl, by decide⟩ (fun i acc H H' t h => ?_) (fun i acc H h => ?_) (fun x => rfl) (fun i acc H8 hi e8 hI kk k1 k2 => ?_) (fun c ys H8 e8 f8 h8 hI => ?_)
          · obtain ⟨us, a1, a2, a3, a4⟩ := h
            exact ⟨us, a1.mono t, a2, a3, a4⟩
          · obtain ⟨us, a1, a2, a3, a4⟩ := h
            exact ⟨a1.nb, by rw [a1.len]; exact Nat.lt_of_le_of_lt (show us.length ≤ 31 by omega) (by decide)⟩
          · obtain ⟨us, a1, a2, a3, a4⟩ := hI
            walk_at "rd"
            refine u_Lone (e8.bag hb7) (e8.kp _ _ hl7 nbx) nbx (by rw [hc7.len]; exact List.length_pos_iff.mpr ne) (by rw [hc7.len]; exact Nat.lt_of_le_of_lt ll3 (by decide)) fun v H9 e9 hv => ?_
            obtain ⟨j, hj⟩ := List.getElem?_of_mem hv
            obtain ⟨p, q, rfl, hq, hp⟩ := hc7.get hj
            refine k1 _ _ e9 ⟨us ++ [q], (a1.ex e9).one ((e8.trans e9).kp _ _ hp NB.tup), ?_, by simp [a3], by omega⟩
            intro q' hq'
            rcases List.mem_append.mp hq' with hq' | hq'
            · exact a2 q' hq'
            · rw [List.mem_singleton.mp hq']
              exact dr3 q (List.mem_of_getElem? hq)
          · obtain ⟨us, a1, a2, a3, a4⟩ := hI
            walk_at "rd"
            exact kN _ _ ⟨c, ys, us, _, _, _, _, rfl, e7.trans e8, h8, a1, a2, by omega⟩
        | false =>
          walk_at "rd"
          exact kN _ _ ⟨cl, [], [], _, _, _, _, rfl, Ex.refl _, h46, .nil, (by intro q hq; cases hq), Nat.zero_le _⟩
      obtain ⟨c, ys, us, v2', v8', v9', v10', rfl, e7, h7, c7, dr, lu⟩ := h
      have hb7 := e7.bag hb6
      have hdu := e7.kp _ _ h5' NB.tup
      have nby := c7.nb
      have okq : ∀ q ∈ us, q.ok n := fun q hq => (dr q hq).1
      clear e7 h5' hb6 hl6 hc6 h46 hr0 v2 v8 v9 v10
      walk_at "rd"
      refine for_lst h7 (fun i σ H9 => ∃ (du : Addr) (v2 v8 v9 v10 : Option V), σ = [some (.ref s), some (.ref b), v2, some (.int n), some (.int m), some (.ref l), some (.ref c), some (.ref du), v8, v9, v10] ∧ Ex H7 H9 ∧ H9 du = some (.tup ((ord n m (ledg (us.take i) n m (num0 n))).map V.int)))
        ⟨du, _, _, _, _, rfl, Ex.refl _, hdu⟩ (fun i σ H9 _ h => ?_) (fun i x σ H9 hx h => ?_) (fun σ H9 h => ?_)
      · obtain ⟨_, _, _, _, _, _, ex, _⟩ := h
        exact ex.kp _ _ h7 nby
      · obtain ⟨dv, w2, w8, w9, w10, rfl, ex, hd⟩ := h
        obtain ⟨p, q, rfl, hq, hp⟩ := (c7.ex ex).get hx
        walk_at "rd"
        refine u_Ldone hd hp (okq q (List.mem_of_getElem? hq)) hz (by omega) fun t H10 e10 h10 => ?_
        refine ⟨t, _, _, _, _, rfl, ex.trans e10, ?_⟩
        rw [h10, List.take_add_one, hq]
        show _ = some (HO.tup ((ord n m (ledg (us.take i ++ [q]) n m (num0 n))).map V.int))
        rw [ledg_snoc]
      · obtain ⟨dv, w2, w8, w9, w10, rfl, ex, hd⟩ := h
        rw [c7.len, List.take_of_length_le (Nat.le_refl _)] at hd
        have h9 := ex.kp _ _ h7 nby
        have c9 := c7.ex ex
        have hb9 := ex.bag hb7
        have pm := ord_perm n0 okq (m := m)
        have sml : ∀ z ∈ ord n m (ledg us n m (num0 n)), z.natAbs < 10 ^ 59 := fun z hz' => by
          have h := pm.mem_iff.mp hz'
          unfold Ivs.rg at h
          obtain ⟨i, hi, rfl⟩ := List.mem_map.mp h
          have hi := List.mem_range.mp hi
          have := hz.lt
          exact Nat.lt_of_le_of_lt (show ((i : Int)).natAbs ≤ 300000 by omega) (by decide)
        have len : (ord n m (ledg us n m (num0 n))).length ≤ 10 := by
          rw [ord_len]
          exact Nat.le_trans (Nat.mul_le_mul (show n ≤ 3 by omega) hm3) (by decide)
        clear ex h7 c7 hb7 hdu
        walk_at "rd"
        rename_i gv H10 e10 f10 h10
        refine u_arranged h10 (c9.ex e10) okq (by omega) hz fun t1 H11 e11 h11 => ?_
        walk_at "rd"
        refine u_Lalike (alike_ints h11 ((e10.trans e11).kp _ _ hd NB.tup) sml len) fun H12 e12 => ?_
        have e912 := (e10.trans e11).trans e12
        have hg12 := (e11.trans e12).kp _ _ h10 nby
        have h12 := e912.kp _ _ h9 nby
        have c12 := c9.ex e912
        have hb12 := e912.bag hb9
        clear e912 e10 e11 e12 h10 h11 hd h9 c9 hb9 sml len pm f10
        walk_at "rd"
        refine x_neSame hg12 h12 c12 c12 ?_
        walk_at "rd"
        refine u_Lundo h12 c12 (by omega) fun ud zs H13 e13 h13 c13 => ?_
        have okz : ∀ q ∈ us ++ us.reverse.map C.turned, q.ok n := fun q hq => (List.mem_append.mp hq).elim (okq q) (ok_rev okq q)
        have h12' := e13.kp _ _ h12 nby
        have c12' := c12.ex e13
        have hb13 := e13.bag hb12
        clear e13 hg12 h12 c12 hb12
        refine x_cat h12' h13 (by rw [c12'.len, c13.len, List.length_map, List.length_reverse]; exact Nat.le_trans (show _ ≤ 100 by omega) (by decide)) (x_new fun cc H14 e14 f14 h14 => ?_)
        have c14 := (c12'.app c13).ex e14
        have hb14 := e14.bag hb13
        clear e14 h12' c12' h13 c13 hb13 f14
        walk_at "rd"
        refine u_arranged h14 c14 okz (by rw [List.length_append, List.length_map, List.length_reverse]; omega) hz fun t2 H15 e15 h15 => ?_
        rw [home n0 okq] at h15
        have hb15 := e15.bag hb14
        clear e15 h14 c14 hb14
        walk_at "rd"
        refine x_tupRg ?_
        walk_at "rd"
        refine x_rgT hz fun t3 H16 e16 h16 => ?_
        refine x_neIntsT (e16.kp _ _ h15 NB.tup) h16 ?_
        have hb16 := e16.bag hb15
        clear e16 h15 h16 hb15
        walk_at "rd"
        rename_i el H17 e17 f17 h17
        refine u_arranged (xs := []) (qs := []) h17 .nil (fun q hq => by cases hq) (Nat.zero_le _) hz fun t4 H18 e18 h18 => ?_
        rw [show ord n m (ledg [] n m (num0 n)) = Ivs.rg (n * m) from ord_home n0] at h18
        walk_at "rd"
        refine x_tupRg ?_
        walk_at "rd"
        refine x_rgT hz fun t5 H19 e19 h19 => ?_
        refine x_neIntsT (e19.kp _ _ h18 NB.tup) h19 ?_
        walk_at "rd"
        exact ⟨_, _, _, _, _, _, _, _, _, rfl, ((e17.trans e18).trans e19).bag hb16⟩
    · obtain ⟨v2, v3, v4, v5, v6, v7, v8, v9, v10, rfl, hb2⟩ := h
      walk_at "rd"
      exact k _
end
end My

set_option Elab.async false
set_option linter.all false
set_option maxRecDepth 100000
set_option maxHeartbeats 8000000
namespace My
open PySem PySem.Spec PyProof.Rows L2 Sx
local macro_rules | `(tactic| walk_at "nb") => `(tactic| first | exact NB.tup | exact NB.ints | exact NB.len (of_decide_eq_true rfl) | exact NB.at0b rfl | exact NB.at3b rfl | exact NB.ins | exact NB.own | exact NB.frz | exact NB.refs (by assumption) | assumption)
local macro_rules | `(tactic| walk_at "ne") => `(tactic| first | assumption | exact Ne.symm (by assumption) | exact ne_of_none (by assumption) (by assumption) | exact Ne.symm (ne_of_none (by assumption) (by assumption)))
local macro_rules | `(tactic| walk_at "hk") => `(tactic| first
  | assumption
  | exact upd_same
  | (refine' (upd_ne ?hkne).trans ?hkq; (case hkne => walk_at "ne"); (case hkq => walk_at "hk"))
  | (refine' Ex.kp (by assumption) _ _ ?hkq ?hkn; (case hkq => walk_at "hk"); (case hkn => walk_at "nb")))
local macro_rules | `(tactic| walk_at "rd1") => `(tactic| first
  | ((with_reducible refine' x_var ?hx ?_); (case hx => exact rfl))
  | with_reducible refine x_c ?_
  | with_reducible refine x_op ?_
  | with_reducible refine x_un ?_
  | with_reducible refine x_I0 ?_
  | with_reducible refine x_U ?_
  | ((with_reducible refine x_I ?hc ?_); (case hc => first | exact (by decide : (0 : Int) < _) | (show (0 : Int) < _; omega) | (show CMul _ _; first | exact .inl ⟨by omega, by omega⟩ | exact .inr ⟨by omega, by omega⟩) | (show CDiv _ _; exact ⟨by omega, by omega⟩) | (show CDivW _ _; exact wide_div (b := 200) (by omega) (by assumption) (by decide) (by decide)) | (show CDivW _ _; exact wide_div (b := 31) (by omega) (by omega) (by decide) (by decide))))
  | with_reducible refine x_EqI ?_
  | with_reducible refine x_NeI ?_
  | ((with_reducible refine x_EqSt ?h ?_); (case h => decide +kernel))
  | ((with_reducible refine x_EqSf ?h ?_); (case h => decide +kernel))
  | ((with_reducible refine x_NeSt ?h ?_); (case h => decide +kernel))
  | ((with_reducible refine x_NeSf ?h ?_); (case h => decide +kernel))
  | with_reducible refine x_EqS ?_
  | with_reducible refine x_NeS ?_
  | ((with_reducible refine' x_ixL ?hq ?hi ?_); (case hq => walk_at "hk"); (case hi => first | exact rfl | assumption))
  | ((with_reducible refine' x_ixT ?hq ?hi ?_); (case hq => walk_at "hk"); (case hi => first | exact rfl | assumption))
  | with_reducible refine x_chain ?_
  | with_reducible refine x_tup ?_
  | with_reducible refine x_lst ?_
  | ((with_reducible refine x_lenNew ?hl ?_); (case hl => exact Nat.le_of_ble_eq_true rfl); intro _ _ _ _ _)
  | ((with_reducible refine x_new ?_); intro _ _ _ _ _)
  | with_reducible refine x_sl ?_
  | with_reducible refine x_noPart ?_
  | with_reducible refine x_part ?_
  | with_reducible refine x_ex_int ?_
  | with_reducible refine x_ex_bl ?_
  | with_reducible refine x_ex_2 ?_
  | with_reducible refine x_test ?_
  | with_reducible refine x_B ?_
  | with_reducible refine x_and ?_
  | with_reducible refine x_or ?_
  | with_reducible refine x_not ?_
  | with_reducible refine x_andV ?_
  | with_reducible refine x_orV ?_
  | with_reducible refine x_notV ?_
  | with_reducible refine x_ifE ?_
  | with_reducible refine x_iteT ?_
  | with_reducible refine x_iteF ?_
  | ((with_reducible refine x_iteD ?_ ?_) <;> intro _)
  | ((with_reducible refine x_iteN ?_ ?_) <;> intro _)
  | with_reducible refine x_if ?_
  | with_reducible refine x_seq ?_
  | with_reducible refine x_next ?_
  | with_reducible refine x_asg ?_
  | with_reducible refine x_gName ?_
  | ((with_reducible refine' x_gTup ?hq ?hn ?_); (case hq => walk_at "hk"); (case hn => exact rfl))
  | with_reducible refine x_gCons ?_
  | with_reducible refine x_gNil ?_
  | ((with_reducible refine' x_gConsE ?h ?_); (case h => exact rfl))
  | ((with_reducible refine x_gNilE ?h ?_); (case h => exact rfl))
  | with_reducible refine x_ret ?_
  | with_reducible refine x_drop ?_
  | with_reducible refine x_par ?_
  | ((with_reducible refine' x_aug ?hx ?_); (case hx => exact rfl))
  | with_reducible refine x_ipI ?_
  | with_reducible refine x_augS ?_
  | with_reducible refine x_gSub ?_
  | ((with_reducible refine' x_setL ?hq ?hi ?_); (case hq => walk_at "hk"); (case hi => first | exact rfl | assumption))
  | with_reducible refine x_cons ?_
  | with_reducible refine x_nil ?_
  | with_reducible refine x_CB ?_
  | with_reducible refine x_abs ?_
  | with_reducible refine x_intI ?_
  | with_reducible refine x_intB ?_
  | ((with_reducible refine' x_lenL ?hq ?_); (case hq => walk_at "hk"))
  | ((with_reducible refine' x_lenT ?hq ?_); (case hq => walk_at "hk"))
  | ((with_reducible refine x_iteTe ?h ?_); (case h => exact rfl))
  | ((with_reducible refine x_iteFe ?h ?_); (case h => exact rfl))
  | walk_at "use"
  | with_reducible refine x_callS ?_
  | ((with_reducible refine x_lc ?_))
  | ((with_reducible refine x_for ?_))
  | ((with_reducible refine x_iR1 ?_))
  | ((with_reducible refine x_iL ?_))
  | ((with_reducible refine x_iZ ?_))
  | ((with_reducible refine x_yes ?_))
  | ((with_reducible refine' x_NIDt ?hq ?_); (case hq => assumption))
  | ((with_reducible refine' x_NIDf ?hq ?_); (case hq => assumption))
  | ((with_reducible refine' x_IIDf ?hq ?_); (case hq => assumption))
  | ((with_reducible refine' x_IIDt ?hq ?_); (case hq => assumption))
  | ((with_reducible refine' x_ixDs ?hd ?hq ?_); (case hd => assumption); (case hq => assumption))
  | ((with_reducible refine x_InSt ?h ?_); (case h => decide +kernel))
  | ((with_reducible refine x_InSf ?h ?_); (case h => decide +kernel))
  | ((with_reducible refine' x_notInI ?hq ?_); (case hq => walk_at "hk"))
  | ((with_reducible refine' x_inTt ?hq ?hv ?ha ?he ?_); (case hq => walk_at "hk"); (case hv => exact rfl); (case ha => exact rfl); (case he => decide +kernel))
  | ((with_reducible refine' x_inTf ?hq ?hv ?ha ?he ?_); (case hq => walk_at "hk"); (case hv => exact rfl); (case ha => exact rfl); (case he => decide +kernel))
  | ((with_reducible refine' x_slT ?hq ?hw ?_); (case hq => walk_at "hk"); (case hw => with_unfolding_all exact of_decide_eq_true rfl))
  | ((with_reducible refine' x_slL ?hq ?_); (case hq => walk_at "hk"))
  | ((with_reducible refine' x_catT ?hq ?hr ?n1 ?n2 ?hl ?_); (case hq => walk_at "hk"); (case hr => walk_at "hk"); (case n1 => exact List.cons_ne_nil _ _); (case n2 => exact List.cons_ne_nil _ _); (case hl => exact Nat.le_of_ble_eq_true rfl))
  | ((with_reducible refine x_bm ?_))
  | ((with_reducible refine x_lstRg ?_))
  | ((with_reducible refine x_rg1 ?_))
  | ((with_reducible refine And.intro ?h ?_); (case h => exact tyL (by assumption)))
  | dsimp only)
local macro_rules | `(tactic| walk_at "use") => `(tactic| fail)
local macro_rules | `(tactic| walk_at "rd") => `(tactic| repeat' (walk_at "rd1"))
local macro_rules | `(tactic| walk_at "ex") => `(tactic| first | exact Ex.refl _ | assumption | (refine' Ex.trans ?he (by assumption); (case he => walk_at "ex")))
local macro_rules | `(tactic| walk_at "rd1") => `(tactic| first
  | ((with_reducible refine x_iteDf ?h ?_); (case h => exact rfl))
  | ((with_reducible refine x_iteDt ?h ?_); (case h => exact rfl))
  | ((with_reducible refine x_iteNf ?h ?_); (case h => exact rfl))
  | ((with_reducible refine x_iteNt ?h ?_); (case h => exact rfl))
  | ((with_reducible refine x_isiI (r := true) ?h ?_); (case h => decide +kernel))
  | ((with_reducible refine x_isiI (r := false) ?h ?_); (case h => decide +kernel))
  | ((with_reducible refine x_isiS (r := true) ?h ?_); (case h => decide +kernel))
  | ((with_reducible refine x_isiS (r := false) ?h ?_); (case h => decide +kernel))
  | ((with_reducible refine x_isiB (r := true) ?h ?_); (case h => decide +kernel))
  | ((with_reducible refine x_isiB (r := false) ?h ?_); (case h => decide +kernel))
  | ((with_reducible refine' x_isiT (r := true) ?hp ?h ?_); (case hp => walk_at "hk"); (case h => decide +kernel))
  | ((with_reducible refine' x_isiT (r := false) ?hp ?h ?_); (case hp => walk_at "hk"); (case h => decide +kernel))
  | ((with_reducible refine' x_isiL (r := true) ?hp ?h ?_); (case hp => walk_at "hk"); (case h => decide +kernel))
  | ((with_reducible refine' x_isiL (r := false) ?hp ?h ?_); (case hp => walk_at "hk"); (case h => decide +kernel))
  | ((with_reducible refine' x_isi2L ?hp ?hl ?_); (case hp => walk_at "hk"); (case hl => walk_at "hk"))
  | ((with_reducible refine' x_isi2T ?hp ?hl ?_); (case hp => walk_at "hk"); (case hl => walk_at "hk"))
  | ((with_reducible refine' x_tupOfL ?hq ?_); (case hq => walk_at "hk"))
  | ((with_reducible refine' x_tupOfT ?hq ?_); (case hq => walk_at "hk"))
  | ((with_reducible refine x_lenS ?h ?_); (case h => exact Nat.le_of_ble_eq_true rfl))
  | ((with_reducible refine' x_all ?hq ?_); (case hq => walk_at "hk"))
  | with_reducible refine x_lenSet ?_)
local macro_rules | `(tactic| walk_at "nb") => `(tactic| first | exact NB.xd | exact NB.dK)
local macro_rules | `(tactic| walk_at "rd1") => `(tactic| first
  | with_reducible refine Er.x_par3 ?_
  | with_reducible refine Er.x_ex_3 ?_
  | with_reducible refine Er.x_revL0 ?_
  | ((with_reducible refine' Er.x_revL ?hq ?_); (case hq => walk_at "hk"))
  | with_reducible refine Er.x_dget2 ?_
  | with_reducible refine x_dict0 ?_
  | ((with_reducible refine x_pow ?hc ?_); (case hc => exact ⟨by decide, by decide, by decide⟩))
  | ((with_reducible refine And.intro ?h ?_); (case h => exact tyL (by walk_at "hk")))
  | ((with_reducible refine' Er.x_dis ?hq ?_); (case hq => walk_at "hk"))
  | ((with_reducible refine' Er.x_dgo ?hq ?he ?_); (case hq => walk_at "hk"); (case he => exact rfl)))
local macro_rules | `(tactic| walk_at "rd1") => `(tactic| first
  | with_reducible refine Er.x_callSS ?_
  | ((with_reducible refine Er.x_mulS2 ?h ?h0 ?h1 ?_); (case h => decide); (case h0 => decide); (case h1 => decide)))
local macro_rules | `(tactic| walk_at "rd1") => `(tactic| first
  | with_reducible refine Er.x_iR2 ?_
  | with_reducible refine Er.x_iEn ?_
  | with_reducible refine Er.x_cont ?_
  | ((with_reducible refine Er.x_isBt ?h ?_); (case h => exact rfl))
  | ((with_reducible refine Er.x_isBf ?h ?_); (case h => exact rfl))
  | ((with_reducible refine Er.x_isNBt ?h ?_); (case h => exact rfl))
  | ((with_reducible refine Er.x_isNBf ?h ?_); (case h => exact rfl))
  | with_reducible refine Er.x_isB ?_
  | with_reducible refine Er.x_isNB ?_)

theorem all_mk {l : PySem.W.OpenLaw} {w : World} {K : PySem.W.Frag} {h : Heap} {mg : Str → Option Value} {fa : Addr} (X : K.In h) (G : h.Ns mainGlobals mg) (hfa : mg "law" = some (.ref fa))
    {C_Script : Addr}
    {p_Script_files : Addr} {r_Script_files : List Value}
    {f_is_integer : Addr} {od_is_integer an_is_integer : Option Addr} {sl_is_integer : Array (Option Value)} {oc_is_integer kV_is_integer dc_is_integer pm_is_integer cd_is_integer ct_is_integer : Value}
    {f_is_files : Addr} {od_is_files an_is_files : Option Addr} {sl_is_files : Array (Option Value)} {oc_is_files kV_is_files dc_is_files pm_is_files cd_is_files ct_is_files : Value}
    {f_is_index : Addr} {od_is_index an_is_index : Option Addr} {sl_is_index : Array (Option Value)} {oc_is_index kV_is_index dc_is_index pm_is_index cd_is_index ct_is_index : Value}
    {f_is_part : Addr} {od_is_part an_is_part : Option Addr} {sl_is_part : Array (Option Value)} {oc_is_part kV_is_part dc_is_part pm_is_part cd_is_part ct_is_part : Value}
    {f_is_call : Addr} {od_is_call an_is_call : Option Addr} {sl_is_call : Array (Option Value)} {oc_is_call kV_is_call dc_is_call pm_is_call cd_is_call ct_is_call : Value}
    {f_turned : Addr} {od_turned an_turned : Option Addr} {sl_turned : Array (Option Value)} {oc_turned kV_turned dc_turned pm_turned cd_turned ct_turned : Value}
    {f_files_of : Addr} {od_files_of an_files_of : Option Addr} {sl_files_of : Array (Option Value)} {oc_files_of kV_files_of dc_files_of pm_files_of cd_files_of ct_files_of : Value}
    {f_behind_all : Addr} {od_behind_all an_behind_all : Option Addr} {sl_behind_all : Array (Option Value)} {oc_behind_all kV_behind_all dc_behind_all pm_behind_all cd_behind_all ct_behind_all : Value}
    {f_behind_up : Addr} {od_behind_up an_behind_up : Option Addr} {sl_behind_up : Array (Option Value)} {oc_behind_up kV_behind_up dc_behind_up pm_behind_up cd_behind_up ct_behind_up : Value}
    {f_behind_swap : Addr} {od_behind_swap an_behind_swap : Option Addr} {sl_behind_swap : Array (Option Value)} {oc_behind_swap kV_behind_swap dc_behind_swap pm_behind_swap cd_behind_swap ct_behind_swap : Value}
    {f_behind_wheel : Addr} {od_behind_wheel an_behind_wheel : Option Addr} {sl_behind_wheel : Array (Option Value)} {oc_behind_wheel kV_behind_wheel dc_behind_wheel pm_behind_wheel cd_behind_wheel ct_behind_wheel : Value}
    {f_behind_about : Addr} {od_behind_about an_behind_about : Option Addr} {sl_behind_about : Array (Option Value)} {oc_behind_about kV_behind_about dc_behind_about pm_behind_about cd_behind_about ct_behind_about : Value}
    {f_behind_front : Addr} {od_behind_front an_behind_front : Option Addr} {sl_behind_front : Array (Option Value)} {oc_behind_front kV_behind_front dc_behind_front pm_behind_front cd_behind_front ct_behind_front : Value}
    {f_behind_halve : Addr} {od_behind_halve an_behind_halve : Option Addr} {sl_behind_halve : Array (Option Value)} {oc_behind_halve kV_behind_halve dc_behind_halve pm_behind_halve cd_behind_halve ct_behind_halve : Value}
    {f_behind_pair : Addr} {od_behind_pair an_behind_pair : Option Addr} {sl_behind_pair : Array (Option Value)} {oc_behind_pair kV_behind_pair dc_behind_pair pm_behind_pair cd_behind_pair ct_behind_pair : Value}
    {f_behind_others : Addr} {od_behind_others an_behind_others : Option Addr} {sl_behind_others : Array (Option Value)} {oc_behind_others kV_behind_others dc_behind_others pm_behind_others cd_behind_others ct_behind_others : Value}
    {f_behind_fill : Addr} {od_behind_fill an_behind_fill : Option Addr} {sl_behind_fill : Array (Option Value)} {oc_behind_fill kV_behind_fill dc_behind_fill pm_behind_fill cd_behind_fill ct_behind_fill : Value}
    {f_columns_led : Addr} {od_columns_led an_columns_led : Option Addr} {sl_columns_led : Array (Option Value)} {oc_columns_led kV_columns_led dc_columns_led pm_columns_led cd_columns_led ct_columns_led : Value}
    {f_columns_of : Addr} {od_columns_of an_columns_of : Option Addr} {sl_columns_of : Array (Option Value)} {oc_columns_of kV_columns_of dc_columns_of pm_columns_of cd_columns_of ct_columns_of : Value}
    {f_order_of : Addr} {od_order_of an_order_of : Option Addr} {sl_order_of : Array (Option Value)} {oc_order_of kV_order_of dc_order_of pm_order_of cd_order_of ct_order_of : Value}
    {f_first_columns : Addr} {od_first_columns an_first_columns : Option Addr} {sl_first_columns : Array (Option Value)} {oc_first_columns kV_first_columns dc_first_columns pm_first_columns cd_first_columns ct_first_columns : Value}
    {f_order_behind : Addr} {od_order_behind an_order_behind : Option Addr} {sl_order_behind : Array (Option Value)} {oc_order_behind kV_order_behind dc_order_behind pm_order_behind cd_order_behind ct_order_behind : Value}
    {f_arranged : Addr} {od_arranged an_arranged : Option Addr} {sl_arranged : Array (Option Value)} {oc_arranged kV_arranged dc_arranged pm_arranged cd_arranged ct_arranged : Value}
    {f_Lbag : Addr} {od_Lbag an_Lbag : Option Addr} {sl_Lbag : Array (Option Value)} {oc_Lbag kV_Lbag dc_Lbag pm_Lbag cd_Lbag ct_Lbag : Value}
    {f_Ltake : Addr} {od_Ltake an_Ltake : Option Addr} {sl_Ltake : Array (Option Value)} {oc_Ltake kV_Ltake dc_Ltake pm_Ltake cd_Ltake ct_Ltake : Value}
    {f_Lone : Addr} {od_Lone an_Lone : Option Addr} {sl_Lone : Array (Option Value)} {oc_Lone kV_Lone dc_Lone pm_Lone cd_Lone ct_Lone : Value}
    {f_Lmixed : Addr} {od_Lmixed an_Lmixed : Option Addr} {sl_Lmixed : Array (Option Value)} {oc_Lmixed kV_Lmixed dc_Lmixed pm_Lmixed cd_Lmixed ct_Lmixed : Value}
    {f_Lalike : Addr} {od_Lalike an_Lalike : Option Addr} {sl_Lalike : Array (Option Value)} {oc_Lalike kV_Lalike dc_Lalike pm_Lalike cd_Lalike ct_Lalike : Value}
    {f_Lcall : Addr} {od_Lcall an_Lcall : Option Addr} {sl_Lcall : Array (Option Value)} {oc_Lcall kV_Lcall dc_Lcall pm_Lcall cd_Lcall ct_Lcall : Value}
    {f_Lopen : Addr} {od_Lopen an_Lopen : Option Addr} {sl_Lopen : Array (Option Value)} {oc_Lopen kV_Lopen dc_Lopen pm_Lopen cd_Lopen ct_Lopen : Value}
    {f_Lgoes : Addr} {od_Lgoes an_Lgoes : Option Addr} {sl_Lgoes : Array (Option Value)} {oc_Lgoes kV_Lgoes dc_Lgoes pm_Lgoes cd_Lgoes ct_Lgoes : Value}
    {f_Lundo : Addr} {od_Lundo an_Lundo : Option Addr} {sl_Lundo : Array (Option Value)} {oc_Lundo kV_Lundo dc_Lundo pm_Lundo cd_Lundo ct_Lundo : Value}
    {f_Lsmall : Addr} {od_Lsmall an_Lsmall : Option Addr} {sl_Lsmall : Array (Option Value)} {oc_Lsmall kV_Lsmall dc_Lsmall pm_Lsmall cd_Lsmall ct_Lsmall : Value}
    {f_Ldone : Addr} {od_Ldone an_Ldone : Option Addr} {sl_Ldone : Array (Option Value)} {oc_Ldone kV_Ldone dc_Ldone pm_Ldone cd_Ldone ct_Ldone : Value}
    {f_law : Addr} {od_law an_law : Option Addr} {sl_law : Array (Option Value)} {oc_law kV_law dc_law pm_law cd_law ct_law : Value}
    {f_Script_init : Addr} {od_Script_init an_Script_init : Option Addr} {sl_Script_init : Array (Option Value)} {oc_Script_init kV_Script_init dc_Script_init pm_Script_init cd_Script_init ct_Script_init : Value}
    {f_Script_len : Addr} {od_Script_len an_Script_len : Option Addr} {sl_Script_len : Array (Option Value)} {oc_Script_len kV_Script_len dc_Script_len pm_Script_len cd_Script_len ct_Script_len : Value}
    {f_Script_iter : Addr} {od_Script_iter an_Script_iter : Option Addr} {sl_Script_iter : Array (Option Value)} {oc_Script_iter kV_Script_iter dc_Script_iter pm_Script_iter cd_Script_iter ct_Script_iter : Value}
    {f_Script_files : Addr} {od_Script_files an_Script_files : Option Addr} {sl_Script_files : Array (Option Value)} {oc_Script_files kV_Script_files dc_Script_files pm_Script_files cd_Script_files ct_Script_files : Value}
    {f_Script_calls : Addr} {od_Script_calls an_Script_calls : Option Addr} {sl_Script_calls : Array (Option Value)} {oc_Script_calls kV_Script_calls dc_Script_calls pm_Script_calls cd_Script_calls ct_Script_calls : Value}
    {q_PARTS : Addr} {qe_PARTS : Array DictEntry} {qn_PARTS : Nat}
    {t_PARTS_all : Tok}
    {t_PARTS_up : Tok}
    {t_PARTS_swap : Tok}
    {t_PARTS_wheel : Tok}
    {t_PARTS_about : Tok}
    {t_PARTS_front : Tok}
    {t_PARTS_halve : Tok}
    {t_PARTS_pair : Tok}
    {t_PARTS_others : Tok}
    {t_PARTS_fill : Tok}
    {q_UNDOING : Addr} {qe_UNDOING : Array DictEntry} {qn_UNDOING : Nat}
    {t_UNDOING_halve : Tok}
    {t_UNDOING_pair : Tok}
    {t_UNDOING_others : Tok}
    {t_UNDOING_fill : Tok}
    {q_ACTIONS : Addr} {qe_ACTIONS : Array DictEntry} {qn_ACTIONS : Nat}
    (g_Script : PySem.W.nsIn K mainGlobals "Script" = some (some (.ref C_Script)))
    (pg_Script : PySem.W.plainGet K C_Script Str.empty = true)
    (hd_Script : PySem.W.hasDictIn K C_Script = true)
    (po_Script : PySem.W.plainOver K C_Script = true)
    (sa_Script : PySem.W.findIn K (.ref C_Script) "__setattr__" = some (some (.builtin "object.__setattr__")))
    (ha_Script : PySem.W.findIn K (.ref C_Script) "__class__" = some (some (.builtin "object.__class__")))
    (hm_Script : PySem.W.mroIn K C_Script (.type "object") = some true)
    (mk_Script : PySem.W.makesIn K C_Script = true)
    (kc_Script : PySem.W.keepIn K (.ref C_Script) = true)
    (kI_Script : PySem.W.kitOne K (.ref C_Script) (.type "int") = some false)
    (kB_Script : PySem.W.kitOne K (.ref C_Script) (.type "bool") = some false)
    (kT_Script : PySem.W.kitOne K (.ref C_Script) (.type "tuple") = some false)
    (kL_Script : PySem.W.kitOne K (.ref C_Script) (.type "list") = some false)
    (kD_Script : PySem.W.kitOne K (.ref C_Script) (.type "dict") = some false)
    (kS_Script : PySem.W.kitOne K (.ref C_Script) (.type "str") = some false)
    (kO_Script : PySem.W.kitOne K (.ref C_Script) (.ref C_Script) = some true)
    (bI_Script : PySem.W.kitOne K (.type "int") (.ref C_Script) = some false)
    (bL_Script : PySem.W.kitOne K (.type "list") (.ref C_Script) = some false)
    (bT_Script : PySem.W.kitOne K (.type "tuple") (.ref C_Script) = some false)
    (ne_Script : PySem.W.findIn K (.ref C_Script) "__ne__" = some (some (.builtin "object.__ne__")))
    (nI_Script : PySem.W.notFirst K C_Script (.type "int") = true)
    (nL_Script : PySem.W.notFirst K C_Script (.type "list") = true)
    (nT_Script : PySem.W.notFirst K C_Script (.type "tuple") = true)
    (A_Script_width : PySem.W.findIn K (.ref C_Script) "width" = some none)
    (A_Script_held : PySem.W.findIn K (.ref C_Script) "held" = some none)
    (hgt : PySem.W.specialIn K (.builtin "object.__class__") "__get__" = some (some (.builtin "getset_descriptor.__get__")))
    (htk : PySem.W.takesIn K (.builtin "object.__class__") = some true)
    (a_is_integer : PySem.W.nsIn K mainGlobals "is_integer" = some (some (.ref f_is_integer)))
    (l_is_integer : K.lookup f_is_integer = some ⟨oc_is_integer, od_is_integer, .func (PySem.W.fnOf "is_integer" "is_integer" (defArgs s_is_integer) (defBody s_is_integer) (defScope s_is_integer) .none kV_is_integer dc_is_integer pm_is_integer an_is_integer cd_is_integer ct_is_integer), sl_is_integer⟩)
    (c_is_integer : PySem.W.codeIn K cd_is_integer "is_integer" = true)
    (k_is_integer : PySem.W.keepIn K (.ref f_is_integer) = true)
    (a_is_files : PySem.W.nsIn K mainGlobals "is_files" = some (some (.ref f_is_files)))
    (l_is_files : K.lookup f_is_files = some ⟨oc_is_files, od_is_files, .func (PySem.W.fnOf "is_files" "is_files" (defArgs s_is_files) (defBody s_is_files) (defScope s_is_files) .none kV_is_files dc_is_files pm_is_files an_is_files cd_is_files ct_is_files), sl_is_files⟩)
    (c_is_files : PySem.W.codeIn K cd_is_files "is_files" = true)
    (k_is_files : PySem.W.keepIn K (.ref f_is_files) = true)
    (a_is_index : PySem.W.nsIn K mainGlobals "is_index" = some (some (.ref f_is_index)))
    (l_is_index : K.lookup f_is_index = some ⟨oc_is_index, od_is_index, .func (PySem.W.fnOf "is_index" "is_index" (defArgs s_is_index) (defBody s_is_index) (defScope s_is_index) .none kV_is_index dc_is_index pm_is_index an_is_index cd_is_index ct_is_index), sl_is_index⟩)
    (c_is_index : PySem.W.codeIn K cd_is_index "is_index" = true)
    (k_is_index : PySem.W.keepIn K (.ref f_is_index) = true)
    (a_is_part : PySem.W.nsIn K mainGlobals "is_part" = some (some (.ref f_is_part)))
    (l_is_part : K.lookup f_is_part = some ⟨oc_is_part, od_is_part, .func (PySem.W.fnOf "is_part" "is_part" (defArgs s_is_part) (defBody s_is_part) (defScope s_is_part) .none kV_is_part dc_is_part pm_is_part an_is_part cd_is_part ct_is_part), sl_is_part⟩)
    (c_is_part : PySem.W.codeIn K cd_is_part "is_part" = true)
    (k_is_part : PySem.W.keepIn K (.ref f_is_part) = true)
    (a_is_call : PySem.W.nsIn K mainGlobals "is_call" = some (some (.ref f_is_call)))
    (l_is_call : K.lookup f_is_call = some ⟨oc_is_call, od_is_call, .func (PySem.W.fnOf "is_call" "is_call" (defArgs s_is_call) (defBody s_is_call) (defScope s_is_call) .none kV_is_call dc_is_call pm_is_call an_is_call cd_is_call ct_is_call), sl_is_call⟩)
    (c_is_call : PySem.W.codeIn K cd_is_call "is_call" = true)
    (k_is_call : PySem.W.keepIn K (.ref f_is_call) = true)
    (a_turned : PySem.W.nsIn K mainGlobals "turned" = some (some (.ref f_turned)))
    (l_turned : K.lookup f_turned = some ⟨oc_turned, od_turned, .func (PySem.W.fnOf "turned" "turned" (defArgs s_turned) (defBody s_turned) (defScope s_turned) .none kV_turned dc_turned pm_turned an_turned cd_turned ct_turned), sl_turned⟩)
    (c_turned : PySem.W.codeIn K cd_turned "turned" = true)
    (k_turned : PySem.W.keepIn K (.ref f_turned) = true)
    (a_files_of : PySem.W.nsIn K mainGlobals "files_of" = some (some (.ref f_files_of)))
    (l_files_of : K.lookup f_files_of = some ⟨oc_files_of, od_files_of, .func (PySem.W.fnOf "files_of" "files_of" (defArgs s_files_of) (defBody s_files_of) (defScope s_files_of) .none kV_files_of dc_files_of pm_files_of an_files_of cd_files_of ct_files_of), sl_files_of⟩)
    (c_files_of : PySem.W.codeIn K cd_files_of "files_of" = true)
    (k_files_of : PySem.W.keepIn K (.ref f_files_of) = true)
    (a_behind_all : PySem.W.nsIn K mainGlobals "behind_all" = some (some (.ref f_behind_all)))
    (l_behind_all : K.lookup f_behind_all = some ⟨oc_behind_all, od_behind_all, .func (PySem.W.fnOf "behind_all" "behind_all" (defArgs s_behind_all) (defBody s_behind_all) (defScope s_behind_all) .none kV_behind_all dc_behind_all pm_behind_all an_behind_all cd_behind_all ct_behind_all), sl_behind_all⟩)
    (c_behind_all : PySem.W.codeIn K cd_behind_all "behind_all" = true)
    (k_behind_all : PySem.W.keepIn K (.ref f_behind_all) = true)
    (a_behind_up : PySem.W.nsIn K mainGlobals "behind_up" = some (some (.ref f_behind_up)))
    (l_behind_up : K.lookup f_behind_up = some ⟨oc_behind_up, od_behind_up, .func (PySem.W.fnOf "behind_up" "behind_up" (defArgs s_behind_up) (defBody s_behind_up) (defScope s_behind_up) .none kV_behind_up dc_behind_up pm_behind_up an_behind_up cd_behind_up ct_behind_up), sl_behind_up⟩)
    (c_behind_up : PySem.W.codeIn K cd_behind_up "behind_up" = true)
    (k_behind_up : PySem.W.keepIn K (.ref f_behind_up) = true)
    (a_behind_swap : PySem.W.nsIn K mainGlobals "behind_swap" = some (some (.ref f_behind_swap)))
    (l_behind_swap : K.lookup f_behind_swap = some ⟨oc_behind_swap, od_behind_swap, .func (PySem.W.fnOf "behind_swap" "behind_swap" (defArgs s_behind_swap) (defBody s_behind_swap) (defScope s_behind_swap) .none kV_behind_swap dc_behind_swap pm_behind_swap an_behind_swap cd_behind_swap ct_behind_swap), sl_behind_swap⟩)
    (c_behind_swap : PySem.W.codeIn K cd_behind_swap "behind_swap" = true)
    (k_behind_swap : PySem.W.keepIn K (.ref f_behind_swap) = true)
    (a_behind_wheel : PySem.W.nsIn K mainGlobals "behind_wheel" = some (some (.ref f_behind_wheel)))
    (l_behind_wheel : K.lookup f_behind_wheel = some ⟨oc_behind_wheel, od_behind_wheel, .func (PySem.W.fnOf "behind_wheel" "behind_wheel" (defArgs s_behind_wheel) (defBody s_behind_wheel) (defScope s_behind_wheel) .none kV_behind_wheel dc_behind_wheel pm_behind_wheel an_behind_wheel cd_behind_wheel ct_behind_wheel), sl_behind_wheel⟩)
    (c_behind_wheel : PySem.W.codeIn K cd_behind_wheel "behind_wheel" = true)
    (k_behind_wheel : PySem.W.keepIn K (.ref f_behind_wheel) = true)
    (a_behind_about : PySem.W.nsIn K mainGlobals "behind_about" = some (some (.ref f_behind_about)))
    (l_behind_about : K.lookup f_behind_about = some ⟨oc_behind_about, od_behind_about, .func (PySem.W.fnOf "behind_about" "behind_about" (defArgs s_behind_about) (defBody s_behind_about) (defScope s_behind_about) .none kV_behind_about dc_behind_about pm_behind_about an_behind_about cd_behind_about ct_behind_about), sl_behind_about⟩)
    (c_behind_about : PySem.W.codeIn K cd_behind_about "behind_about" = true)
    (k_behind_about : PySem.W.keepIn K (.ref f_behind_about) = true)
    (a_behind_front : PySem.W.nsIn K mainGlobals "behind_front" = some (some (.ref f_behind_front)))
    (l_behind_front : K.lookup f_behind_front = some ⟨oc_behind_front, od_behind_front, .func (PySem.W.fnOf "behind_front" "behind_front" (defArgs s_behind_front) (defBody s_behind_front) (defScope s_behind_front) .none kV_behind_front dc_behind_front pm_behind_front an_behind_front cd_behind_front ct_behind_front), sl_behind_front⟩)
    (c_behind_front : PySem.W.codeIn K cd_behind_front "behind_front" = true)
    (k_behind_front : PySem.W.keepIn K (.ref f_behind_front) = true)
    (a_behind_halve : PySem.W.nsIn K mainGlobals "behind_halve" = some (some (.ref f_behind_halve)))
    (l_behind_halve : K.lookup f_behind_halve = some ⟨oc_behind_halve, od_behind_halve, .func (PySem.W.fnOf "behind_halve" "behind_halve" (defArgs s_behind_halve) (defBody s_behind_halve) (defScope s_behind_halve) .none kV_behind_halve dc_behind_halve pm_behind_halve an_behind_halve cd_behind_halve ct_behind_halve), sl_behind_halve⟩)
    (c_behind_halve : PySem.W.codeIn K cd_behind_halve "behind_halve" = true)
    (k_behind_halve : PySem.W.keepIn K (.ref f_behind_halve) = true)
    (a_behind_pair : PySem.W.nsIn K mainGlobals "behind_pair" = some (some (.ref f_behind_pair)))
    (l_behind_pair : K.lookup f_behind_pair = some ⟨oc_behind_pair, od_behind_pair, .func (PySem.W.fnOf "behind_pair" "behind_pair" (defArgs s_behind_pair) (defBody s_behind_pair) (defScope s_behind_pair) .none kV_behind_pair dc_behind_pair pm_behind_pair an_behind_pair cd_behind_pair ct_behind_pair), sl_behind_pair⟩)
    (c_behind_pair : PySem.W.codeIn K cd_behind_pair "behind_pair" = true)
    (k_behind_pair : PySem.W.keepIn K (.ref f_behind_pair) = true)
    (a_behind_others : PySem.W.nsIn K mainGlobals "behind_others" = some (some (.ref f_behind_others)))
    (l_behind_others : K.lookup f_behind_others = some ⟨oc_behind_others, od_behind_others, .func (PySem.W.fnOf "behind_others" "behind_others" (defArgs s_behind_others) (defBody s_behind_others) (defScope s_behind_others) .none kV_behind_others dc_behind_others pm_behind_others an_behind_others cd_behind_others ct_behind_others), sl_behind_others⟩)
    (c_behind_others : PySem.W.codeIn K cd_behind_others "behind_others" = true)
    (k_behind_others : PySem.W.keepIn K (.ref f_behind_others) = true)
    (a_behind_fill : PySem.W.nsIn K mainGlobals "behind_fill" = some (some (.ref f_behind_fill)))
    (l_behind_fill : K.lookup f_behind_fill = some ⟨oc_behind_fill, od_behind_fill, .func (PySem.W.fnOf "behind_fill" "behind_fill" (defArgs s_behind_fill) (defBody s_behind_fill) (defScope s_behind_fill) .none kV_behind_fill dc_behind_fill pm_behind_fill an_behind_fill cd_behind_fill ct_behind_fill), sl_behind_fill⟩)
    (c_behind_fill : PySem.W.codeIn K cd_behind_fill "behind_fill" = true)
    (k_behind_fill : PySem.W.keepIn K (.ref f_behind_fill) = true)
    (a_columns_led : PySem.W.nsIn K mainGlobals "columns_led" = some (some (.ref f_columns_led)))
    (l_columns_led : K.lookup f_columns_led = some ⟨oc_columns_led, od_columns_led, .func (PySem.W.fnOf "columns_led" "columns_led" (defArgs s_columns_led) (defBody s_columns_led) (defScope s_columns_led) .none kV_columns_led dc_columns_led pm_columns_led an_columns_led cd_columns_led ct_columns_led), sl_columns_led⟩)
    (c_columns_led : PySem.W.codeIn K cd_columns_led "columns_led" = true)
    (k_columns_led : PySem.W.keepIn K (.ref f_columns_led) = true)
    (a_columns_of : PySem.W.nsIn K mainGlobals "columns_of" = some (some (.ref f_columns_of)))
    (l_columns_of : K.lookup f_columns_of = some ⟨oc_columns_of, od_columns_of, .func (PySem.W.fnOf "columns_of" "columns_of" (defArgs s_columns_of) (defBody s_columns_of) (defScope s_columns_of) .none kV_columns_of dc_columns_of pm_columns_of an_columns_of cd_columns_of ct_columns_of), sl_columns_of⟩)
    (c_columns_of : PySem.W.codeIn K cd_columns_of "columns_of" = true)
    (k_columns_of : PySem.W.keepIn K (.ref f_columns_of) = true)
    (a_order_of : PySem.W.nsIn K mainGlobals "order_of" = some (some (.ref f_order_of)))
    (l_order_of : K.lookup f_order_of = some ⟨oc_order_of, od_order_of, .func (PySem.W.fnOf "order_of" "order_of" (defArgs s_order_of) (defBody s_order_of) (defScope s_order_of) .none kV_order_of dc_order_of pm_order_of an_order_of cd_order_of ct_order_of), sl_order_of⟩)
    (c_order_of : PySem.W.codeIn K cd_order_of "order_of" = true)
    (k_order_of : PySem.W.keepIn K (.ref f_order_of) = true)
    (a_first_columns : PySem.W.nsIn K mainGlobals "first_columns" = some (some (.ref f_first_columns)))
    (l_first_columns : K.lookup f_first_columns = some ⟨oc_first_columns, od_first_columns, .func (PySem.W.fnOf "first_columns" "first_columns" (defArgs s_first_columns) (defBody s_first_columns) (defScope s_first_columns) .none kV_first_columns dc_first_columns pm_first_columns an_first_columns cd_first_columns ct_first_columns), sl_first_columns⟩)
    (c_first_columns : PySem.W.codeIn K cd_first_columns "first_columns" = true)
    (k_first_columns : PySem.W.keepIn K (.ref f_first_columns) = true)
    (a_order_behind : PySem.W.nsIn K mainGlobals "order_behind" = some (some (.ref f_order_behind)))
    (l_order_behind : K.lookup f_order_behind = some ⟨oc_order_behind, od_order_behind, .func (PySem.W.fnOf "order_behind" "order_behind" (defArgs s_order_behind) (defBody s_order_behind) (defScope s_order_behind) .none kV_order_behind dc_order_behind pm_order_behind an_order_behind cd_order_behind ct_order_behind), sl_order_behind⟩)
    (c_order_behind : PySem.W.codeIn K cd_order_behind "order_behind" = true)
    (k_order_behind : PySem.W.keepIn K (.ref f_order_behind) = true)
    (a_arranged : PySem.W.nsIn K mainGlobals "arranged" = some (some (.ref f_arranged)))
    (l_arranged : K.lookup f_arranged = some ⟨oc_arranged, od_arranged, .func (PySem.W.fnOf "arranged" "arranged" (defArgs s_arranged) (defBody s_arranged) (defScope s_arranged) .none kV_arranged dc_arranged pm_arranged an_arranged cd_arranged ct_arranged), sl_arranged⟩)
    (c_arranged : PySem.W.codeIn K cd_arranged "arranged" = true)
    (k_arranged : PySem.W.keepIn K (.ref f_arranged) = true)
    (a_Lbag : PySem.W.nsIn K mainGlobals "_law_bag" = some (some (.ref f_Lbag)))
    (l_Lbag : K.lookup f_Lbag = some ⟨oc_Lbag, od_Lbag, .func (PySem.W.fnOf "_law_bag" "_law_bag" (defArgs s_Lbag) (defBody s_Lbag) (defScope s_Lbag) .none kV_Lbag dc_Lbag pm_Lbag an_Lbag cd_Lbag ct_Lbag), sl_Lbag⟩)
    (c_Lbag : PySem.W.codeIn K cd_Lbag "_law_bag" = true)
    (k_Lbag : PySem.W.keepIn K (.ref f_Lbag) = true)
    (a_Ltake : PySem.W.nsIn K mainGlobals "_law_take" = some (some (.ref f_Ltake)))
    (l_Ltake : K.lookup f_Ltake = some ⟨oc_Ltake, od_Ltake, .func (PySem.W.fnOf "_law_take" "_law_take" (defArgs s_Ltake) (defBody s_Ltake) (defScope s_Ltake) .none kV_Ltake dc_Ltake pm_Ltake an_Ltake cd_Ltake ct_Ltake), sl_Ltake⟩)
    (c_Ltake : PySem.W.codeIn K cd_Ltake "_law_take" = true)
    (k_Ltake : PySem.W.keepIn K (.ref f_Ltake) = true)
    (a_Lone : PySem.W.nsIn K mainGlobals "_law_one" = some (some (.ref f_Lone)))
    (l_Lone : K.lookup f_Lone = some ⟨oc_Lone, od_Lone, .func (PySem.W.fnOf "_law_one" "_law_one" (defArgs s_Lone) (defBody s_Lone) (defScope s_Lone) .none kV_Lone dc_Lone pm_Lone an_Lone cd_Lone ct_Lone), sl_Lone⟩)
    (c_Lone : PySem.W.codeIn K cd_Lone "_law_one" = true)
    (k_Lone : PySem.W.keepIn K (.ref f_Lone) = true)
    (a_Lmixed : PySem.W.nsIn K mainGlobals "_law_mixed" = some (some (.ref f_Lmixed)))
    (l_Lmixed : K.lookup f_Lmixed = some ⟨oc_Lmixed, od_Lmixed, .func (PySem.W.fnOf "_law_mixed" "_law_mixed" (defArgs s_Lmixed) (defBody s_Lmixed) (defScope s_Lmixed) .none kV_Lmixed dc_Lmixed pm_Lmixed an_Lmixed cd_Lmixed ct_Lmixed), sl_Lmixed⟩)
    (c_Lmixed : PySem.W.codeIn K cd_Lmixed "_law_mixed" = true)
    (k_Lmixed : PySem.W.keepIn K (.ref f_Lmixed) = true)
    (a_Lalike : PySem.W.nsIn K mainGlobals "_law_alike" = some (some (.ref f_Lalike)))
    (l_Lalike : K.lookup f_Lalike = some ⟨oc_Lalike, od_Lalike, .func (PySem.W.fnOf "_law_alike" "_law_alike" (defArgs s_Lalike) (defBody s_Lalike) (defScope s_Lalike) .none kV_Lalike dc_Lalike pm_Lalike an_Lalike cd_Lalike ct_Lalike), sl_Lalike⟩)
    (c_Lalike : PySem.W.codeIn K cd_Lalike "_law_alike" = true)
    (k_Lalike : PySem.W.keepIn K (.ref f_Lalike) = true)
    (a_Lcall : PySem.W.nsIn K mainGlobals "_law_call" = some (some (.ref f_Lcall)))
    (l_Lcall : K.lookup f_Lcall = some ⟨oc_Lcall, od_Lcall, .func (PySem.W.fnOf "_law_call" "_law_call" (defArgs s_Lcall) (defBody s_Lcall) (defScope s_Lcall) .none kV_Lcall dc_Lcall pm_Lcall an_Lcall cd_Lcall ct_Lcall), sl_Lcall⟩)
    (c_Lcall : PySem.W.codeIn K cd_Lcall "_law_call" = true)
    (k_Lcall : PySem.W.keepIn K (.ref f_Lcall) = true)
    (a_Lopen : PySem.W.nsIn K mainGlobals "_law_open" = some (some (.ref f_Lopen)))
    (l_Lopen : K.lookup f_Lopen = some ⟨oc_Lopen, od_Lopen, .func (PySem.W.fnOf "_law_open" "_law_open" (defArgs s_Lopen) (defBody s_Lopen) (defScope s_Lopen) .none kV_Lopen dc_Lopen pm_Lopen an_Lopen cd_Lopen ct_Lopen), sl_Lopen⟩)
    (c_Lopen : PySem.W.codeIn K cd_Lopen "_law_open" = true)
    (k_Lopen : PySem.W.keepIn K (.ref f_Lopen) = true)
    (a_Lgoes : PySem.W.nsIn K mainGlobals "_law_goes" = some (some (.ref f_Lgoes)))
    (l_Lgoes : K.lookup f_Lgoes = some ⟨oc_Lgoes, od_Lgoes, .func (PySem.W.fnOf "_law_goes" "_law_goes" (defArgs s_Lgoes) (defBody s_Lgoes) (defScope s_Lgoes) .none kV_Lgoes dc_Lgoes pm_Lgoes an_Lgoes cd_Lgoes ct_Lgoes), sl_Lgoes⟩)
    (c_Lgoes : PySem.W.codeIn K cd_Lgoes "_law_goes" = true)
    (k_Lgoes : PySem.W.keepIn K (.ref f_Lgoes) = true)
    (a_Lundo : PySem.W.nsIn K mainGlobals "_law_undo" = some (some (.ref f_Lundo)))
    (l_Lundo : K.lookup f_Lundo = some ⟨oc_Lundo, od_Lundo, .func (PySem.W.fnOf "_law_undo" "_law_undo" (defArgs s_Lundo) (defBody s_Lundo) (defScope s_Lundo) .none kV_Lundo dc_Lundo pm_Lundo an_Lundo cd_Lundo ct_Lundo), sl_Lundo⟩)
    (c_Lundo : PySem.W.codeIn K cd_Lundo "_law_undo" = true)
    (k_Lundo : PySem.W.keepIn K (.ref f_Lundo) = true)
    (a_Lsmall : PySem.W.nsIn K mainGlobals "_law_small" = some (some (.ref f_Lsmall)))
    (l_Lsmall : K.lookup f_Lsmall = some ⟨oc_Lsmall, od_Lsmall, .func (PySem.W.fnOf "_law_small" "_law_small" (defArgs s_Lsmall) (defBody s_Lsmall) (defScope s_Lsmall) .none kV_Lsmall dc_Lsmall pm_Lsmall an_Lsmall cd_Lsmall ct_Lsmall), sl_Lsmall⟩)
    (c_Lsmall : PySem.W.codeIn K cd_Lsmall "_law_small" = true)
    (k_Lsmall : PySem.W.keepIn K (.ref f_Lsmall) = true)
    (a_Ldone : PySem.W.nsIn K mainGlobals "_law_done" = some (some (.ref f_Ldone)))
    (l_Ldone : K.lookup f_Ldone = some ⟨oc_Ldone, od_Ldone, .func (PySem.W.fnOf "_law_done" "_law_done" (defArgs s_Ldone) (defBody s_Ldone) (defScope s_Ldone) .none kV_Ldone dc_Ldone pm_Ldone an_Ldone cd_Ldone ct_Ldone), sl_Ldone⟩)
    (c_Ldone : PySem.W.codeIn K cd_Ldone "_law_done" = true)
    (k_Ldone : PySem.W.keepIn K (.ref f_Ldone) = true)
    (a_law : PySem.W.nsIn K mainGlobals "law" = some (some (.ref f_law)))
    (l_law : K.lookup f_law = some ⟨oc_law, od_law, .func (PySem.W.fnOf "law" "law" (defArgs s_law) (defBody s_law) (defScope s_law) .none kV_law dc_law pm_law an_law cd_law ct_law), sl_law⟩)
    (c_law : PySem.W.codeIn K cd_law "law" = true)
    (k_law : PySem.W.keepIn K (.ref f_law) = true)
    (e_Script_init : PySem.W.findIn K (.ref C_Script) "__init__" = some (some (.ref f_Script_init)))
    (i_Script_init : PySem.W.isFn K (.ref f_Script_init) = true)
    (l_Script_init : K.lookup f_Script_init = some ⟨oc_Script_init, od_Script_init, .func (PySem.W.fnOf "__init__" "Script.__init__" (defArgs s_Script_init) (defBody s_Script_init) (defScope s_Script_init) .none kV_Script_init dc_Script_init pm_Script_init an_Script_init cd_Script_init ct_Script_init), sl_Script_init⟩)
    (c_Script_init : PySem.W.codeIn K cd_Script_init "Script.__init__" = true)
    (k_Script_init : PySem.W.keepIn K (.ref f_Script_init) = true)
    (e_Script_len : PySem.W.findIn K (.ref C_Script) "__len__" = some (some (.ref f_Script_len)))
    (i_Script_len : PySem.W.isFn K (.ref f_Script_len) = true)
    (l_Script_len : K.lookup f_Script_len = some ⟨oc_Script_len, od_Script_len, .func (PySem.W.fnOf "__len__" "Script.__len__" (defArgs s_Script_len) (defBody s_Script_len) (defScope s_Script_len) .none kV_Script_len dc_Script_len pm_Script_len an_Script_len cd_Script_len ct_Script_len), sl_Script_len⟩)
    (c_Script_len : PySem.W.codeIn K cd_Script_len "Script.__len__" = true)
    (k_Script_len : PySem.W.keepIn K (.ref f_Script_len) = true)
    (e_Script_iter : PySem.W.findIn K (.ref C_Script) "__iter__" = some (some (.ref f_Script_iter)))
    (i_Script_iter : PySem.W.isFn K (.ref f_Script_iter) = true)
    (l_Script_iter : K.lookup f_Script_iter = some ⟨oc_Script_iter, od_Script_iter, .func (PySem.W.fnOf "__iter__" "Script.__iter__" (defArgs s_Script_iter) (defBody s_Script_iter) (defScope s_Script_iter) .none kV_Script_iter dc_Script_iter pm_Script_iter an_Script_iter cd_Script_iter ct_Script_iter), sl_Script_iter⟩)
    (c_Script_iter : PySem.W.codeIn K cd_Script_iter "Script.__iter__" = true)
    (k_Script_iter : PySem.W.keepIn K (.ref f_Script_iter) = true)
    (e_Script_files : PySem.W.findIn K (.ref C_Script) "files" = some (some (.ref p_Script_files)))
    (pg_Script_files : PySem.W.specialIn K (.ref p_Script_files) "__get__" = some (some (.builtin "property.__get__")))
    (pt_Script_files : PySem.W.takesIn K (.ref p_Script_files) = some true)
    (pr_Script_files : PySem.W.recIn K p_Script_files "property" = some (.ref f_Script_files :: r_Script_files))
    (l_Script_files : K.lookup f_Script_files = some ⟨oc_Script_files, od_Script_files, .func (PySem.W.fnOf "files" "Script.files" (defArgs s_Script_files) (defBody s_Script_files) (defScope s_Script_files) .none kV_Script_files dc_Script_files pm_Script_files an_Script_files cd_Script_files ct_Script_files), sl_Script_files⟩)
    (c_Script_files : PySem.W.codeIn K cd_Script_files "Script.files" = true)
    (k_Script_files : PySem.W.keepIn K (.ref f_Script_files) = true)
    (e_Script_calls : PySem.W.findIn K (.ref C_Script) "calls" = some (some (.ref f_Script_calls)))
    (i_Script_calls : PySem.W.isFn K (.ref f_Script_calls) = true)
    (l_Script_calls : K.lookup f_Script_calls = some ⟨oc_Script_calls, od_Script_calls, .func (PySem.W.fnOf "calls" "Script.calls" (defArgs s_Script_calls) (defBody s_Script_calls) (defScope s_Script_calls) .none kV_Script_calls dc_Script_calls pm_Script_calls an_Script_calls cd_Script_calls ct_Script_calls), sl_Script_calls⟩)
    (c_Script_calls : PySem.W.codeIn K cd_Script_calls "Script.calls" = true)
    (k_Script_calls : PySem.W.keepIn K (.ref f_Script_calls) = true)
    (a_PARTS : PySem.W.nsIn K mainGlobals "PARTS" = some (some (.ref q_PARTS)))
    (l_PARTS : K.lookup q_PARTS = some ⟨.type "dict", none, .dict qe_PARTS qn_PARTS, #[]⟩)
    (v_PARTS_all : PySem.W.nsIn K q_PARTS "all" = some (some (.str "k" t_PARTS_all)))
    (v_PARTS_up : PySem.W.nsIn K q_PARTS "up" = some (some (.str "fk" t_PARTS_up)))
    (v_PARTS_swap : PySem.W.nsIn K q_PARTS "swap" = some (some (.str "ff" t_PARTS_swap)))
    (v_PARTS_wheel : PySem.W.nsIn K q_PARTS "wheel" = some (some (.str "ffk" t_PARTS_wheel)))
    (v_PARTS_about : PySem.W.nsIn K q_PARTS "about" = some (some (.str "" t_PARTS_about)))
    (v_PARTS_front : PySem.W.nsIn K q_PARTS "front" = some (some (.str "ff" t_PARTS_front)))
    (v_PARTS_halve : PySem.W.nsIn K q_PARTS "halve" = some (some (.str "" t_PARTS_halve)))
    (v_PARTS_pair : PySem.W.nsIn K q_PARTS "pair" = some (some (.str "" t_PARTS_pair)))
    (v_PARTS_others : PySem.W.nsIn K q_PARTS "others" = some (some (.str "" t_PARTS_others)))
    (v_PARTS_fill : PySem.W.nsIn K q_PARTS "fill" = some (some (.str "" t_PARTS_fill)))
    (li_PARTS : PySem.W.KeysLit w.params qe_PARTS.toList)
    (lo_PARTS : (q_PARTS == sysModules) = false)
    (a_UNDOING : PySem.W.nsIn K mainGlobals "UNDOING" = some (some (.ref q_UNDOING)))
    (l_UNDOING : K.lookup q_UNDOING = some ⟨.type "dict", none, .dict qe_UNDOING qn_UNDOING, #[]⟩)
    (v_UNDOING_halve : PySem.W.nsIn K q_UNDOING "halve" = some (some (.str "pair" t_UNDOING_halve)))
    (v_UNDOING_pair : PySem.W.nsIn K q_UNDOING "pair" = some (some (.str "halve" t_UNDOING_pair)))
    (v_UNDOING_others : PySem.W.nsIn K q_UNDOING "others" = some (some (.str "fill" t_UNDOING_others)))
    (v_UNDOING_fill : PySem.W.nsIn K q_UNDOING "fill" = some (some (.str "others" t_UNDOING_fill)))
    (o_UNDOING_all : PySem.W.nsIn K q_UNDOING "all" = some none)
    (o_UNDOING_up : PySem.W.nsIn K q_UNDOING "up" = some none)
    (o_UNDOING_swap : PySem.W.nsIn K q_UNDOING "swap" = some none)
    (o_UNDOING_wheel : PySem.W.nsIn K q_UNDOING "wheel" = some none)
    (o_UNDOING_about : PySem.W.nsIn K q_UNDOING "about" = some none)
    (o_UNDOING_front : PySem.W.nsIn K q_UNDOING "front" = some none)
    (li_UNDOING : PySem.W.KeysLit w.params qe_UNDOING.toList)
    (lo_UNDOING : (q_UNDOING == sysModules) = false)
    (a_ACTIONS : PySem.W.nsIn K mainGlobals "ACTIONS" = some (some (.ref q_ACTIONS)))
    (l_ACTIONS : K.lookup q_ACTIONS = some ⟨.type "dict", none, .dict qe_ACTIONS qn_ACTIONS, #[]⟩)
    (v_ACTIONS_all : PySem.W.nsIn K q_ACTIONS "all" = some (some (.ref f_behind_all)))
    (v_ACTIONS_up : PySem.W.nsIn K q_ACTIONS "up" = some (some (.ref f_behind_up)))
    (v_ACTIONS_swap : PySem.W.nsIn K q_ACTIONS "swap" = some (some (.ref f_behind_swap)))
    (v_ACTIONS_wheel : PySem.W.nsIn K q_ACTIONS "wheel" = some (some (.ref f_behind_wheel)))
    (v_ACTIONS_about : PySem.W.nsIn K q_ACTIONS "about" = some (some (.ref f_behind_about)))
    (v_ACTIONS_front : PySem.W.nsIn K q_ACTIONS "front" = some (some (.ref f_behind_front)))
    (v_ACTIONS_halve : PySem.W.nsIn K q_ACTIONS "halve" = some (some (.ref f_behind_halve)))
    (v_ACTIONS_pair : PySem.W.nsIn K q_ACTIONS "pair" = some (some (.ref f_behind_pair)))
    (v_ACTIONS_others : PySem.W.nsIn K q_ACTIONS "others" = some (some (.ref f_behind_others)))
    (v_ACTIONS_fill : PySem.W.nsIn K q_ACTIONS "fill" = some (some (.ref f_behind_fill)))
    (li_ACTIONS : PySem.W.KeysLit w.params qe_ACTIONS.toList)
    (lo_ACTIONS : (q_ACTIONS == sysModules) = false)
    (z_len : PySem.W.nsIn K mainGlobals "len" = some none)
    (z_abs : PySem.W.nsIn K mainGlobals "abs" = some none)
    (z_int : PySem.W.nsIn K mainGlobals "int" = some none)
    (z_sorted : PySem.W.nsIn K mainGlobals "sorted" = some none)
    (z_list : PySem.W.nsIn K mainGlobals "list" = some none)
    (z_tuple : PySem.W.nsIn K mainGlobals "tuple" = some none)
    (z_range : PySem.W.nsIn K mainGlobals "range" = some none)
    (z_zip : PySem.W.nsIn K mainGlobals "zip" = some none)
    (z_all : PySem.W.nsIn K mainGlobals "all" = some none)
    (z_set : PySem.W.nsIn K mainGlobals "set" = some none)
    (z_isinstance : PySem.W.nsIn K mainGlobals "isinstance" = some none)
    (z_str : PySem.W.nsIn K mainGlobals "str" = some none)
    (z_bool : PySem.W.nsIn K mainGlobals "bool" = some none)
    (z_repr : PySem.W.nsIn K mainGlobals "repr" = some none)
    (z_reversed : PySem.W.nsIn K mainGlobals "reversed" = some none)
    (z_iter : PySem.W.nsIn K mainGlobals "iter" = some none)
    (z_ValueError : PySem.W.nsIn K mainGlobals "ValueError" = some none) :
    ∃ fd : FuncData, (∀ (s : Shared) (v : Value), BindsTo s fd ⟨[v], []⟩ [("_law_script", v)]) ∧ ∀ base : Heap, K.In base → base.Ns mainGlobals mg → Ow.FnG l.prog w K mg base CX0 8 fa fd ["_law_script"] (sp_law K) := by
  have e := hfa.symm.trans (PySem.W.mg_of X G a_law)
  cases e
  have T : Txt K w mg { c_Script := C_Script, p_Script_files := p_Script_files, a_is_integer := f_is_integer, fd_is_integer := PySem.W.fnOf "is_integer" "is_integer" (defArgs s_is_integer) (defBody s_is_integer) (defScope s_is_integer) .none kV_is_integer dc_is_integer pm_is_integer an_is_integer cd_is_integer ct_is_integer, a_is_files := f_is_files, fd_is_files := PySem.W.fnOf "is_files" "is_files" (defArgs s_is_files) (defBody s_is_files) (defScope s_is_files) .none kV_is_files dc_is_files pm_is_files an_is_files cd_is_files ct_is_files, a_is_index := f_is_index, fd_is_index := PySem.W.fnOf "is_index" "is_index" (defArgs s_is_index) (defBody s_is_index) (defScope s_is_index) .none kV_is_index dc_is_index pm_is_index an_is_index cd_is_index ct_is_index, a_is_part := f_is_part, fd_is_part := PySem.W.fnOf "is_part" "is_part" (defArgs s_is_part) (defBody s_is_part) (defScope s_is_part) .none kV_is_part dc_is_part pm_is_part an_is_part cd_is_part ct_is_part, a_is_call := f_is_call, fd_is_call := PySem.W.fnOf "is_call" "is_call" (defArgs s_is_call) (defBody s_is_call) (defScope s_is_call) .none kV_is_call dc_is_call pm_is_call an_is_call cd_is_call ct_is_call, a_turned := f_turned, fd_turned := PySem.W.fnOf "turned" "turned" (defArgs s_turned) (defBody s_turned) (defScope s_turned) .none kV_turned dc_turned pm_turned an_turned cd_turned ct_turned, a_files_of := f_files_of, fd_files_of := PySem.W.fnOf "files_of" "files_of" (defArgs s_files_of) (defBody s_files_of) (defScope s_files_of) .none kV_files_of dc_files_of pm_files_of an_files_of cd_files_of ct_files_of, a_behind_all := f_behind_all, fd_behind_all := PySem.W.fnOf "behind_all" "behind_all" (defArgs s_behind_all) (defBody s_behind_all) (defScope s_behind_all) .none kV_behind_all dc_behind_all pm_behind_all an_behind_all cd_behind_all ct_behind_all, a_behind_up := f_behind_up, fd_behind_up := PySem.W.fnOf "behind_up" "behind_up" (defArgs s_behind_up) (defBody s_behind_up) (defScope s_behind_up) .none kV_behind_up dc_behind_up pm_behind_up an_behind_up cd_behind_up ct_behind_up, a_behind_swap := f_behind_swap, fd_behind_swap := PySem.W.fnOf "behind_swap" "behind_swap" (defArgs s_behind_swap) (defBody s_behind_swap) (defScope s_behind_swap) .none kV_behind_swap dc_behind_swap pm_behind_swap an_behind_swap cd_behind_swap ct_behind_swap, a_behind_wheel := f_behind_wheel, fd_behind_wheel := PySem.W.fnOf "behind_wheel" "behind_wheel" (defArgs s_behind_wheel) (defBody s_behind_wheel) (defScope s_behind_wheel) .none kV_behind_wheel dc_behind_wheel pm_behind_wheel an_behind_wheel cd_behind_wheel ct_behind_wheel, a_behind_about := f_behind_about, fd_behind_about := PySem.W.fnOf "behind_about" "behind_about" (defArgs s_behind_about) (defBody s_behind_about) (defScope s_behind_about) .none kV_behind_about dc_behind_about pm_behind_about an_behind_about cd_behind_about ct_behind_about, a_behind_front := f_behind_front, fd_behind_front := PySem.W.fnOf "behind_front" "behind_front" (defArgs s_behind_front) (defBody s_behind_front) (defScope s_behind_front) .none kV_behind_front dc_behind_front pm_behind_front an_behind_front cd_behind_front ct_behind_front, a_behind_halve := f_behind_halve, fd_behind_halve := PySem.W.fnOf "behind_halve" "behind_halve" (defArgs s_behind_halve) (defBody s_behind_halve) (defScope s_behind_halve) .none kV_behind_halve dc_behind_halve pm_behind_halve an_behind_halve cd_behind_halve ct_behind_halve, a_behind_pair := f_behind_pair, fd_behind_pair := PySem.W.fnOf "behind_pair" "behind_pair" (defArgs s_behind_pair) (defBody s_behind_pair) (defScope s_behind_pair) .none kV_behind_pair dc_behind_pair pm_behind_pair an_behind_pair cd_behind_pair ct_behind_pair, a_behind_others := f_behind_others, fd_behind_others := PySem.W.fnOf "behind_others" "behind_others" (defArgs s_behind_others) (defBody s_behind_others) (defScope s_behind_others) .none kV_behind_others dc_behind_others pm_behind_others an_behind_others cd_behind_others ct_behind_others, a_behind_fill := f_behind_fill, fd_behind_fill := PySem.W.fnOf "behind_fill" "behind_fill" (defArgs s_behind_fill) (defBody s_behind_fill) (defScope s_behind_fill) .none kV_behind_fill dc_behind_fill pm_behind_fill an_behind_fill cd_behind_fill ct_behind_fill, a_columns_led := f_columns_led, fd_columns_led := PySem.W.fnOf "columns_led" "columns_led" (defArgs s_columns_led) (defBody s_columns_led) (defScope s_columns_led) .none kV_columns_led dc_columns_led pm_columns_led an_columns_led cd_columns_led ct_columns_led, a_columns_of := f_columns_of, fd_columns_of := PySem.W.fnOf "columns_of" "columns_of" (defArgs s_columns_of) (defBody s_columns_of) (defScope s_columns_of) .none kV_columns_of dc_columns_of pm_columns_of an_columns_of cd_columns_of ct_columns_of, a_order_of := f_order_of, fd_order_of := PySem.W.fnOf "order_of" "order_of" (defArgs s_order_of) (defBody s_order_of) (defScope s_order_of) .none kV_order_of dc_order_of pm_order_of an_order_of cd_order_of ct_order_of, a_first_columns := f_first_columns, fd_first_columns := PySem.W.fnOf "first_columns" "first_columns" (defArgs s_first_columns) (defBody s_first_columns) (defScope s_first_columns) .none kV_first_columns dc_first_columns pm_first_columns an_first_columns cd_first_columns ct_first_columns, a_order_behind := f_order_behind, fd_order_behind := PySem.W.fnOf "order_behind" "order_behind" (defArgs s_order_behind) (defBody s_order_behind) (defScope s_order_behind) .none kV_order_behind dc_order_behind pm_order_behind an_order_behind cd_order_behind ct_order_behind, a_arranged := f_arranged, fd_arranged := PySem.W.fnOf "arranged" "arranged" (defArgs s_arranged) (defBody s_arranged) (defScope s_arranged) .none kV_arranged dc_arranged pm_arranged an_arranged cd_arranged ct_arranged, a_Lbag := f_Lbag, fd_Lbag := PySem.W.fnOf "_law_bag" "_law_bag" (defArgs s_Lbag) (defBody s_Lbag) (defScope s_Lbag) .none kV_Lbag dc_Lbag pm_Lbag an_Lbag cd_Lbag ct_Lbag, a_Ltake := f_Ltake, fd_Ltake := PySem.W.fnOf "_law_take" "_law_take" (defArgs s_Ltake) (defBody s_Ltake) (defScope s_Ltake) .none kV_Ltake dc_Ltake pm_Ltake an_Ltake cd_Ltake ct_Ltake, a_Lone := f_Lone, fd_Lone := PySem.W.fnOf "_law_one" "_law_one" (defArgs s_Lone) (defBody s_Lone) (defScope s_Lone) .none kV_Lone dc_Lone pm_Lone an_Lone cd_Lone ct_Lone, a_Lmixed := f_Lmixed, fd_Lmixed := PySem.W.fnOf "_law_mixed" "_law_mixed" (defArgs s_Lmixed) (defBody s_Lmixed) (defScope s_Lmixed) .none kV_Lmixed dc_Lmixed pm_Lmixed an_Lmixed cd_Lmixed ct_Lmixed, a_Lalike := f_Lalike, fd_Lalike := PySem.W.fnOf "_law_alike" "_law_alike" (defArgs s_Lalike) (defBody s_Lalike) (defScope s_Lalike) .none kV_Lalike dc_Lalike pm_Lalike an_Lalike cd_Lalike ct_Lalike, a_Lcall := f_Lcall, fd_Lcall := PySem.W.fnOf "_law_call" "_law_call" (defArgs s_Lcall) (defBody s_Lcall) (defScope s_Lcall) .none kV_Lcall dc_Lcall pm_Lcall an_Lcall cd_Lcall ct_Lcall, a_Lopen := f_Lopen, fd_Lopen := PySem.W.fnOf "_law_open" "_law_open" (defArgs s_Lopen) (defBody s_Lopen) (defScope s_Lopen) .none kV_Lopen dc_Lopen pm_Lopen an_Lopen cd_Lopen ct_Lopen, a_Lgoes := f_Lgoes, fd_Lgoes := PySem.W.fnOf "_law_goes" "_law_goes" (defArgs s_Lgoes) (defBody s_Lgoes) (defScope s_Lgoes) .none kV_Lgoes dc_Lgoes pm_Lgoes an_Lgoes cd_Lgoes ct_Lgoes, a_Lundo := f_Lundo, fd_Lundo := PySem.W.fnOf "_law_undo" "_law_undo" (defArgs s_Lundo) (defBody s_Lundo) (defScope s_Lundo) .none kV_Lundo dc_Lundo pm_Lundo an_Lundo cd_Lundo ct_Lundo, a_Lsmall := f_Lsmall, fd_Lsmall := PySem.W.fnOf "_law_small" "_law_small" (defArgs s_Lsmall) (defBody s_Lsmall) (defScope s_Lsmall) .none kV_Lsmall dc_Lsmall pm_Lsmall an_Lsmall cd_Lsmall ct_Lsmall, a_Ldone := f_Ldone, fd_Ldone := PySem.W.fnOf "_law_done" "_law_done" (defArgs s_Ldone) (defBody s_Ldone) (defScope s_Ldone) .none kV_Ldone dc_Ldone pm_Ldone an_Ldone cd_Ldone ct_Ldone, a_law := fa, fd_law := PySem.W.fnOf "law" "law" (defArgs s_law) (defBody s_law) (defScope s_law) .none kV_law dc_law pm_law an_law cd_law ct_law, a_Script_init := f_Script_init, fd_Script_init := PySem.W.fnOf "__init__" "Script.__init__" (defArgs s_Script_init) (defBody s_Script_init) (defScope s_Script_init) .none kV_Script_init dc_Script_init pm_Script_init an_Script_init cd_Script_init ct_Script_init, a_Script_len := f_Script_len, fd_Script_len := PySem.W.fnOf "__len__" "Script.__len__" (defArgs s_Script_len) (defBody s_Script_len) (defScope s_Script_len) .none kV_Script_len dc_Script_len pm_Script_len an_Script_len cd_Script_len ct_Script_len, a_Script_iter := f_Script_iter, fd_Script_iter := PySem.W.fnOf "__iter__" "Script.__iter__" (defArgs s_Script_iter) (defBody s_Script_iter) (defScope s_Script_iter) .none kV_Script_iter dc_Script_iter pm_Script_iter an_Script_iter cd_Script_iter ct_Script_iter, a_Script_files := f_Script_files, fd_Script_files := PySem.W.fnOf "files" "Script.files" (defArgs s_Script_files) (defBody s_Script_files) (defScope s_Script_files) .none kV_Script_files dc_Script_files pm_Script_files an_Script_files cd_Script_files ct_Script_files, a_Script_calls := f_Script_calls, fd_Script_calls := PySem.W.fnOf "calls" "Script.calls" (defArgs s_Script_calls) (defBody s_Script_calls) (defScope s_Script_calls) .none kV_Script_calls dc_Script_calls pm_Script_calls an_Script_calls cd_Script_calls ct_Script_calls, d_PARTS := q_PARTS, es_PARTS := qe_PARTS, n_PARTS := qn_PARTS, d_UNDOING := q_UNDOING, es_UNDOING := qe_UNDOING, n_UNDOING := qn_UNDOING, d_ACTIONS := q_ACTIONS, es_ACTIONS := qe_ACTIONS, n_ACTIONS := qn_ACTIONS } := { m_Script := PySem.W.mg_of X G g_Script, t_Script := ⟨⟨pg_Script, hd_Script, po_Script, sa_Script⟩, ha_Script, hgt, htk, hm_Script, kI_Script, kB_Script, kT_Script, kL_Script, kD_Script, kS_Script⟩, X_Script := ⟨⟨⟨pg_Script, hd_Script, po_Script, sa_Script⟩, ha_Script, hgt, htk, hm_Script, kI_Script, kB_Script, kT_Script, kL_Script, kD_Script, kS_Script⟩, kO_Script, bI_Script, bL_Script, bT_Script, ne_Script, nI_Script, nL_Script, nT_Script⟩, M_Script := ⟨mk_Script, e_Script_init, i_Script_init, kc_Script⟩, A_Script_width := A_Script_width, A_Script_held := A_Script_held, Q_Script_len := ⟨e_Script_len, i_Script_len, k_Script_len⟩, Q_Script_iter := ⟨e_Script_iter, i_Script_iter, k_Script_iter⟩, Q_Script_calls := ⟨e_Script_calls, i_Script_calls, k_Script_calls⟩, P_Script_files := ⟨e_Script_files, pg_Script_files, pt_Script_files, _, pr_Script_files⟩, m_is_integer := PySem.W.mg_of X G a_is_integer, F_is_integer := fun_mk (st := s_is_integer) l_is_integer c_is_integer k_is_integer, k_is_integer := k_is_integer, b_is_integer := (fun_mk (st := s_is_integer) l_is_integer c_is_integer k_is_integer).binds (ps := ["thing"]) fun _ _ _ _ _ _ us hl => match us, hl with | [_], _ => rfl, m_is_files := PySem.W.mg_of X G a_is_files, F_is_files := fun_mk (st := s_is_files) l_is_files c_is_files k_is_files, k_is_files := k_is_files, b_is_files := (fun_mk (st := s_is_files) l_is_files c_is_files k_is_files).binds (ps := ["thing"]) fun _ _ _ _ _ _ us hl => match us, hl with | [_], _ => rfl, m_is_index := PySem.W.mg_of X G a_is_index, F_is_index := fun_mk (st := s_is_index) l_is_index c_is_index k_is_index, k_is_index := k_is_index, b_is_index := (fun_mk (st := s_is_index) l_is_index c_is_index k_is_index).binds (ps := ["thing", "many"]) fun _ _ _ _ _ _ us hl => match us, hl with | [_, _], _ => rfl, m_is_part := PySem.W.mg_of X G a_is_part, F_is_part := fun_mk (st := s_is_part) l_is_part c_is_part k_is_part, k_is_part := k_is_part, b_is_part := (fun_mk (st := s_is_part) l_is_part c_is_part k_is_part).binds (ps := ["files", "part", "item"]) fun _ _ _ _ _ _ us hl => match us, hl with | [_, _, _], _ => rfl, m_is_call := PySem.W.mg_of X G a_is_call, F_is_call := fun_mk (st := s_is_call) l_is_call c_is_call k_is_call, k_is_call := k_is_call, b_is_call := (fun_mk (st := s_is_call) l_is_call c_is_call k_is_call).binds (ps := ["files", "thing"]) fun _ _ _ _ _ _ us hl => match us, hl with | [_, _], _ => rfl, m_turned := PySem.W.mg_of X G a_turned, F_turned := fun_mk (st := s_turned) l_turned c_turned k_turned, k_turned := k_turned, b_turned := (fun_mk (st := s_turned) l_turned c_turned k_turned).binds (ps := ["call"]) fun _ _ _ _ _ _ us hl => match us, hl with | [_], _ => rfl, m_files_of := PySem.W.mg_of X G a_files_of, F_files_of := fun_mk (st := s_files_of) l_files_of c_files_of k_files_of, k_files_of := k_files_of, b_files_of := (fun_mk (st := s_files_of) l_files_of c_files_of k_files_of).binds (ps := ["call"]) fun _ _ _ _ _ _ us hl => match us, hl with | [_], _ => rfl, m_behind_all := PySem.W.mg_of X G a_behind_all, F_behind_all := fun_mk (st := s_behind_all) l_behind_all c_behind_all k_behind_all, k_behind_all := k_behind_all, b_behind_all := (fun_mk (st := s_behind_all) l_behind_all c_behind_all k_behind_all).binds (ps := ["columns", "call"]) fun _ _ _ _ _ _ us hl => match us, hl with | [_, _], _ => rfl, m_behind_up := PySem.W.mg_of X G a_behind_up, F_behind_up := fun_mk (st := s_behind_up) l_behind_up c_behind_up k_behind_up, k_behind_up := k_behind_up, b_behind_up := (fun_mk (st := s_behind_up) l_behind_up c_behind_up k_behind_up).binds (ps := ["columns", "call"]) fun _ _ _ _ _ _ us hl => match us, hl with | [_, _], _ => rfl, m_behind_swap := PySem.W.mg_of X G a_behind_swap, F_behind_swap := fun_mk (st := s_behind_swap) l_behind_swap c_behind_swap k_behind_swap, k_behind_swap := k_behind_swap, b_behind_swap := (fun_mk (st := s_behind_swap) l_behind_swap c_behind_swap k_behind_swap).binds (ps := ["columns", "call"]) fun _ _ _ _ _ _ us hl => match us, hl with | [_, _], _ => rfl, m_behind_wheel := PySem.W.mg_of X G a_behind_wheel, F_behind_wheel := fun_mk (st := s_behind_wheel) l_behind_wheel c_behind_wheel k_behind_wheel, k_behind_wheel := k_behind_wheel, b_behind_wheel := (fun_mk (st := s_behind_wheel) l_behind_wheel c_behind_wheel k_behind_wheel).binds (ps := ["columns", "call"]) fun _ _ _ _ _ _ us hl => match us, hl with | [_, _], _ => rfl, m_behind_about := PySem.W.mg_of X G a_behind_about, F_behind_about := fun_mk (st := s_behind_about) l_behind_about c_behind_about k_behind_about, k_behind_about := k_behind_about, b_behind_about := (fun_mk (st := s_behind_about) l_behind_about c_behind_about k_behind_about).binds (ps := ["columns", "call"]) fun _ _ _ _ _ _ us hl => match us, hl with | [_, _], _ => rfl, m_behind_front := PySem.W.mg_of X G a_behind_front, F_behind_front := fun_mk (st := s_behind_front) l_behind_front c_behind_front k_behind_front, k_behind_front := k_behind_front, b_behind_front := (fun_mk (st := s_behind_front) l_behind_front c_behind_front k_behind_front).binds (ps := ["columns", "call"]) fun _ _ _ _ _ _ us hl => match us, hl with | [_, _], _ => rfl, m_behind_halve := PySem.W.mg_of X G a_behind_halve, F_behind_halve := fun_mk (st := s_behind_halve) l_behind_halve c_behind_halve k_behind_halve, k_behind_halve := k_behind_halve, b_behind_halve := (fun_mk (st := s_behind_halve) l_behind_halve c_behind_halve k_behind_halve).binds (ps := ["columns", "call"]) fun _ _ _ _ _ _ us hl => match us, hl with | [_, _], _ => rfl, m_behind_pair := PySem.W.mg_of X G a_behind_pair, F_behind_pair := fun_mk (st := s_behind_pair) l_behind_pair c_behind_pair k_behind_pair, k_behind_pair := k_behind_pair, b_behind_pair := (fun_mk (st := s_behind_pair) l_behind_pair c_behind_pair k_behind_pair).binds (ps := ["columns", "call"]) fun _ _ _ _ _ _ us hl => match us, hl with | [_, _], _ => rfl, m_behind_others := PySem.W.mg_of X G a_behind_others, F_behind_others := fun_mk (st := s_behind_others) l_behind_others c_behind_others k_behind_others, k_behind_others := k_behind_others, b_behind_others := (fun_mk (st := s_behind_others) l_behind_others c_behind_others k_behind_others).binds (ps := ["columns", "call"]) fun _ _ _ _ _ _ us hl => match us, hl with | [_, _], _ => rfl, m_behind_fill := PySem.W.mg_of X G a_behind_fill, F_behind_fill := fun_mk (st := s_behind_fill) l_behind_fill c_behind_fill k_behind_fill, k_behind_fill := k_behind_fill, b_behind_fill := (fun_mk (st := s_behind_fill) l_behind_fill c_behind_fill k_behind_fill).binds (ps := ["columns", "call"]) fun _ _ _ _ _ _ us hl => match us, hl with | [_, _], _ => rfl, m_columns_led := PySem.W.mg_of X G a_columns_led, F_columns_led := fun_mk (st := s_columns_led) l_columns_led c_columns_led k_columns_led, k_columns_led := k_columns_led, b_columns_led := (fun_mk (st := s_columns_led) l_columns_led c_columns_led k_columns_led).binds (ps := ["columns", "calls"]) fun _ _ _ _ _ _ us hl => match us, hl with | [_, _], _ => rfl, m_columns_of := PySem.W.mg_of X G a_columns_of, F_columns_of := fun_mk (st := s_columns_of) l_columns_of c_columns_of k_columns_of, k_columns_of := k_columns_of, b_columns_of := (fun_mk (st := s_columns_of) l_columns_of c_columns_of k_columns_of).binds (ps := ["order", "files"]) fun _ _ _ _ _ _ us hl => match us, hl with | [_, _], _ => rfl, m_order_of := PySem.W.mg_of X G a_order_of, F_order_of := fun_mk (st := s_order_of) l_order_of c_order_of k_order_of, k_order_of := k_order_of, b_order_of := (fun_mk (st := s_order_of) l_order_of c_order_of k_order_of).binds (ps := ["columns"]) fun _ _ _ _ _ _ us hl => match us, hl with | [_], _ => rfl, m_first_columns := PySem.W.mg_of X G a_first_columns, F_first_columns := fun_mk (st := s_first_columns) l_first_columns c_first_columns k_first_columns, k_first_columns := k_first_columns, b_first_columns := (fun_mk (st := s_first_columns) l_first_columns c_first_columns k_first_columns).binds (ps := ["files", "rows"]) fun _ _ _ _ _ _ us hl => match us, hl with | [_, _], _ => rfl, m_order_behind := PySem.W.mg_of X G a_order_behind, F_order_behind := fun_mk (st := s_order_behind) l_order_behind c_order_behind k_order_behind, k_order_behind := k_order_behind, b_order_behind := (fun_mk (st := s_order_behind) l_order_behind c_order_behind k_order_behind).binds (ps := ["script", "rows"]) fun _ _ _ _ _ _ us hl => match us, hl with | [_, _], _ => rfl, m_arranged := PySem.W.mg_of X G a_arranged, F_arranged := fun_mk (st := s_arranged) l_arranged c_arranged k_arranged, k_arranged := k_arranged, b_arranged := (fun_mk (st := s_arranged) l_arranged c_arranged k_arranged).binds (ps := ["files", "rows", "calls"]) fun _ _ _ _ _ _ us hl => match us, hl with | [_, _, _], _ => rfl, m_Lbag := PySem.W.mg_of X G a_Lbag, F_Lbag := fun_mk (st := s_Lbag) l_Lbag c_Lbag k_Lbag, k_Lbag := k_Lbag, b_Lbag := (fun_mk (st := s_Lbag) l_Lbag c_Lbag k_Lbag).binds (ps := ["_law_script"]) fun _ _ _ _ _ _ us hl => match us, hl with | [_], _ => rfl, m_Ltake := PySem.W.mg_of X G a_Ltake, F_Ltake := fun_mk (st := s_Ltake) l_Ltake c_Ltake k_Ltake, k_Ltake := k_Ltake, b_Ltake := (fun_mk (st := s_Ltake) l_Ltake c_Ltake k_Ltake).binds (ps := ["_law_bag_here", "_law_upto"]) fun _ _ _ _ _ _ us hl => match us, hl with | [_, _], _ => rfl, m_Lone := PySem.W.mg_of X G a_Lone, F_Lone := fun_mk (st := s_Lone) l_Lone c_Lone k_Lone, k_Lone := k_Lone, b_Lone := (fun_mk (st := s_Lone) l_Lone c_Lone k_Lone).binds (ps := ["_law_bag_here", "_law_some"]) fun _ _ _ _ _ _ us hl => match us, hl with | [_, _], _ => rfl, m_Lmixed := PySem.W.mg_of X G a_Lmixed, F_Lmixed := fun_mk (st := s_Lmixed) l_Lmixed c_Lmixed k_Lmixed, k_Lmixed := k_Lmixed, b_Lmixed := (fun_mk (st := s_Lmixed) l_Lmixed c_Lmixed k_Lmixed).binds (ps := ["_law_bag_here", "_law_things"]) fun _ _ _ _ _ _ us hl => match us, hl with | [_, _], _ => rfl, m_Lalike := PySem.W.mg_of X G a_Lalike, F_Lalike := fun_mk (st := s_Lalike) l_Lalike c_Lalike k_Lalike, k_Lalike := k_Lalike, b_Lalike := (fun_mk (st := s_Lalike) l_Lalike c_Lalike k_Lalike).binds (ps := ["_law_found", "_law_due"]) fun _ _ _ _ _ _ us hl => match us, hl with | [_, _], _ => rfl, m_Lcall := PySem.W.mg_of X G a_Lcall, F_Lcall := fun_mk (st := s_Lcall) l_Lcall c_Lcall k_Lcall, k_Lcall := k_Lcall, b_Lcall := (fun_mk (st := s_Lcall) l_Lcall c_Lcall k_Lcall).binds (ps := ["_law_bag_here", "_law_files", "_law_kinds", "_law_most"]) fun _ _ _ _ _ _ us hl => match us, hl with | [_, _, _, _], _ => rfl, m_Lopen := PySem.W.mg_of X G a_Lopen, F_Lopen := fun_mk (st := s_Lopen) l_Lopen c_Lopen k_Lopen, k_Lopen := k_Lopen, b_Lopen := (fun_mk (st := s_Lopen) l_Lopen c_Lopen k_Lopen).binds (ps := ["_law_word", "_law_files", "_law_rows", "_law_place"]) fun _ _ _ _ _ _ us hl => match us, hl with | [_, _, _, _], _ => rfl, m_Lgoes := PySem.W.mg_of X G a_Lgoes, F_Lgoes := fun_mk (st := s_Lgoes) l_Lgoes c_Lgoes k_Lgoes, k_Lgoes := k_Lgoes, b_Lgoes := (fun_mk (st := s_Lgoes) l_Lgoes c_Lgoes k_Lgoes).binds (ps := ["_law_call_here", "_law_files", "_law_rows", "_law_place"]) fun _ _ _ _ _ _ us hl => match us, hl with | [_, _, _, _], _ => rfl, m_Lundo := PySem.W.mg_of X G a_Lundo, F_Lundo := fun_mk (st := s_Lundo) l_Lundo c_Lundo k_Lundo, k_Lundo := k_Lundo, b_Lundo := (fun_mk (st := s_Lundo) l_Lundo c_Lundo k_Lundo).binds (ps := ["_law_calls"]) fun _ _ _ _ _ _ us hl => match us, hl with | [_], _ => rfl, m_Lsmall := PySem.W.mg_of X G a_Lsmall, F_Lsmall := fun_mk (st := s_Lsmall) l_Lsmall c_Lsmall k_Lsmall, k_Lsmall := k_Lsmall, b_Lsmall := (fun_mk (st := s_Lsmall) l_Lsmall c_Lsmall k_Lsmall).binds (ps := ["_law_bag_here"]) fun _ _ _ _ _ _ us hl => match us, hl with | [_], _ => rfl, m_Ldone := PySem.W.mg_of X G a_Ldone, F_Ldone := fun_mk (st := s_Ldone) l_Ldone c_Ldone k_Ldone, k_Ldone := k_Ldone, b_Ldone := (fun_mk (st := s_Ldone) l_Ldone c_Ldone k_Ldone).binds (ps := ["_law_files", "_law_rows", "_law_arrangement", "_law_call_here"]) fun _ _ _ _ _ _ us hl => match us, hl with | [_, _, _, _], _ => rfl, m_law := PySem.W.mg_of X G a_law, F_law := fun_mk (st := s_law) l_law c_law k_law, k_law := k_law, b_law := (fun_mk (st := s_law) l_law c_law k_law).binds (ps := ["_law_script"]) fun _ _ _ _ _ _ us hl => match us, hl with | [_], _ => rfl, F_Script_init := fun_mk (st := s_Script_init) l_Script_init c_Script_init k_Script_init, k_Script_init := k_Script_init, b_Script_init := (fun_mk (st := s_Script_init) l_Script_init c_Script_init k_Script_init).binds (ps := ["self", "files", "calls"]) fun _ _ _ _ _ _ us hl => match us, hl with | [_, _, _], _ => rfl, F_Script_len := fun_mk (st := s_Script_len) l_Script_len c_Script_len k_Script_len, k_Script_len := k_Script_len, b_Script_len := (fun_mk (st := s_Script_len) l_Script_len c_Script_len k_Script_len).binds (ps := ["self"]) fun _ _ _ _ _ _ us hl => match us, hl with | [_], _ => rfl, F_Script_iter := fun_mk (st := s_Script_iter) l_Script_iter c_Script_iter k_Script_iter, k_Script_iter := k_Script_iter, b_Script_iter := (fun_mk (st := s_Script_iter) l_Script_iter c_Script_iter k_Script_iter).binds (ps := ["self"]) fun _ _ _ _ _ _ us hl => match us, hl with | [_], _ => rfl, F_Script_files := fun_mk (st := s_Script_files) l_Script_files c_Script_files k_Script_files, k_Script_files := k_Script_files, b_Script_files := (fun_mk (st := s_Script_files) l_Script_files c_Script_files k_Script_files).binds (ps := ["self"]) fun _ _ _ _ _ _ us hl => match us, hl with | [_], _ => rfl, F_Script_calls := fun_mk (st := s_Script_calls) l_Script_calls c_Script_calls k_Script_calls, k_Script_calls := k_Script_calls, b_Script_calls := (fun_mk (st := s_Script_calls) l_Script_calls c_Script_calls k_Script_calls).binds (ps := ["self"]) fun _ _ _ _ _ _ us hl => match us, hl with | [_], _ => rfl, g_PARTS := PySem.W.mg_of X G a_PARTS, d_PARTS := ⟨l_PARTS, li_PARTS, lo_PARTS⟩, v_PARTS_all := ⟨_, v_PARTS_all⟩, v_PARTS_up := ⟨_, v_PARTS_up⟩, v_PARTS_swap := ⟨_, v_PARTS_swap⟩, v_PARTS_wheel := ⟨_, v_PARTS_wheel⟩, v_PARTS_about := ⟨_, v_PARTS_about⟩, v_PARTS_front := ⟨_, v_PARTS_front⟩, v_PARTS_halve := ⟨_, v_PARTS_halve⟩, v_PARTS_pair := ⟨_, v_PARTS_pair⟩, v_PARTS_others := ⟨_, v_PARTS_others⟩, v_PARTS_fill := ⟨_, v_PARTS_fill⟩, g_UNDOING := PySem.W.mg_of X G a_UNDOING, d_UNDOING := ⟨l_UNDOING, li_UNDOING, lo_UNDOING⟩, v_UNDOING_halve := ⟨_, v_UNDOING_halve⟩, v_UNDOING_pair := ⟨_, v_UNDOING_pair⟩, v_UNDOING_others := ⟨_, v_UNDOING_others⟩, v_UNDOING_fill := ⟨_, v_UNDOING_fill⟩, o_UNDOING_all := o_UNDOING_all, o_UNDOING_up := o_UNDOING_up, o_UNDOING_swap := o_UNDOING_swap, o_UNDOING_wheel := o_UNDOING_wheel, o_UNDOING_about := o_UNDOING_about, o_UNDOING_front := o_UNDOING_front, g_ACTIONS := PySem.W.mg_of X G a_ACTIONS, d_ACTIONS := ⟨l_ACTIONS, li_ACTIONS, lo_ACTIONS⟩, v_ACTIONS_all := v_ACTIONS_all, v_ACTIONS_up := v_ACTIONS_up, v_ACTIONS_swap := v_ACTIONS_swap, v_ACTIONS_wheel := v_ACTIONS_wheel, v_ACTIONS_about := v_ACTIONS_about, v_ACTIONS_front := v_ACTIONS_front, v_ACTIONS_halve := v_ACTIONS_halve, v_ACTIONS_pair := v_ACTIONS_pair, v_ACTIONS_others := v_ACTIONS_others, v_ACTIONS_fill := v_ACTIONS_fill, n_len := PySem.W.mg_none_of X G z_len, n_abs := PySem.W.mg_none_of X G z_abs, n_int := PySem.W.mg_none_of X G z_int, n_sorted := PySem.W.mg_none_of X G z_sorted, n_list := PySem.W.mg_none_of X G z_list, n_tuple := PySem.W.mg_none_of X G z_tuple, n_range := PySem.W.mg_none_of X G z_range, n_zip := PySem.W.mg_none_of X G z_zip, n_all := PySem.W.mg_none_of X G z_all, n_set := PySem.W.mg_none_of X G z_set, n_isinstance := PySem.W.mg_none_of X G z_isinstance, n_str := PySem.W.mg_none_of X G z_str, n_bool := PySem.W.mg_none_of X G z_bool, n_repr := PySem.W.mg_none_of X G z_repr, n_reversed := PySem.W.mg_none_of X G z_reversed, n_iter := PySem.W.mg_none_of X G z_iter, n_ValueError := PySem.W.mg_none_of X G z_ValueError }
  exact ⟨_, fun s v => .of_eq rfl, fun base _ _ => ok_law T⟩
theorem walk {l : PySem.W.OpenLaw} {q : Program} {loose : List Str} {XP : (Str → Option Value) → Heap → Prop} {YP : World → Heap → Prop} {d : DefRec} {K : Params → PySem.W.Frag} (hn : l.most = some 63) (hdf : d.params.defaults = [])
    (hY : ∀ (w : World) (h : Heap), YP w h → (K w.params).In h)
    (F : ∀ (w : World) (mg : Str → Option Value) (fa : Addr) (h : Heap), (K w.params).In h → h.Ns mainGlobals mg → mg d.name = some (.ref fa) →
      ∃ fd : FuncData, (∀ (s : Shared) (u : Value), BindsTo s fd ⟨[u], []⟩ [("_law_script", u)]) ∧ ∀ base : Heap, (K w.params).In base → base.Ns mainGlobals mg → Ow.FnG l.prog w (K w.params) mg base CX0 8 fa fd ["_law_script"] (sp_law (K w.params))) :
    PySem.W.WalkO q loose XP YP l.row.toRowW d [] (fun f vs => PySem.call f vs) :=
  Ow.walk_G (n := 63) (k := 8) (x := "_law_script") (sp := fun K => sp_law K) hn (by decide) hdf ⟨rfl, by decide, by decide⟩ hY F (fun K H a ns hl hS => law_start hl hS)
end My
open PySem PySem.W PyProof.Rows in
set_option maxRecDepth 100000 in
set_option maxHeartbeats 0 in
theorem PySem.Challenge.cw_pupilpairs_k86_arrangements_behind_calls_holds : PySem.Challenge.rw_pupilpairs_k86_arrangements_behind_calls.Holds := by
  w_on; o_law; k_head; (case hw => w_witness2)
  k_fill
  refine My.walk (l := PySem.Challenge.rw_pupilpairs_k86_arrangements_behind_calls) rfl rfl (fun w h Y => PySem.W.kIn_of Y) ?F
  case F =>
    intro w mg fa h KX G hmg
    refine' My.all_mk KX G hmg ?g_Script ?pg_Script ?hd_Script ?po_Script ?sa_Script ?ha_Script ?hm_Script ?mk_Script ?kc_Script ?kI_Script ?kB_Script ?kT_Script ?kL_Script ?kD_Script ?kS_Script ?kO_Script ?bI_Script ?bL_Script ?bT_Script ?ne_Script ?nI_Script ?nL_Script ?nT_Script ?A_Script_width ?A_Script_held ?hgt ?htk ?a_is_integer ?l_is_integer ?c_is_integer ?k_is_integer ?a_is_files ?l_is_files ?c_is_files ?k_is_files ?a_is_index ?l_is_index ?c_is_index ?k_is_index ?a_is_part ?l_is_part ?c_is_part ?k_is_part ?a_is_call ?l_is_call ?c_is_call ?k_is_call ?a_turned ?l_turned ?c_turned ?k_turned ?a_files_of ?l_files_of ?c_files_of ?k_files_of ?a_behind_all ?l_behind_all ?c_behind_all ?k_behind_all ?a_behind_up ?l_behind_up ?c_behind_up ?k_behind_up ?a_behind_swap ?l_behind_swap ?c_behind_swap ?k_behind_swap ?a_behind_wheel ?l_behind_wheel ?c_behind_wheel ?k_behind_wheel ?a_behind_about ?l_behind_about ?c_behind_about ?k_behind_about ?a_behind_front ?l_behind_front ?c_behind_front ?k_behind_front ?a_behind_halve ?l_behind_halve ?c_behind_halve ?k_behind_halve ?a_behind_pair ?l_behind_pair ?c_behind_pair ?k_behind_pair ?a_behind_others ?l_behind_others ?c_behind_others ?k_behind_others ?a_behind_fill ?l_behind_fill ?c_behind_fill ?k_behind_fill ?a_columns_led ?l_columns_led ?c_columns_led ?k_columns_led ?a_columns_of ?l_columns_of ?c_columns_of ?k_columns_of ?a_order_of ?l_order_of ?c_order_of ?k_order_of ?a_first_columns ?l_first_columns ?c_first_columns ?k_first_columns ?a_order_behind ?l_order_behind ?c_order_behind ?k_order_behind ?a_arranged ?l_arranged ?c_arranged ?k_arranged ?a_Lbag ?l_Lbag ?c_Lbag ?k_Lbag ?a_Ltake ?l_Ltake ?c_Ltake ?k_Ltake ?a_Lone ?l_Lone ?c_Lone ?k_Lone ?a_Lmixed ?l_Lmixed ?c_Lmixed ?k_Lmixed ?a_Lalike ?l_Lalike ?c_Lalike ?k_Lalike ?a_Lcall ?l_Lcall ?c_Lcall ?k_Lcall ?a_Lopen ?l_Lopen ?c_Lopen ?k_Lopen ?a_Lgoes ?l_Lgoes ?c_Lgoes ?k_Lgoes ?a_Lundo ?l_Lundo ?c_Lundo ?k_Lundo ?a_Lsmall ?l_Lsmall ?c_Lsmall ?k_Lsmall ?a_Ldone ?l_Ldone ?c_Ldone ?k_Ldone ?a_law ?l_law ?c_law ?k_law ?e_Script_init ?i_Script_init ?l_Script_init ?c_Script_init ?k_Script_init ?e_Script_len ?i_Script_len ?l_Script_len ?c_Script_len ?k_Script_len ?e_Script_iter ?i_Script_iter ?l_Script_iter ?c_Script_iter ?k_Script_iter ?e_Script_files ?pg_Script_files ?pt_Script_files ?pr_Script_files ?l_Script_files ?c_Script_files ?k_Script_files ?e_Script_calls ?i_Script_calls ?l_Script_calls ?c_Script_calls ?k_Script_calls ?a_PARTS ?l_PARTS ?v_PARTS_all ?v_PARTS_up ?v_PARTS_swap ?v_PARTS_wheel ?v_PARTS_about ?v_PARTS_front ?v_PARTS_halve ?v_PARTS_pair ?v_PARTS_others ?v_PARTS_fill ?li_PARTS ?lo_PARTS ?a_UNDOING ?l_UNDOING ?v_UNDOING_halve ?v_UNDOING_pair ?v_UNDOING_others ?v_UNDOING_fill ?o_UNDOING_all ?o_UNDOING_up ?o_UNDOING_swap ?o_UNDOING_wheel ?o_UNDOING_about ?o_UNDOING_front ?li_UNDOING ?lo_UNDOING ?a_ACTIONS ?l_ACTIONS ?v_ACTIONS_all ?v_ACTIONS_up ?v_ACTIONS_swap ?v_ACTIONS_wheel ?v_ACTIONS_about ?v_ACTIONS_front ?v_ACTIONS_halve ?v_ACTIONS_pair ?v_ACTIONS_others ?v_ACTIONS_fill ?li_ACTIONS ?lo_ACTIONS ?z_len ?z_abs ?z_int ?z_sorted ?z_list ?z_tuple ?z_range ?z_zip ?z_all ?z_set ?z_isinstance ?z_str ?z_bool ?z_repr ?z_reversed ?z_iter ?z_ValueError
    (case g_Script => k_is)
    (case pg_Script => k_is)
    (case hd_Script => k_is)
    (case po_Script => k_is)
    (case sa_Script => k_is)
    (case ha_Script => k_is)
    (case hm_Script => k_is)
    (case mk_Script => k_is)
    (case kc_Script => k_is)
    (case kI_Script => kit_is)
    (case kB_Script => kit_is)
    (case kT_Script => kit_is)
    (case kL_Script => kit_is)
    (case kD_Script => kit_is)
    (case kS_Script => kit_is)
    (case kO_Script => kit_is)
    (case bI_Script => kit_is)
    (case bL_Script => kit_is)
    (case bT_Script => kit_is)
    (case ne_Script => k_is)
    (case nI_Script => k_is)
    (case nL_Script => k_is)
    (case nT_Script => k_is)
    (case A_Script_width => k_is)
    (case A_Script_held => k_is)
    (case hgt => k_is)
    (case htk => k_is)
    (case a_is_integer => k_is)
    (case l_is_integer => k_is)
    (case c_is_integer => k_is)
    (case k_is_integer => k_is)
    (case a_is_files => k_is)
    (case l_is_files => k_is)
    (case c_is_files => k_is)
    (case k_is_files => k_is)
    (case a_is_index => k_is)
    (case l_is_index => k_is)
    (case c_is_index => k_is)
    (case k_is_index => k_is)
    (case a_is_part => k_is)
    (case l_is_part => k_is)
    (case c_is_part => k_is)
    (case k_is_part => k_is)
    (case a_is_call => k_is)
    (case l_is_call => k_is)
    (case c_is_call => k_is)
    (case k_is_call => k_is)
    (case a_turned => k_is)
    (case l_turned => k_is)
    (case c_turned => k_is)
    (case k_turned => k_is)
    (case a_files_of => k_is)
    (case l_files_of => k_is)
    (case c_files_of => k_is)
    (case k_files_of => k_is)
    (case a_behind_all => k_is)
    (case l_behind_all => k_is)
    (case c_behind_all => k_is)
    (case k_behind_all => k_is)
    (case a_behind_up => k_is)
    (case l_behind_up => k_is)
    (case c_behind_up => k_is)
    (case k_behind_up => k_is)
    (case a_behind_swap => k_is)
    (case l_behind_swap => k_is)
    (case c_behind_swap => k_is)
    (case k_behind_swap => k_is)
    (case a_behind_wheel => k_is)
    (case l_behind_wheel => k_is)
    (case c_behind_wheel => k_is)
    (case k_behind_wheel => k_is)
    (case a_behind_about => k_is)
    (case l_behind_about => k_is)
    (case c_behind_about => k_is)
    (case k_behind_about => k_is)
    (case a_behind_front => k_is)
    (case l_behind_front => k_is)
    (case c_behind_front => k_is)
    (case k_behind_front => k_is)
    (case a_behind_halve => k_is)
    (case l_behind_halve => k_is)
    (case c_behind_halve => k_is)
    (case k_behind_halve => k_is)
    (case a_behind_pair => k_is)
    (case l_behind_pair => k_is)
    (case c_behind_pair => k_is)
    (case k_behind_pair => k_is)
    (case a_behind_others => k_is)
    (case l_behind_others => k_is)
    (case c_behind_others => k_is)
    (case k_behind_others => k_is)
    (case a_behind_fill => k_is)
    (case l_behind_fill => k_is)
    (case c_behind_fill => k_is)
    (case k_behind_fill => k_is)
    (case a_columns_led => k_is)
    (case l_columns_led => k_is)
    (case c_columns_led => k_is)
    (case k_columns_led => k_is)
    (case a_columns_of => k_is)
    (case l_columns_of => k_is)
    (case c_columns_of => k_is)
    (case k_columns_of => k_is)
    (case a_order_of => k_is)
    (case l_order_of => k_is)
    (case c_order_of => k_is)
    (case k_order_of => k_is)
    (case a_first_columns => k_is)
    (case l_first_columns => k_is)
    (case c_first_columns => k_is)
    (case k_first_columns => k_is)
    (case a_order_behind => k_is)
    (case l_order_behind => k_is)
    (case c_order_behind => k_is)
    (case k_order_behind => k_is)
    (case a_arranged => k_is)
    (case l_arranged => k_is)
    (case c_arranged => k_is)
    (case k_arranged => k_is)
    (case a_Lbag => k_is)
    (case l_Lbag => k_is)
    (case c_Lbag => k_is)
    (case k_Lbag => k_is)
    (case a_Ltake => k_is)
    (case l_Ltake => k_is)
    (case c_Ltake => k_is)
    (case k_Ltake => k_is)
    (case a_Lone => k_is)
    (case l_Lone => k_is)
    (case c_Lone => k_is)
    (case k_Lone => k_is)
    (case a_Lmixed => k_is)
    (case l_Lmixed => k_is)
    (case c_Lmixed => k_is)
    (case k_Lmixed => k_is)
    (case a_Lalike => k_is)
    (case l_Lalike => k_is)
    (case c_Lalike => k_is)
    (case k_Lalike => k_is)
    (case a_Lcall => k_is)
    (case l_Lcall => k_is)
    (case c_Lcall => k_is)
    (case k_Lcall => k_is)
    (case a_Lopen => k_is)
    (case l_Lopen => k_is)
    (case c_Lopen => k_is)
    (case k_Lopen => k_is)
    (case a_Lgoes => k_is)
    (case l_Lgoes => k_is)
    (case c_Lgoes => k_is)
    (case k_Lgoes => k_is)
    (case a_Lundo => k_is)
    (case l_Lundo => k_is)
    (case c_Lundo => k_is)
    (case k_Lundo => k_is)
    (case a_Lsmall => k_is)
    (case l_Lsmall => k_is)
    (case c_Lsmall => k_is)
    (case k_Lsmall => k_is)
    (case a_Ldone => k_is)
    (case l_Ldone => k_is)
    (case c_Ldone => k_is)
    (case k_Ldone => k_is)
    (case a_law => k_is)
    (case l_law => k_is)
    (case c_law => k_is)
    (case k_law => k_is)
    (case e_Script_init => k_is)
    (case i_Script_init => k_is)
    (case l_Script_init => k_is)
    (case c_Script_init => k_is)
    (case k_Script_init => k_is)
    (case e_Script_len => k_is)
    (case i_Script_len => k_is)
    (case l_Script_len => k_is)
    (case c_Script_len => k_is)
    (case k_Script_len => k_is)
    (case e_Script_iter => k_is)
    (case i_Script_iter => k_is)
    (case l_Script_iter => k_is)
    (case c_Script_iter => k_is)
    (case k_Script_iter => k_is)
    (case e_Script_files => k_is)
    (case pg_Script_files => k_is)
    (case pt_Script_files => k_is)
    (case pr_Script_files => k_is)
    (case l_Script_files => k_is)
    (case c_Script_files => k_is)
    (case k_Script_files => k_is)
    (case e_Script_calls => k_is)
    (case i_Script_calls => k_is)
    (case l_Script_calls => k_is)
    (case c_Script_calls => k_is)
    (case k_Script_calls => k_is)
    (case a_PARTS => k_is)
    (case l_PARTS => k_is)
    (case v_PARTS_all => k_is)
    (case v_PARTS_up => k_is)
    (case v_PARTS_swap => k_is)
    (case v_PARTS_wheel => k_is)
    (case v_PARTS_about => k_is)
    (case v_PARTS_front => k_is)
    (case v_PARTS_halve => k_is)
    (case v_PARTS_pair => k_is)
    (case v_PARTS_others => k_is)
    (case v_PARTS_fill => k_is)
    (case li_PARTS => exact ⟨⟨_, _, rfl, rfl⟩, ⟨_, _, rfl, rfl⟩, ⟨_, _, rfl, rfl⟩, ⟨_, _, rfl, rfl⟩, ⟨_, _, rfl, rfl⟩, ⟨_, _, rfl, rfl⟩, ⟨_, _, rfl, rfl⟩, ⟨_, _, rfl, rfl⟩, ⟨_, _, rfl, rfl⟩, ⟨_, _, rfl, rfl⟩, trivial⟩)
    (case lo_PARTS => decide +kernel)
    (case a_UNDOING => k_is)
    (case l_UNDOING => k_is)
    (case v_UNDOING_halve => k_is)
    (case v_UNDOING_pair => k_is)
    (case v_UNDOING_others => k_is)
    (case v_UNDOING_fill => k_is)
    (case o_UNDOING_all => k_is)
    (case o_UNDOING_up => k_is)
    (case o_UNDOING_swap => k_is)
    (case o_UNDOING_wheel => k_is)
    (case o_UNDOING_about => k_is)
    (case o_UNDOING_front => k_is)
    (case li_UNDOING => exact ⟨⟨_, _, rfl, rfl⟩, ⟨_, _, rfl, rfl⟩, ⟨_, _, rfl, rfl⟩, ⟨_, _, rfl, rfl⟩, trivial⟩)
    (case lo_UNDOING => decide +kernel)
    (case a_ACTIONS => k_is)
    (case l_ACTIONS => k_is)
    (case v_ACTIONS_all => k_is)
    (case v_ACTIONS_up => k_is)
    (case v_ACTIONS_swap => k_is)
    (case v_ACTIONS_wheel => k_is)
    (case v_ACTIONS_about => k_is)
    (case v_ACTIONS_front => k_is)
    (case v_ACTIONS_halve => k_is)
    (case v_ACTIONS_pair => k_is)
    (case v_ACTIONS_others => k_is)
    (case v_ACTIONS_fill => k_is)
    (case li_ACTIONS => exact ⟨⟨_, _, rfl, rfl⟩, ⟨_, _, rfl, rfl⟩, ⟨_, _, rfl, rfl⟩, ⟨_, _, rfl, rfl⟩, ⟨_, _, rfl, rfl⟩, ⟨_, _, rfl, rfl⟩, ⟨_, _, rfl, rfl⟩, ⟨_, _, rfl, rfl⟩, ⟨_, _, rfl, rfl⟩, ⟨_, _, rfl, rfl⟩, trivial⟩)
    (case lo_ACTIONS => decide +kernel)
    (case z_len => k_is)
    (case z_abs => k_is)
    (case z_int => k_is)
    (case z_sorted => k_is)
    (case z_list => k_is)
    (case z_tuple => k_is)
    (case z_range => k_is)
    (case z_zip => k_is)
    (case z_all => k_is)
    (case z_set => k_is)
    (case z_isinstance => k_is)
    (case z_str => k_is)
    (case z_bool => k_is)
    (case z_repr => k_is)
    (case z_reversed => k_is)
    (case z_iter => k_is)
    (case z_ValueError => k_is)


